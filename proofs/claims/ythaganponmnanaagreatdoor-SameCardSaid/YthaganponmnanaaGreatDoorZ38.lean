/- Contracts of unfoldkeep's letter and file: words. Contract of unfoldkeep's heads: functions without their bodies, fit for a well-formed program. What an op that was made fits, and the boxes of unfoldkeep's op. Rows that are readable whatever becomes of some blocks, and that a program made of fit heads and fit ops is well-formed. -/
import Derived.Test.YthaganponmnanaaGreatDoorT3
import Derived.Test.YthaganponmnanaaGreatDoorZ17
namespace Go.Proofs.YthaganponmnanaaGreatDoor
open Go.RowKit

/-- A word of one letter. -/
def letterD (i : Nat) : ByteArray := strOfNums [97 + (i : Int)]

set_option maxHeartbeats 4000000 in
set_option maxRecDepth 100000 in
theorem letter_any (i : Nat) (w : World) (hi : i < 26) :
    Calls Tryz.prog 30 #[.int .i64 i] w fun e w' => e = .returned (.string (letterD i)) ∧ Below w.heap.size w w' := by
  obtain ⟨wA, hwA⟩ : ∃ v, v = w.alloc (Obj.cells #[.int .u8 (97 + (i : Int))] 5) := ⟨_, rfl⟩
  have hbA : Below w.heap.size w wA := by rw [hwA]; exact (Below.refl _ _).alloc (Nat.le_refl _) _
  have kA : wA.heap[w.heap.size]? = some (.cells #[.int .u8 (97 + (i : Int))] 5 (0, 0)) := by rw [hwA]; exact heap_new_at rfl
  have v1 := run_convert_bytes_arg (P := Tryz.prog) wA 28 5 Tryz.underlying28 Tryz.underlying5 w.heap.size 0 1 1 [97 + (i : Int)] rfl (fun j hj => by
    have : j = 0 := by omega
    subst this
    simp [World.cell?, kA]) 9 Tryz.underlying9
  rw [hwA] at v1 hbA
  clear kA hwA wA
  go_enter Tryz.func30, Tryz.ntmps30
  go_wp2
  go_ret
  exact ⟨rfl, hbA⟩

/-- One of three files. -/
def fileD (n : Nat) : ByteArray := if n % 3 = 0 then strOfNums [120, 47, 111, 110, 101] else letterD (n % 3)

set_option maxHeartbeats 4000000 in
set_option maxRecDepth 100000 in
theorem file_any (s : ByteArray) (w : World) (hs : s.size ≤ maxLen) :
    Calls Tryz.prog 31 #[.string s] w fun e w' => e = .returned (.string (fileD s.size)) ∧ Below w.heap.size w w' := by
  obtain ⟨n, hn⟩ : ∃ v, v = s.size := ⟨_, rfl⟩
  unfold maxLen at hs
  rw [← hn] at hs ⊢
  have hmod : ((n : Int) % 3) = ((n % 3 : Nat) : Int) := by omega
  have hlt : n % 3 < 26 := by omega
  have HL := hid (letter_any (n % 3) w hlt)
  by_cases h0 : n % 3 = 0
  · have HF : Hid (fileD n = ⟨#[120, 47, 111, 110, 101]⟩) := hid (by unfold fileD; rw [if_pos h0]; rfl)
    have h1 : ((s.size : Int) % 3 == 0) = true := by rw [← hn, hmod, h0]; rfl
    clear HL
    go_enter Tryz.func31, Tryz.ntmps31
    go_wp2
    go_ret
    exact ⟨by rw [HF.out]; rfl, Below.refl _ _⟩
  · have HF : Hid (fileD n = letterD (n % 3)) := hid (by unfold fileD; rw [if_neg h0])
    have h1 : ((s.size : Int) % 3 == 0) = false := by
      have : ((s.size : Int) % 3) ≠ 0 := by omega
      simpa using this
    rw [← hmod, hn] at HL
    go_enter Tryz.func31, Tryz.ntmps31
    go_wp2_with fail
    refine HL.out.mono ?_
    rintro e w1 ⟨rfl, hb1⟩
    go_wp2
    go_ret
    exact ⟨by rw [HF.out, hn]; rfl, hb1⟩
end Go.Proofs.YthaganponmnanaaGreatDoor
namespace Go.Proofs.YthaganponmnanaaGreatDoor
open Go.RowKit

theorem Tryz.infoFunc5 : (Tryz.prog.info? 44).map (fun i => (i.zero, i.size, i.bytes)) = some (some (.agg #[.string ⟨#[]⟩, .string ⟨#[]⟩, .int .i64 0, .int .i64 0, .slice none 0 0]), 5, 72) := by kernel_rfl
def fnC (x : FnD) (bv : Value) : List Value := [.string x.name, .string x.file, .int .i64 x.params, .int .i64 x.locals, bv]
def HeadOk (i : Nat) (x : FnD) : Prop := x.name = letterD i ∧ wordB x.file = true ∧ (1 ≤ x.locals ∧ x.locals ≤ 8) ∧ (0 ≤ x.params ∧ x.params ≤ x.locals)
def HeadsOk (l : List FnD) : Prop := ∀ i x, l[i]? = some x → HeadOk i x

def RawOp (o : OpD) : Prop := R64 o.code ∧ R64 o.line ∧ R64 o.a ∧ R64 o.b ∧ R64 o.c ∧ ∀ x ∈ o.args, R64 x
def RawFn (f : FnD) : Prop := R64 f.params ∧ R64 f.locals ∧ ∀ o ∈ f.body, RawOp o
/-- Numbers as they may come. -/
def RawP (p : List FnD) : Prop := ∀ f ∈ p, RawFn f
theorem pickI_lt (c : Int) {n : Int} (h : 0 < n) : 0 ≤ pickI c n ∧ pickI c n < n := ⟨Int.emod_nonneg _ (by omega), Int.emod_lt_of_pos _ h⟩
theorem r64_wrap (x : Int) : R64 (RowKit.wrap64 x) := by
  unfold R64 RowKit.wrap64
  omega
theorem fileD_word (n : Nat) : wordB (fileD n) = true := by
  unfold fileD
  have : n % 3 = 0 ∨ n % 3 = 1 ∨ n % 3 = 2 := by omega
  rcases this with h | h | h <;> rw [h] <;> decide
theorem flat_fn (l : List FnD) (x : FnD) (bv : Value) : ((l ++ [x]).map fun x => fnC x bv).flatten = (l.map fun x => fnC x bv).flatten ++ fnC x bv := by simp
theorem HeadsOk.snoc {l : List FnD} {x : FnD} (h : HeadsOk l) (hx : HeadOk l.length x) : HeadsOk (l ++ [x]) := fun i y hi => by
  rcases Nat.lt_or_ge i l.length with h1 | h1
  · rw [List.getElem?_append_left h1] at hi
    exact h i y hi
  · rw [List.getElem?_append_right h1] at hi
    have : i = l.length := by have := (List.getElem?_eq_some_iff.1 hi).1; simp at this; omega
    subst this
    simp at hi
    subst hi
    exact hx
theorem fn_ones (a b : ByteArray) (c d : Int) (x : Option Addr) (n m : Nat) : ∀ u ∈ [Value.string a, .string b, .int .i64 c, .int .i64 d, .slice x n m], u.oneCell' = true := by
  intro u hu
  simp at hu
  rcases hu with rfl | rfl | rfl | rfl | rfl <;> rfl

set_option maxHeartbeats 4000000 in
set_option maxRecDepth 100000 in
theorem heads_any (pa : Option Addr) (pcap : Nat) (p : List FnD) (most : Nat) (w : World) (hp : RdP w pa p.length pcap p) (hraw : RawP p) (hm1 : 1 ≤ most) (hm2 : most ≤ 12) :
    Calls Tryz.prog 20 #[.agg #[.slice pa p.length pcap], .int .i64 most] w fun e w' =>
      ∃ (l : List FnD) (v : Value), e = .returned v ∧ 1 ≤ l.length ∧ l.length ≤ most ∧ HeadsOk l ∧ w'.ownsRow w.heap.size 44 5 v l.length (l.map fun x => fnC x (.slice none 0 0)).flatten ∧ Below w.heap.size w w' := by
  have HP := hid hp
  have HRAW := hid hraw
  have hq1 := hp.2.1
  have hq2 := hp.2.2.1
  unfold maxLen at hq2
  obtain ⟨pl, hpl⟩ : ∃ v, v = p.length := ⟨_, rfl⟩
  rw [← hpl] at HP hq1 ⊢
  have HPL := hid hpl
  clear hp hraw hpl
  obtain ⟨wb, hwb⟩ : ∃ v, v = w.alloc (Obj.cells #[.slice pa pl pcap] 24) := ⟨_, rfl⟩
  have hbb : Below w.heap.size w wb := by rw [hwb]; exact (Below.refl _ _).alloc (Nat.le_refl _) _
  have hbs : wb.heap.size = w.heap.size + 1 := by rw [hwb]; simp
  have kb : wb.heap[w.heap.size]? = some (.cells #[.slice pa pl pcap] 24 (0, 0)) := by rw [hwb]; exact heap_new_at rfl
  have HKB := hid kb
  have HBB := hid hbb
  clear kb hbb
  obtain ⟨i0, hi, hz0, hz1, hz2⟩ := info_parts Tryz.infoFunc5
  go_enter Tryz.func20, Tryz.ntmps20
  go_wp2
  rw [← hwb]
  clear hwb
  go_loopw [5, 6] (fun lv i wr => ∃ (k : Nat) (l : List FnD), i = .int .i64 k ∧ k ≤ pl ∧ k ≤ most ∧ l.length = k ∧ HeadsOk l ∧ wr.ownsRow wb.heap.size 44 5 lv k (l.map fun x => fnC x (.slice none 0 0)).flatten ∧ Below wb.heap.size wb wr) (fun _ i _ => most - (intOf i).toNat)
  case atStart => exact ⟨0, [], rfl, by omega, by omega, rfl, fun i x h => by simp at h, World.ownsRow_nil _ _ _ _, Below.refl _ _⟩
  case round =>
    obtain ⟨k, l, rfl, hk, hkm, hll, hok, hown, hbel⟩ := hrel
    have hsw := hbel.size
    have p0 : wr.cell? ⟨w.heap.size, 0, none⟩ = some (.slice pa pl pcap) := by
      have h := (hbel.block w.heap.size (by omega)).trans HKB.out
      simp [World.cell?, h]
    by_cases hkn : k < pl
    · have hkn' : (k : Int) < (pl : Int) := by omega
      by_cases hkm2 : k < most
      · have hkm' : (k : Int) < (most : Int) := by omega
        obtain ⟨f, hf⟩ : ∃ f, p[k]? = some f := ⟨_, List.getElem?_eq_getElem (by rw [← HPL.out]; exact hkn)⟩
        obtain ⟨fb, foff, ba, bcap, rfl, -, n0, n1, n2, n3, n4, -, hs1, hs2⟩ := HP.out.at k f hf
        obtain ⟨hr1, hr2, -⟩ := HRAW.out f (List.mem_of_getElem? hf)
        have upw : ∀ (q : Addr) (u : Value), w.cell? q = some u → wr.cell? q = some u := fun q u h => ((HBB.out.trans (hbel.mono HBB.out.size)).cell (World.block_lt_of_cell? w _ h)).trans h
        replace n0 := upw _ _ n0
        replace n1 := upw _ _ n1
        replace n2 := upw _ _ n2
        replace n3 := upw _ _ n3
        replace n4 := upw _ _ n4
        clear upw
        generalize f.name = nm at *
        generalize f.file = fl at *
        generalize f.params = fp at *
        generalize f.locals = fo at *
        generalize f.body.length = bl at *
        obtain ⟨A, hA⟩ : ∃ v, v = RowKit.wrap64 (fo - 1) := ⟨_, rfl⟩
        have hA1 : R64 A := by rw [hA]; exact r64_wrap _
        obtain ⟨L, hL⟩ : ∃ v, v = 1 + pickI A 8 := ⟨_, rfl⟩
        have hL1 : 1 ≤ L ∧ L ≤ 8 := by have := pickI_lt A (n := 8) (by omega); omega
        obtain ⟨R, hR⟩ : ∃ v, v = pickI fp (L + 1) := ⟨_, rfl⟩
        have hR1 : 0 ≤ R ∧ R ≤ L := by have := pickI_lt fp (n := L + 1) (by omega); omega
        have HC1 := hid (fun W => pick_any A 8 W hA1.1 hA1.2 (by omega) (by omega))
        have HC2 := hid (fun W => pick_any fp (L + 1) W hr1.1 hr1.2 (by omega) (by omega))
        have HC3 := hid (fun W => letter_any k W (by omega))
        have HC4 := hid (fun W => file_any fl W hs2)
        rw [← hR] at HC2
        have HA := hid hA
        have HL := hid hL
        obtain ⟨PA, hPA⟩ : ∃ v, v = pickI A 8 := ⟨_, rfl⟩
        rw [← hPA] at HC1 HL
        have hPA1 : 0 ≤ PA ∧ PA < 8 := by rw [hPA]; exact pickI_lt A (by omega)
        have HOK := hid hok
        have HLL := hid hll
        have HOWN := hid hown
        have HBEL := hid hbel
        have HX : Hid (HeadOk k ⟨letterD k, fileD fl.size, R, L, []⟩) := hid ⟨rfl, fileD_word _, hL1, hR1⟩
        obtain ⟨w2, hw2⟩ : ∃ v, v = wr.alloc (Obj.cells #[.string nm, .string fl, .int .i64 fp, .int .i64 fo, .slice ba bl bcap] 44) := ⟨_, rfl⟩
        have hb2 : Below wr.heap.size wr w2 := by rw [hw2]; exact (Below.refl _ _).alloc (Nat.le_refl _) _
        have hs2' : w2.heap.size = wr.heap.size + 1 := by rw [hw2]; simp
        have kF : w2.heap[wr.heap.size]? = some (.cells #[.string nm, .string fl, .int .i64 fp, .int .i64 fo, .slice ba bl bcap] 44 (0, 0)) := by rw [hw2]; exact heap_new_at rfl
        have s1 : w2.cell? ⟨wr.heap.size, 1, none⟩ = some (.string fl) := by simp [World.cell?, kF]
        have s2 : w2.cell? ⟨wr.heap.size, 2, none⟩ = some (.int .i64 fp) := by simp [World.cell?, kF]
        have s3 : w2.cell? ⟨wr.heap.size, 3, none⟩ = some (.int .i64 fo) := by simp [World.cell?, kF]
        clear hA hL hPA hok hll hown hbel hR hr1 hr2 hA1 hf hs1 hs2
        go_wp2_with fail
        rw [← hw2]
        clear hw2
        rw [← HA.out]
        refine (HC1.out w2).mono ?_
        rintro e w2' ⟨rfl, h2e⟩
        rw [h2e]
        clear h2e w2'
        obtain ⟨w3, hw3⟩ : ∃ v, v = w2.alloc (Obj.cells #[.string ⟨#[]⟩, .string ⟨#[]⟩, .int .i64 0, .int .i64 L, .slice none 0 0] 44) := ⟨_, rfl⟩
        have hb3 : Below w2.heap.size w2 w3 := by rw [hw3]; exact (Below.refl _ _).alloc (Nat.le_refl _) _
        have hs3 : w3.heap.size = w2.heap.size + 1 := by rw [hw3]; simp
        obtain ⟨X, hX⟩ : ∃ v, v = wr.heap.size + 1 := ⟨_, rfl⟩
        have hX2 : w2.heap.size = X := by omega
        have kX : w3.heap[X]? = some (.cells #[.string ⟨#[]⟩, .string ⟨#[]⟩, .int .i64 0, .int .i64 L, .slice none 0 0] 44 (0, 0)) := by rw [hw3]; exact heap_new_at hX2
        have s31 := (hb3.cell (p := ⟨wr.heap.size, 1, none⟩) (by simp; omega)).trans s1
        have HB3 := hid (hb2.trans (hb3.mono hb2.size))
        have HXE := hid hX
        have HW3 := hid hw3
        have HS31 := hid s31
        clear hX hw3 hb2 hb3 s31
        go_wp2_with fail
        rw [← HL.out, ← HW3.out, ← HXE.out]
        clear s1 s2 s3
        have c30 : w3.cell? ⟨X, 2, none⟩ = some (.int .i64 0) := by simp [World.cell?, kX]
        have f30 : w3.frozen? ⟨X, 2, none⟩ = false := by simp [World.frozen?, kX]
        have s31 := HS31.out
        refine (HC2.out w3).mono ?_
        rintro e w3' ⟨rfl, h3e⟩
        rw [h3e]
        clear h3e w3' HW3
        obtain ⟨w4, hw4⟩ : ∃ v, v = w3.setCell ⟨X, 2, none⟩ (.int .i64 R) := ⟨_, rfl⟩
        have kX4 : w4.heap[X]? = some (.cells #[.string ⟨#[]⟩, .string ⟨#[]⟩, .int .i64 R, .int .i64 L, .slice none 0 0] 44 (0, 0)) := by
          rw [hw4, heap_setCell_same _ X 2 _ _ _ kX]
          rfl
        have hxw : wr.heap.size < X := by have := HXE.out; omega
        have s41 : w4.cell? ⟨wr.heap.size, 1, none⟩ = some (.string fl) := by
          rw [hw4, World.cell?_setCell_far _ _ _ _ (by show X ≠ wr.heap.size; omega)]
          exact s31
        have hb4 : Below wr.heap.size wr w4 := by rw [hw4]; exact HB3.out.setCell (p := ⟨X, 2, none⟩) (by show wr.heap.size ≤ X; omega) _
        have hs4 : w4.heap.size = wr.heap.size + 2 := by rw [hw4]; simp; omega
        have HK4 := hid kX4
        have HB4 := hid hb4
        clear kX kX4 hb4
        go_wp2_with fail
        rw [← hw4]
        clear hw4 s31 c30 f30
        refine (HC3.out w4).mono ?_
        rintro e w5 ⟨rfl, hb5⟩
        have kX5 := (hb5.block X (by have := HXE.out; omega)).trans HK4.out
        have s51 := (hb5.cell (p := ⟨wr.heap.size, 1, none⟩) (by simp; omega)).trans s41
        have c50 : w5.cell? ⟨X, 0, none⟩ = some (.string ⟨#[]⟩) := by simp [World.cell?, kX5]
        have f50 : w5.frozen? ⟨X, 0, none⟩ = false := by simp [World.frozen?, kX5]
        obtain ⟨w6, hw6⟩ : ∃ v, v = w5.setCell ⟨X, 0, none⟩ (.string (letterD k)) := ⟨_, rfl⟩
        have kX6 : w6.heap[X]? = some (.cells #[.string (letterD k), .string ⟨#[]⟩, .int .i64 R, .int .i64 L, .slice none 0 0] 44 (0, 0)) := by
          rw [hw6, heap_setCell_same _ X 0 _ _ _ kX5]
          rfl
        have s61 : w6.cell? ⟨wr.heap.size, 1, none⟩ = some (.string fl) := by
          rw [hw6, World.cell?_setCell_far _ _ _ _ (by show X ≠ wr.heap.size; omega)]
          exact s51
        have hs5 := hb5.size
        have hb6 : Below wr.heap.size wr w6 := by rw [hw6]; exact (HB4.out.trans (hb5.mono (by omega))).setCell (p := ⟨X, 0, none⟩) (by show wr.heap.size ≤ X; omega) _
        have hs6 : w6.heap.size = w5.heap.size := by rw [hw6]; simp
        have HK6 := hid kX6
        have HB6 := hid hb6
        have HS61 := hid s61
        clear kX5 kX6 hb6 s41 hb5 s61
        go_wp2_with fail
        rw [← hw6]
        clear hw6 c50 f50 s51
        refine (HC4.out w6).mono ?_
        rintro e w7 ⟨rfl, hb7⟩
        have kX7 := (hb7.block X (by have := HXE.out; omega)).trans HK6.out
        have c70 : w7.cell? ⟨X, 1, none⟩ = some (.string ⟨#[]⟩) := by simp [World.cell?, kX7]
        have f70 : w7.frozen? ⟨X, 1, none⟩ = false := by simp [World.frozen?, kX7]
        obtain ⟨w8, hw8⟩ : ∃ v, v = w7.setCell ⟨X, 1, none⟩ (.string (fileD fl.size)) := ⟨_, rfl⟩
        have kX8 : w8.heap[X]? = some (.cells #[.string (letterD k), .string (fileD fl.size), .int .i64 R, .int .i64 L, .slice none 0 0] 44 (0, 0)) := by
          rw [hw8, heap_setCell_same _ X 1 _ _ _ kX7]
          rfl
        have hs7 := hb7.size
        have hb8 : Below wr.heap.size wr w8 := by rw [hw8]; exact (HB6.out.trans (hb7.mono (by omega))).setCell (p := ⟨X, 1, none⟩) (by show wr.heap.size ≤ X; omega) _
        have hs8 : w8.heap.size = w7.heap.size := by rw [hw8]; simp
        have x0 : w7.cell? ⟨X, 0, none⟩ = some (.string (letterD k)) := by simp [World.cell?, kX7]
        have x2 : w7.cell? ⟨X, 2, none⟩ = some (.int .i64 R) := by simp [World.cell?, kX7]
        have x3 : w7.cell? ⟨X, 3, none⟩ = some (.int .i64 L) := by simp [World.cell?, kX7]
        have x4 : w7.cell? ⟨X, 4, none⟩ = some (.slice none 0 0) := by simp [World.cell?, kX7]
        have HO8 := hid (ownsRow_below HOWN.out hb8)
        have HB8 := hid (HBEL.out.trans (hb8.mono hsw))
        have hz8 : wb.heap.size ≤ w8.heap.size := by omega
        have HFL : Hid (((l ++ [(⟨letterD k, fileD fl.size, R, L, []⟩ : FnD)]).map fun x => fnC x (.slice none 0 0)).flatten = (l.map fun x => fnC x (.slice none 0 0)).flatten ++ [.string (letterD k), .string (fileD fl.size), .int .i64 R, .int .i64 L, .slice none 0 0]) := hid (flat_fn _ _ _)
        generalize letterD k = lk at *
        generalize fileD fl.size = fk at *
        clear kX7 kX8 hb8 hb7 HS61 HC1 HC2 HC3 HC4
        subst hw8
        go_wp2_with (at_builtin; refine wpList_append_lies _ rfl (.tmp 47) (.tmp 49) 22 rfl wb.heap.size 44 i0 (.agg #[.string ⟨#[]⟩, .string ⟨#[]⟩, .int .i64 0, .int .i64 0, .slice none 0 0]) 5 72 Tryz.underlying22 hi hz0 hz1 hz2 rfl (by decide) _ _ _ rfl (HO8.out.alloc _) ⟨w7.heap.size, 0, none⟩ 1 1 [.string lk, .string fk, .int .i64 R, .int .i64 L, .slice none 0 0] rfl rfl (ent5_new_at (by simp) _ _ _ _ _ _) (fn_ones _ _ _ _ _ _ _) (by decide) (by unfold maxLen; omega) (by omega) (by simp; omega) _ rfl ?_)
        intro g' c' w9 hown9 hgrow9 _ _
        rw [← HFL.out] at hown9
        have hbel9 : Below wb.heap.size wb w9 := (HB8.out.alloc hz8 _).grown hgrow9 (by simp; omega) (fun b hb => (HOWN.out.lt b hb).1)
        have HO9 := hid hown9
        have HB9 := hid hbel9
        clear hown9 hbel9 hgrow9 HO8 HB8 x0 x2 x3 x4 c70 f70
        go_wp2
        go_roundw
        case rel => exact ⟨k + 1, _, by go_num, by omega, by omega, by simp [HLL.out], HOK.out.snoc (by rw [HLL.out]; exact HX.out), by rw [hbs]; exact HO9.out, HB9.out⟩
        case measure => simp [intOf]; omega
      · have hkm' : decide ((k : Int) < (most : Int)) = false := by simp; omega
        obtain ⟨va, vcap, rfl⟩ : ∃ va vcap, u5 = .slice va k vcap := by
          rcases hown.2 with ⟨h1, h2⟩ | ⟨g, c', cur, h1, _⟩
          · exact ⟨none, 0, by rw [h1, h2]⟩
          · exact ⟨_, c', h1⟩
        have hk0 : decide ((k : Int) = 0) = false := by simp; omega
        have HF := hid (⟨owns_low9 hown (show w.heap.size ≤ wb.heap.size by omega), HBB.out.trans (hbel.mono HBB.out.size)⟩ : _ ∧ _)
        clear hown hbel
        go_wp2
        go_ret
        exact ⟨l, _, rfl, by omega, by omega, hok, by rw [hll]; exact HF.out.1, HF.out.2⟩
    · have hkn' : decide ((k : Int) < (pl : Int)) = false := by simp; omega
      obtain ⟨va, vcap, rfl⟩ : ∃ va vcap, u5 = .slice va k vcap := by
        rcases hown.2 with ⟨h1, h2⟩ | ⟨g, c', cur, h1, _⟩
        · exact ⟨none, 0, by rw [h1, h2]⟩
        · exact ⟨_, c', h1⟩
      by_cases hk1 : 0 < k
      · have hk0 : decide ((k : Int) = 0) = false := by simp; omega
        have HF := hid (⟨owns_low9 hown (show w.heap.size ≤ wb.heap.size by omega), HBB.out.trans (hbel.mono HBB.out.size)⟩ : _ ∧ _)
        clear hown hbel
        go_wp2
        go_ret
        exact ⟨l, _, rfl, by omega, by omega, hok, by rw [hll]; exact HF.out.1, HF.out.2⟩
      · have hk2 : k = 0 := by omega
        subst hk2
        have hl0 : l = [] := List.length_eq_zero_iff.1 hll
        subst hl0
        have HO := hid hown
        have HB := hid hbel
        clear hown hbel
        go_wp2_with (at_builtin; refine wpList_append_lies _ rfl (.tmp 54) (.tmp 56) 22 rfl wb.heap.size 44 i0 (.agg #[.string ⟨#[]⟩, .string ⟨#[]⟩, .int .i64 0, .int .i64 0, .slice none 0 0]) 5 72 Tryz.underlying22 hi hz0 hz1 hz2 rfl (by decide) _ _ _ rfl (HO.out.alloc _) ⟨wr.heap.size, 0, none⟩ 1 1 [.string ⟨#[97]⟩, .string ⟨#[97]⟩, .int .i64 0, .int .i64 1, .slice none 0 0] rfl rfl (ent5_new_at (by simp) _ _ _ _ _ _) (fn_ones _ _ _ _ _ _ _) (by decide) (by unfold maxLen; omega) (by omega) (by simp; omega) _ rfl ?_)
        intro g' c' w9 hown9 hgrow9 _ _
        have hbel9 : Below wb.heap.size wb w9 := (HB.out.alloc hsw _).grown hgrow9 (by simp; omega) (fun b hb => (HO.out.lt b hb).1)
        have HF := hid (⟨owns_low9 hown9 (show w.heap.size ≤ w.heap.size + 1 by omega), HBB.out.trans (hbel9.mono HBB.out.size)⟩ : _ ∧ _)
        clear hown9 hgrow9 hbel9 HO HB
        go_wp2
        go_ret
        refine ⟨[⟨⟨#[97]⟩, ⟨#[97]⟩, 0, 1, []⟩], _, rfl, by simp, by simpa using hm1, fun i x h => ?_, HF.out.1, HF.out.2⟩
        match i, h with
        | 0, h => simp at h; subst h; exact ⟨by decide, by decide, by decide, by decide⟩
        | i + 1, h => simp at h
end Go.Proofs.YthaganponmnanaaGreatDoor
namespace Go.Proofs.YthaganponmnanaaGreatDoor
open Go.RowKit

/-- The heads of functions, of which op reads the locals and the params. -/
def RdHd (w : World) (la : Option Addr) (lcap : Nat) (l : List FnD) : Prop := l.length ≤ lcap ∧ lcap ≤ maxLen ∧ ∀ i x, l[i]? = some x → ∃ b off, la = some ⟨b, off, none⟩ ∧ w.cell? ⟨b, off + i * 5 + 2, none⟩ = some (.int .i64 x.params) ∧ w.cell? ⟨b, off + i * 5 + 3, none⟩ = some (.int .i64 x.locals)
theorem RdHd.below {w w' : World} {la : Option Addr} {lcap : Nat} {l : List FnD} (h : RdHd w la lcap l) (hb : Below w.heap.size w w') : RdHd w' la lcap l :=
  ⟨h.1, h.2.1, fun i x hx => by
    obtain ⟨b, off, e, h1, h2⟩ := h.2.2 i x hx
    exact ⟨b, off, e, (hb.cell (World.block_lt_of_cell? w _ h1)).trans h1, (hb.cell (World.block_lt_of_cell? w _ h2)).trans h2⟩⟩

/-- What an op that was made fits: the heads l, the locals of its function, the length n of its body; first: the least function that may be called. -/
def OpFit (l : List FnD) (locals : Int) (n : Nat) (first : Nat) (x : OpD) : Prop :=
  (1 ≤ x.line ∧ x.line ≤ 9999) ∧ withB x.a locals = true ∧
  (x.code = 6 ∨ (x.code = 0 ∧ withB x.b 1000 = true) ∨ ((x.code = 1 ∨ x.code = 2 ∨ x.code = 3) ∧ withB x.b locals = true ∧ withB x.c locals = true) ∨ (x.code = 4 ∧ withB x.b n = true) ∨
   (x.code = 5 ∧ (first ≤ x.b ∧ x.b < l.length) ∧ (∃ y, l[x.b.toNat]? = some y ∧ y.params = (x.args.length : Int)) ∧ ∀ a ∈ x.args, withB a locals = true))

/-- The boxes of op: its argument, its result, the op that it makes. -/
def OpW (w : World) (ov : Array Value) (W : World) (xs : Array Value) : Prop :=
  Below w.heap.size w W ∧ W.heap[w.heap.size]? = some (.cells ov 70 (0, 0)) ∧ W.heap[w.heap.size + 1]? = some (.cells #[.int .i64 0, .int .i64 0, .int .i64 0, .int .i64 0, .int .i64 0, .slice none 0 0] 70 (0, 0)) ∧ W.heap[w.heap.size + 2]? = some (.cells xs 70 (0, 0))
theorem OpW.size {w W : World} {ov xs : Array Value} (h : OpW w ov W xs) : w.heap.size + 3 ≤ W.heap.size := by
  have := (Array.getElem?_eq_some_iff.1 h.2.2.2).1
  omega
theorem OpW.set {w W : World} {ov xs : Array Value} (h : OpW w ov W xs) (j : Nat) (v : Value) (ys : Array Value) (he : xs.setIfInBounds j v = ys) : OpW w ov (W.setCell ⟨w.heap.size + 2, j, none⟩ v) ys := by
  obtain ⟨h1, h2, h3, h4⟩ := h
  refine ⟨h1.setCell (p := ⟨w.heap.size + 2, j, none⟩) (by simp) v, ?_, ?_, ?_⟩
  · rw [Below.heap_setCell _ _ _ _ (by simp)]; exact h2
  · rw [Below.heap_setCell _ _ _ _ (by simp)]; exact h3
  · rw [heap_setCell_same _ _ j _ _ _ h4, he]
theorem OpW.below {w W W' : World} {ov xs : Array Value} (h : OpW w ov W xs) (hb : Below (w.heap.size + 3) W W') : OpW w ov W' xs := by
  obtain ⟨h1, h2, h3, h4⟩ := h
  exact ⟨h1.trans (hb.mono (by omega)), (hb.block _ (by omega)).trans h2, (hb.block _ (by omega)).trans h3, (hb.block _ (by omega)).trans h4⟩
theorem OpW.o {w W : World} {ov xs : Array Value} (h : OpW w ov W xs) (j : Nat) (v : Value) (hj : ov[j]? = some v) : W.cell? ⟨w.heap.size, j, none⟩ = some v := by simp [World.cell?, h.2.1, hj]
theorem OpW.x {w W : World} {ov xs : Array Value} (h : OpW w ov W xs) (j : Nat) (v : Value) (hj : xs[j]? = some v) : W.cell? ⟨w.heap.size + 2, j, none⟩ = some v := by simp [World.cell?, h.2.2.2, hj]
theorem OpW.fx {w W : World} {ov xs : Array Value} (h : OpW w ov W xs) (j : Nat) : W.frozen? ⟨w.heap.size + 2, j, none⟩ = false := by simp [World.frozen?, h.2.2.2]
theorem OpW.r {w W : World} {ov xs : Array Value} (h : OpW w ov W xs) (j : Nat) (v : Value) (hj : (#[.int .i64 0, .int .i64 0, .int .i64 0, .int .i64 0, .int .i64 0, .slice none 0 0] : Array Value)[j]? = some v) : W.cell? ⟨w.heap.size + 1, j, none⟩ = some v := by simp [World.cell?, h.2.2.1, hj]
theorem OpW.fr {w W : World} {ov xs : Array Value} (h : OpW w ov W xs) (j : Nat) : W.frozen? ⟨w.heap.size + 1, j, none⟩ = false := by simp [World.frozen?, h.2.2.1]
/-- The result is stored into its box. -/
theorem OpW.res {w W : World} {ov xs : Array Value} (h : OpW w ov W xs) (a0 a1 a2 a3 a4 a5 : Value) :
    ∃ W', W' = (((((W.setCell ⟨w.heap.size + 1, 0, none⟩ a0).setCell ⟨w.heap.size + 1, 1, none⟩ a1).setCell ⟨w.heap.size + 1, 2, none⟩ a2).setCell ⟨w.heap.size + 1, 3, none⟩ a3).setCell ⟨w.heap.size + 1, 4, none⟩ a4).setCell ⟨w.heap.size + 1, 5, none⟩ a5 ∧
      W'.cell? ⟨w.heap.size + 1, 0, none⟩ = some a0 ∧ W'.cell? ⟨w.heap.size + 1, 1, none⟩ = some a1 ∧ W'.cell? ⟨w.heap.size + 1, 2, none⟩ = some a2 ∧ W'.cell? ⟨w.heap.size + 1, 3, none⟩ = some a3 ∧ W'.cell? ⟨w.heap.size + 1, 4, none⟩ = some a4 ∧ W'.cell? ⟨w.heap.size + 1, 5, none⟩ = some a5 ∧
      Below w.heap.size w W' ∧ W'.heap.size = W.heap.size ∧ ∀ b, b ≠ w.heap.size + 1 → W'.heap[b]? = W.heap[b]? := by
  obtain ⟨h1, h2, h3, h4⟩ := h
  have e0 := heap_setCell_same _ _ 0 _ _ a0 h3
  have e1 := heap_setCell_same _ _ 1 _ _ a1 e0
  have e2 := heap_setCell_same _ _ 2 _ _ a2 e1
  have e3 := heap_setCell_same _ _ 3 _ _ a3 e2
  have e4 := heap_setCell_same _ _ 4 _ _ a4 e3
  have e5 := heap_setCell_same _ _ 5 _ _ a5 e4
  refine ⟨_, rfl, by simp [World.cell?, e5], by simp [World.cell?, e5], by simp [World.cell?, e5], by simp [World.cell?, e5], by simp [World.cell?, e5], by simp [World.cell?, e5], ?_, by simp, fun b hb => ?_⟩
  · repeat (refine Below.setCell ?_ (by simp) _)
    exact h1
  · repeat rw [Below.heap_setCell _ _ _ _ (by simpa using hb)]
end Go.Proofs.YthaganponmnanaaGreatDoor
namespace Go.Proofs.YthaganponmnanaaGreatDoor
open Go.RowKit

/-- Elements of so many cells, readable whatever becomes of the blocks L. -/
def RdBut {α : Type} (size : Nat) (R : World → List Value → α → Prop) (L : Nat → Prop) (w : World) (css : List (List Value)) (l : List α) : Prop :=
  css.length = l.length ∧ ∀ (i : Nat) (cs : List Value) (x : α), css[i]? = some cs → l[i]? = some x → cs.length = size ∧ ∀ W : World, (∀ b, b < w.heap.size → ¬ L b → W.heap[b]? = w.heap[b]?) → R W cs x
theorem RdBut.nil {α : Type} {size : Nat} {R : World → List Value → α → Prop} {L : Nat → Prop} {w : World} : RdBut size R L w [] [] := ⟨rfl, fun i cs x h => by simp at h⟩
theorem RdBut.same {α : Type} {size : Nat} {R : World → List Value → α → Prop} {L L' : Nat → Prop} {w w' : World} {css : List (List Value)} {l : List α} (h : RdBut size R L w css l) (hs : ∀ b, b < w.heap.size → ¬ L b → b < w'.heap.size ∧ ¬ L' b ∧ w'.heap[b]? = w.heap[b]?) : RdBut size R L' w' css l :=
  ⟨h.1, fun i cs x h1 h2 => ⟨(h.2 i cs x h1 h2).1, fun W hW => (h.2 i cs x h1 h2).2 W (fun b hb hne => (hW b (hs b hb hne).1 (hs b hb hne).2.1).trans (hs b hb hne).2.2)⟩⟩
theorem RdBut.snoc {α : Type} {size : Nat} {R : World → List Value → α → Prop} {L : Nat → Prop} {w : World} {css : List (List Value)} {l : List α} {cs : List Value} {x : α} (h : RdBut size R L w css l) (h5 : cs.length = size) (hx : ∀ W : World, (∀ b, b < w.heap.size → ¬ L b → W.heap[b]? = w.heap[b]?) → R W cs x) : RdBut size R L w (css ++ [cs]) (l ++ [x]) := by
  refine ⟨by simp [h.1], fun i c y h1 h2 => ?_⟩
  rcases Nat.lt_or_ge i css.length with hi | hi
  · rw [List.getElem?_append_left hi] at h1
    rw [List.getElem?_append_left (by rw [← h.1]; exact hi)] at h2
    exact h.2 i c y h1 h2
  · rw [List.getElem?_append_right hi] at h1
    rw [List.getElem?_append_right (by rw [← h.1]; exact hi), ← h.1] at h2
    cases hj : i - css.length with
    | zero => rw [hj] at h1 h2; simp at h1 h2; subst h1; subst h2; exact ⟨h5, hx⟩
    | succ j => rw [hj] at h1; simp at h1
theorem RdBut.all {α : Type} {size : Nat} {R : World → List Value → α → Prop} {L : Nat → Prop} {w : World} {css : List (List Value)} {l : List α} (h : RdBut size R L w css l) : ∀ c ∈ css, c.length = size := by
  intro c hc
  obtain ⟨i, hi, rfl⟩ := List.getElem_of_mem hc
  have hil : i < l.length := by rw [← h.1]; exact hi
  exact (h.2 i _ l[i] (List.getElem?_eq_getElem hi) (List.getElem?_eq_getElem hil)).1
theorem RdBut.rd {α : Type} {size : Nat} {R : World → List Value → α → Prop} {e : TypeId} {L : Nat → Prop} {w : World} {base : Nat} {fv : Value} {css : List (List Value)} {l : List α} (he : RdBut size R L w css l) (h : w.ownsRow base e size fv l.length css.flatten) : ∃ a cap, fv = .slice a l.length cap ∧ RdL size R w a l.length cap l := by
  have h5 := he.all
  rcases h.2 with ⟨rfl, h0⟩ | ⟨g, cap, cur, rfl, hg, hh, h1, h2, h3, h4⟩
  · refine ⟨none, 0, by rw [h0], rfl, by omega, by unfold maxLen; omega, fun i x hx => ?_⟩
    have : l = [] := List.length_eq_zero_iff.1 h0
    rw [this] at hx; simp at hx
  · refine ⟨some ⟨g, 0, none⟩, cap, rfl, rfl, h1, h2, fun i x hx => ?_⟩
    have hi : i < l.length := (List.getElem?_eq_some_iff.1 hx).1
    obtain ⟨cs, hcs⟩ : ∃ cs, css[i]? = some cs := ⟨_, List.getElem?_eq_getElem (by rw [he.1]; exact hi)⟩
    have hE := he.2 i cs x hcs hx
    refine ⟨g, 0, cs, rfl, h5 cs (List.mem_of_getElem? hcs), fun j v hj => ?_, hE.2 w (fun _ _ _ => rfl)⟩
    have hw : w.ownsRow base e size (.slice (some ⟨g, 0, none⟩) l.length cap) l.length css.flatten := ⟨h.1, .inr ⟨g, cap, cur, rfl, hg, hh, h1, h2, h3, h4⟩⟩
    have hjl : j < size := by have := (List.getElem?_eq_some_iff.1 hj).1; rw [h5 cs (List.mem_of_getElem? hcs)] at this; exact this
    have hlt : i * size + j < l.length * size := by
      have : (i + 1) * size ≤ l.length * size := Nat.mul_le_mul_right _ hi
      rw [Nat.add_mul] at this
      omega
    rw [Nat.zero_add, hw.cellAt (i * size + j) hlt]
    exact flatten_at h5 i j cs v hcs hj

/-- A function with its body, made of the heads l. -/
def FnFit (l : List FnD) (ops : Nat) (ahead : Bool) (f : Nat) (x : FnD) : Prop :=
  (1 ≤ x.body.length ∧ x.body.length ≤ ops) ∧ ∀ s o, x.body[s]? = some o →
    if s + 1 = x.body.length then o.code = 6 ∧ (1 ≤ o.line ∧ o.line ≤ 9999) ∧ withB o.a x.locals = true else OpFit l x.locals x.body.length (if ahead then f + 1 else 0) o
def SameHead (x y : FnD) : Prop := x.name = y.name ∧ x.file = y.file ∧ x.params = y.params ∧ x.locals = y.locals
/-- A program that was made of the heads l. -/
def Fit (l : List FnD) (ops : Nat) (ahead : Bool) (q : List FnD) : Prop :=
  q.length = l.length ∧ ∀ f x y, q[f]? = some x → l[f]? = some y → SameHead x y ∧ FnFit l ops ahead f x

theorem chkB_all (p : List FnD) (x : FnD) (f : Nat) : ∀ (r : List OpD) (s : Nat), (∀ i o, r[i]? = some o → opB p x (s + i) o = true) → chkB p x f r s = none
  | [], _, _ => rfl
  | o :: r, s, h => by
    unfold chkB
    have h0 : opB p x s o = true := h 0 o rfl
    rw [if_pos h0]
    exact chkB_all p x f r (s + 1) fun i o' hi => by
      have := h (i + 1) o' (by simpa using hi)
      rwa [show s + 1 + i = s + (i + 1) by omega]
theorem chkF_all (p : List FnD) : ∀ (r : List FnD) (f : Nat), (∀ i x, r[i]? = some x → headB p (f + i) x = true ∧ ∀ s o, x.body[s]? = some o → opB p x s o = true) → chkF p r f = (0, 0, 0)
  | [], _, _ => rfl
  | x :: r, f, h => by
    unfold chkF
    have h0 : headB p f x = true ∧ ∀ s o, x.body[s]? = some o → opB p x s o = true := h 0 x rfl
    rw [if_pos h0.1, chkB_all p x f x.body 0 (fun i o hi => by rw [Nat.zero_add]; exact h0.2 i o hi)]
    exact chkF_all p r (f + 1) fun i y hi => by
      have := h (i + 1) y (by simpa using hi)
      rwa [show f + 1 + i = f + (i + 1) by omega]

theorem letterD_ne (i : Nat) (hi : i < 12) (j : Nat) (hj : j < 12) (hji : j < i) : eqB (letterD j) (letterD i) = false := by
  cases h : eqB (letterD j) (letterD i) with
  | false => rfl
  | true =>
    have e := eqB_eq h
    have e1 : byteL (letterD j) = [97 + (j : Int)] := byteL_str _ (fun x hx => by simp at hx; omega)
    have e2 : byteL (letterD i) = [97 + (i : Int)] := byteL_str _ (fun x hx => by simp at hx; omega)
    rw [e, e2] at e1
    simp at e1
    omega
theorem letterD_word : ∀ i : Nat, i < 12 → wordB (letterD i) = true := by decide

theorem fit_chk {l : List FnD} {ops : Nat} {ahead : Bool} {q : List FnD} (h : Fit l ops ahead q) (hl : HeadsOk l) (h1 : 1 ≤ l.length) (h12 : l.length ≤ 12) (hops : ops ≤ 30) : chk q = (0, 0, 0) := by
  obtain ⟨hn, hq⟩ := h
  have heads : ∀ i x, q[i]? = some x → ∃ y, l[i]? = some y ∧ SameHead x y ∧ FnFit l ops ahead i x ∧ HeadOk i y := fun i x hx => by
    have hi := (List.getElem?_eq_some_iff.1 hx).1
    obtain ⟨y, hy⟩ : ∃ y, l[i]? = some y := ⟨_, List.getElem?_eq_getElem (by rw [← hn]; exact hi)⟩
    exact ⟨y, hy, (hq i x y hx hy).1, (hq i x y hx hy).2, hl i y hy⟩
  unfold chk
  rw [if_neg (by omega)]
  refine chkF_all q q 0 fun i x hx => ?_
  rw [Nat.zero_add]
  have hi := (List.getElem?_eq_some_iff.1 hx).1
  obtain ⟨y, hy, ⟨e1, e2, e3, e4⟩, ⟨hb, hfit⟩, ⟨k1, k2, k3, k4⟩⟩ := heads i x hx
  constructor
  · unfold headB
    have hany : ((q.take i).any fun z => eqB z.name x.name) = false := by
      rw [List.any_eq_false]
      intro z hz
      obtain ⟨j, hj, rfl⟩ := List.getElem_of_mem hz
      rw [List.length_take] at hj
      rw [List.getElem_take]
      obtain ⟨y', -, ⟨e1', -⟩, -, ⟨k1', -⟩⟩ := heads j _ (List.getElem?_eq_getElem (by omega))
      rw [e1', k1', e1, k1, letterD_ne i (by omega) j (by omega) (by omega)]
      decide
    rw [hany, e1, e2, e3, e4, k1, k2, letterD_word i (by omega)]
    simp only [Bool.not_false, Bool.true_and, Bool.and_true, Bool.and_eq_true, decide_eq_true_eq]
    exact ⟨⟨k3.1, k3.2, k4.1, k4.2⟩, hb.1, by omega⟩
  · intro s o ho
    have hs := (List.getElem?_eq_some_iff.1 ho).1
    have hf := hfit s o ho
    unfold opB
    split at hf
    · obtain ⟨f1, f2, f3⟩ := hf
      rw [if_neg (by simp [f2, f3]), if_pos f1]
    · next hne =>
      obtain ⟨f1, f2, f3⟩ := hf
      rw [if_neg (by simp [f1, f2])]
      rcases f3 with h6 | ⟨h0, hb0⟩ | ⟨h3, hb3, hc3⟩ | ⟨h4, hb4⟩ | ⟨h5, hr, ⟨z, hz, hzp⟩, ha⟩
      · rw [if_pos h6]
      · rw [if_neg (by omega), if_neg hne, if_pos h0]; exact hb0
      · rw [if_neg (by omega), if_neg hne, if_neg (by omega), if_pos h3, hb3, hc3]; rfl
      · rw [if_neg (by omega), if_neg hne, if_neg (by omega), if_neg (by omega), if_pos h4]; exact hb4
      · rw [if_neg (by omega), if_neg hne, if_neg (by omega), if_neg (by omega), if_neg (by omega), if_pos h5]
        unfold callB
        obtain ⟨x', hx'⟩ : ∃ x', q[o.b.toNat]? = some x' := ⟨_, List.getElem?_eq_getElem (by omega)⟩
        have e3' := (hq _ x' z hx' hz).1.2.2.1
        rw [hx']
        simp only [Bool.and_eq_true, List.all_eq_true]
        refine ⟨by unfold withB; rw [decide_eq_true_eq]; omega, ?_, ha⟩
        simp [e3', hzp]
theorem fit_ops {l : List FnD} {ops : Nat} {ahead : Bool} {q : List FnD} (h : Fit l ops ahead q) : ∀ x ∈ q, x.body.length ≤ ops := fun x hx => by
  obtain ⟨i, hi, rfl⟩ := List.getElem_of_mem hx
  exact (h.2 i _ _ (List.getElem?_eq_getElem hi) (List.getElem?_eq_getElem (by rw [← h.1]; exact hi))).2.1.2
theorem fit_ahead {l : List FnD} {ops : Nat} {q : List FnD} (h : Fit l ops true q) : ∀ (f : Nat) (x : FnD), q[f]? = some x → ∀ o ∈ x.body, o.code = 5 → (f : Int) < o.b := fun f x hx o ho h5 => by
  have hi := (List.getElem?_eq_some_iff.1 hx).1
  have hfit := (h.2 f x _ hx (List.getElem?_eq_getElem (by rw [← h.1]; exact hi))).2.2
  obtain ⟨s, hs, rfl⟩ := List.getElem_of_mem ho
  have := hfit s _ (List.getElem?_eq_getElem hs)
  split at this
  · omega
  · obtain ⟨-, -, h'⟩ := this
    simp only [if_true] at h'
    omega
end Go.Proofs.YthaganponmnanaaGreatDoor
