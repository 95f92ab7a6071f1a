/- The contract of the developers' frame.Print, whatever frames it is given (their number below the reach): the text printD of good frames, ErrFrame else; nothing that was there is written. -/
import Derived.Test.YtffnfjkjlmlonaaGreatDoorZB36
import Derived.Deep.DeepAppendWide
namespace Go.Proofs.YtffnfjkjlmlonaaGreatDoor
open Go.RowKit
/-- May a frame be? -/
def FrB (f : FrameD) : Bool := wordB f.func && (wordB f.file && decide (1 ≤ f.line ∧ f.line ≤ 9999))
def prtE (l : List FrameD) : Int := if l.all FrB = true then 0 else 10
def prtS (l : List FrameD) : ByteArray := if l.all FrB = true then strOfNums (printD l) else ⟨#[]⟩
theorem word_size {s : ByteArray} (h : wordB s = true) : s.size ≤ 20 := by
  unfold wordB at h
  rw [Bool.and_eq_true] at h
  exact (of_decide_eq_true h.1).2
theorem frOk_of {f : FrameD} (h : FrB f = true) : FrOk f := by
  unfold FrB at h
  rw [Bool.and_eq_true, Bool.and_eq_true] at h
  have h3 := of_decide_eq_true h.2.2
  exact ⟨⟨h.1, word_size h.1⟩, ⟨h.2.1, word_size h.2.1⟩, h3.1, h3.2⟩
section
variable {P : Program} (w : World)
/-- A short text is appended to a row of bytes that may be vast. -/
theorem wpList_append_str_wide {ops : Array Oper} {rest : List Oper} {o : Oper} {a : Act} {Q : Exit → Act → World → Prop} (hgd : o.guard = none) (sl x : Operand) (t u : TypeId)
    (ho : o.op = .call { callee := .builtin .append, args := #[sl, x], argTypes := #[t, u] })
    (base : Nat) (e : TypeId) (i : TypeInfo) (ht : P.underlying t = some (.slice e)) (hu : P.underlying u = some .string) (hi : P.info? e = some i) (hz : i.zero = some (.int .u8 0))
    (hsize : i.size = 1) (hby : i.bytes = 1)
    (v : Value) (n : Nat) (xs : List Value) (hs : a.eval sl = v) (hown : w.ownsRow base e 1 v n xs) (s : ByteArray) (hx : a.eval x = .string s) (hs100 : s.size ≤ 100)
    (hbytes : (n + s.size) + (n + s.size) / 4 + 192 ≤ 281474976710656) (hbase : base ≤ w.heap.size)
    (h : ∀ v' w', w'.ownsRow base e 1 v' (n + s.size) (xs ++ Lib.strCells s) → w.grownBy w' v.ownBlock → wpList P ops Q rest (a.put o.dst v') w') : wpList P ops Q (o :: rest) a w := by
  by_cases hb : n + s.size ≤ 140737488355328
  · exact Lib.wpList_append_own_string w hgd sl x t u ho base e i ht hu hi hz hsize hby v n xs hs hown s hx (by unfold maxLen; omega) hb hbase (fun v' w' h1 h2 _ => h v' w' h1 h2)
  · refine wpList_plain hgd fun K hK => ?_
    have hxl : xs.length = n := by simpa using hown.1
    have hlen : (xs ++ Lib.strCells s).length = (n + s.size) * 1 := by rw [List.length_append, hxl, Lib.strCells_length, Nat.mul_one]
    obtain ⟨v', w', hr, h2, h3⟩ : ∃ v' w', (Builtin.append_ #[t, u] o.type #[v, .string s]).run P w = .ok v' w' ∧ w'.ownsRow base e 1 v' (n + s.size) (xs ++ Lib.strCells s) ∧ w.grownBy w' v.ownBlock := by
      rcases hown.2 with ⟨-, hn⟩ | ⟨g, cap, cur, rfl, hbg, hg, hnc, hcm, hcs, htake⟩
      · omega
      · have hcs' : cur.size = cap := by simpa using hcs
        by_cases hroom : n + s.size ≤ cap
        · refine ⟨_, _, Lib.run_append_room_string w t u o.type e i ht hu hi hsize g n cap cur hg s hroom (by omega), ⟨hlen, .inr ⟨g, cap, _, rfl, hbg, setRow_heap w g cur _ e _ hg, hroom, hcm, ?_, ?_⟩⟩, ⟨rfl, rfl, rfl, by simp, fun k _ hk => setRow_other w g k _ (fun e => hk (by simp [Value.ownBlock, e]))⟩⟩
          · simp only [List.size_toArray, List.length_append, List.length_take, List.length_drop, Array.length_toList, Lib.strCells_length]
            omega
          · have ht' : cur.toList.take n = xs := by simpa using htake
            rw [ht', ← hlen]
            exact List.take_left
        · have hr := Lib.run_append_grow_string (P := P) w t u o.type e i (.int .u8 0) ht hu hi hz ⟨g, 0, none⟩ n cap xs (by rw [hsize]; simpa using hxl) (hown.cells (g := g) rfl) s (by omega) (by omega) (by rw [hby]; exact growslice_fits_wide (by omega) (by omega))
          refine ⟨_, _, hr, ⟨hlen, .inr ⟨w.heap.size, _, _, rfl, hbase, heap_alloc_new w.drew _, grownCap_ge w (n + s.size) cap e, grownCap_le_maxLen w (n + s.size) cap e (by unfold maxLen; omega), ?_, ?_⟩⟩, ⟨rfl, rfl, rfl, by simp, fun k hk _ => heap_alloc_old w.drew _ hk⟩⟩
          · have hge := grownCap_ge w (n + s.size) cap e
            have hz1 : (Value.int IntKind.u8 0).cells.size = 1 := rfl
            simp only [Array.size_append, List.size_toArray, size_zeroCells, hz1, hxl, Lib.strCells_length]
            omega
          · simp only [Array.toList_append, List.append_assoc]
            rw [← List.append_assoc, ← hlen]
            exact List.take_left
    unfold Oper.wp execOp
    simp only [ho, resolve, invoke, builtin, Sem.run_bind, Sem.run_pure, Result.andThen_ok, List.map_toArray, List.map_cons, List.map_nil, hs, hx, hr]
    exact hK _ _ (h v' w' h2 h3)
end
set_option maxHeartbeats 2000000 in
set_option maxRecDepth 100000 in
theorem frMay_any (f : FrameD) (w : World) (h : f.func.size ≤ maxLen ∧ f.file.size ≤ maxLen) :
    Calls Tryz.prog 162 #[.agg #[.string f.func, .string f.file, .int .i64 f.line]] w fun e w' => e = .returned (.bool (FrB f)) ∧ Below w.heap.size w w' := by
  have H1 := hid (fun W => isWord_any f.func W h.1)
  have H2 := hid (fun W => isWord_any f.file W h.2)
  unfold FrB
  generalize wordB f.func = b1 at *
  generalize wordB f.file = b2 at *
  generalize f.func = a at *
  generalize f.file = b at *
  generalize f.line = c at *
  obtain ⟨wA, hwA⟩ : ∃ v, v = w.alloc (Obj.cells #[.string a, .string b, .int .i64 c] 107) := ⟨_, rfl⟩
  have hbA : Below w.heap.size w wA := by rw [hwA]; exact (Below.refl _ _).alloc (Nat.le_refl _) _
  have hsA : wA.heap.size = w.heap.size + 1 := by rw [hwA]; simp
  have kA : wA.heap[w.heap.size]? = some (.cells #[.string a, .string b, .int .i64 c] 107 (0, 0)) := by rw [hwA]; exact heap_new_at rfl
  have HK := hid kA
  clear h kA
  go_enter Tryz.func162, Tryz.ntmps162
  go_wp2_with fail
  rw [← hwA]
  clear hwA
  refine (H1.out wA).mono ?_
  rintro e w1 ⟨rfl, q1⟩
  have s1 := q1.size
  have k1 := (q1.block w.heap.size (by omega)).trans HK.out
  have c1 : w1.cell? ⟨w.heap.size, 1, none⟩ = some (.string b) := by simp [World.cell?, k1]
  have hB1 : Below w.heap.size w w1 := hbA.trans (q1.mono hbA.size)
  cases b1 with
  | false =>
    clear q1 k1
    go_wp2
    go_ret
    exact ⟨by simp, hB1⟩
  | true =>
    go_wp2_with fail
    refine (H2.out w1).mono ?_
    rintro e w2 ⟨rfl, q2⟩
    have k2 := (q2.block w.heap.size (by omega)).trans k1
    have c2 : w2.cell? ⟨w.heap.size, 2, none⟩ = some (.int .i64 c) := by simp [World.cell?, k2]
    have hB : Below w.heap.size w w2 := hB1.trans (q2.mono (by omega))
    clear q1 q2 k1 k2
    cases b2 with
    | false =>
      go_wp2
      go_ret
      exact ⟨by simp, hB⟩
    | true =>
      by_cases h5 : 1 ≤ c
      · have h5' : decide (1 ≤ c) = true := by simpa using h5
        by_cases h6 : c ≤ 9999
        · go_wp2
          go_ret
          exact ⟨by simp; omega, hB⟩
        · go_wp2
          go_ret
          exact ⟨by simp; omega, hB⟩
      · have h5' : decide (1 ≤ c) = false := by simpa using h5
        go_wp2
        go_ret
        exact ⟨by simp; omega, hB⟩
set_option maxHeartbeats 4000000 in
set_option maxRecDepth 100000 in
theorem fPrint_all (a : Option Addr) (cap : Nat) (fr : List FrameD) (w : World) (hr : RdL 3 RdFrame w a fr.length cap fr) (hsz0 : ∀ f ∈ fr, f.func.size ≤ maxLen ∧ f.file.size ≤ maxLen) (h20 : fr.length ≤ 3518437208780) (ht : Tab w) :
    Calls Tryz.prog 106 #[.slice a fr.length cap] w fun e w' => e = .returned (.tuple #[.string (prtS fr), .int .i64 (prtE fr)]) ∧ Below w.heap.size w w' := by
  have HR := hid hr
  have HSZ := hid hsz0
  have HT := hid ht
  have hc1 := hr.2.1
  have hc2 := hr.2.2.1
  unfold maxLen at hc2
  obtain ⟨n, hn⟩ : ∃ v, v = fr.length := ⟨_, rfl⟩
  rw [← hn] at HR hc1 h20 ⊢
  have HN := hid hn
  obtain ⟨i0, hi, hz0, hz1, hz2⟩ := info_parts Tryz.infoByte
  clear hr hsz0 ht hn
  go_enter Tryz.func106, Tryz.ntmps106
  go_wp2
  go_loopw [4, 6, 9] (fun bv _ i wr => ∃ k : Nat, i = .int .i64 k ∧ k ≤ n ∧ (fr.take k).all FrB = true ∧ wr.ownsRow w.heap.size 5 1 bv (printD (fr.take k)).length (u8s (printD (fr.take k))) ∧ Below w.heap.size w wr) (fun _ _ i _ => n - (intOf i).toNat)
  case atStart => exact ⟨0, rfl, by omega, rfl, World.ownsRow_nil _ _ _ _, Below.refl _ _⟩
  case round =>
    obtain ⟨k, rfl, hk, hall, hown, hbel⟩ := hrel
    have hsz := hbel.size
    by_cases hkn : k < n
    · have hkn' : (k : Int) < (n : Int) := by omega
      obtain ⟨f, hf⟩ : ∃ f, fr[k]? = some f := ⟨_, List.getElem?_eq_getElem (by rw [← HN.out]; exact hkn)⟩
      have HALL := hid hall
      have HM0 := hid (fun W => frMay_any f W (HSZ.out f (List.mem_of_getElem? hf)))
      by_cases hfb : FrB f = true
      · have hfo := frOk_of hfb
        obtain ⟨b0, off, cs, rfl, -, hc, rfl⟩ := (HR.out.below hbel (fun _ _ h => h)).2.2.2 k f hf
        have c0 := hc 0 _ rfl
        have c1 := hc 1 _ rfl
        have c2 := hc 2 _ rfl
        have hb0 : b0 < wr.heap.size := World.block_lt_of_cell? wr _ c0
        rw [Nat.add_zero] at c0
        have HM := HM0
        rw [hfb] at HM
        have hpl : (printD (fr.take k)).length ≤ 64 * k := by
          have h := printD_len (fr.take k) (fun x hx => frOk_of (List.all_eq_true.1 HALL.out x hx))
          rw [List.length_take] at h
          have : min k fr.length ≤ k := Nat.min_le_left _ _
          omega
        have HALN : Hid ((fr.take (k + 1)).all FrB = true) := hid (by
          obtain ⟨hlt, he⟩ := List.getElem?_eq_some_iff.1 hf
          rw [List.take_succ_eq_append_getElem hlt, he, List.all_append, HALL.out]
          simp [hfb])
        have HNEXT : Hid (u8s (printD (fr.take (k + 1))) = u8s (printD (fr.take k)) ++ u8s (lineD f) ∧ (printD (fr.take (k + 1))).length = (printD (fr.take k)).length + (lineD f).length) := hid (by
          obtain ⟨hlt, he⟩ := List.getElem?_eq_some_iff.1 hf
          have e : printD (fr.take (k + 1)) = printD (fr.take k) ++ lineD f := by
            rw [List.take_succ_eq_append_getElem hlt, he]
            unfold printD
            rw [List.flatMap_append]
            simp
          exact ⟨by rw [e, u8s_append], by rw [e, List.length_append]⟩)
        obtain ⟨⟨-, hf1⟩, ⟨-, hf2⟩, hf3, hf4⟩ := hfo
        have HIT := hid (fun (W : World) (hW : Below w.heap.size w W) => Tryz.strconv_Itoa f.line (by omega) (by omega) W (HT.out.below hW))
        have hil := Lib.itoa_length_le f.line (by omega) (by omega)
        have HLN : Hid (u8s (lineD f) = Lib.strCells f.func ++ ([.int .u8 32] ++ (Lib.strCells f.file ++ ([.int .u8 58] ++ (Lib.strCells ⟨(Lib.itoa f.line).toArray⟩ ++ [.int .u8 10])))) ∧ (lineD f).length = f.func.size + (1 + (f.file.size + (1 + ((⟨(Lib.itoa f.line).toArray⟩ : ByteArray).size + 1))))) := hid (by
          unfold lineD
          simp only [u8s_append, strCells_u8s, List.length_append, byteL_len]
          exact ⟨rfl, rfl⟩)
        have hsn : (⟨(Lib.itoa f.line).toArray⟩ : ByteArray).size ≤ 21 := by
          show (Lib.itoa f.line).toArray.size ≤ 21
          rw [List.size_toArray]; exact hil
        have hfb0 := hfb
        clear hfb0
        generalize (⟨(Lib.itoa f.line).toArray⟩ : ByteArray) = sn at *
        generalize lineD f = LD at *
        generalize f.func = fn at *
        generalize f.file = fl at *
        generalize f.line = ln at *
        obtain ⟨P0, hP0⟩ : ∃ v, v = printD (fr.take k) := ⟨_, rfl⟩
        rw [← hP0] at hown hpl HNEXT
        obtain ⟨N0, hN0⟩ : ∃ v, v = P0.length := ⟨_, rfl⟩
        rw [← hN0] at hown hpl HNEXT
        obtain ⟨w2, hw2⟩ : ∃ v, v = wr.alloc (Obj.cells #[.string fn, .string fl, .int .i64 ln] 107) := ⟨_, rfl⟩
        have hb2 : Below wr.heap.size wr w2 := by rw [hw2]; exact (Below.refl _ _).alloc (Nat.le_refl _) _
        have hs2 : w2.heap.size = wr.heap.size + 1 := by rw [hw2]; simp
        have k2 : w2.heap[wr.heap.size]? = some (.cells #[.string fn, .string fl, .int .i64 ln] 107 (0, 0)) := by rw [hw2]; exact heap_new_at rfl
        have HOW := hid hown
        have HBEL := hid hbel
        have HK2 := hid k2
        have HB2 := hid hb2
        clear hown hbel hf hP0 hN0 hc k2 hb2 hil hfb HM0 hall
        go_wp2_with fail
        rw [← hw2]
        clear hw2
        refine (HM.out w2).mono ?_
        rintro e w3 ⟨rfl, hb3⟩
        have hb23 : Below wr.heap.size wr w3 := HB2.out.trans (hb3.mono HB2.out.size)
        have k3 := (hb3.block wr.heap.size (by omega)).trans HK2.out
        have f3a : w3.cell? ⟨wr.heap.size, 1, none⟩ = some (.string fl) := by simp [World.cell?, k3]
        have f3b : w3.cell? ⟨wr.heap.size, 2, none⟩ = some (.int .i64 ln) := by simp [World.cell?, k3]
        have f3c : w3.cell? ⟨wr.heap.size, 0, none⟩ = some (.string fn) := by simp [World.cell?, k3]
        have lt3 : wr.heap.size < w3.heap.size := (Array.getElem?_eq_some_iff.1 k3).1
        have HK3 := hid k3
        have HO3 := hid (ownsRow_below HOW.out hb23)
        have HB3 := hid (HBEL.out.trans (hb23.mono hsz))
        have hs3 : w.heap.size ≤ w3.heap.size := by omega
        clear hb3 hb23 k3 c0 c1 c2 HM
        go_wp2_with (at_builtin; refine wpList_append_str_wide _ rfl (.tmp 16) (.tmp 18) 36 9 rfl w.heap.size 5 i0 Tryz.underlying36 Tryz.underlying9 hi hz0 hz1 hz2 _ _ _ rfl HO3.out fn rfl (by omega) (by omega) hs3 ?_)
        intro v4 w4 hown4 hgrow4
        have k4 : w4.heap[wr.heap.size]? = some (.cells #[.string fn, .string fl, .int .i64 ln] 107 (0, 0)) := (hgrow4.block wr.heap.size lt3 (fun e => owns_other' HO3.out HK3.out (by decide) e)).trans HK3.out
        have hs4 : w.heap.size ≤ w4.heap.size := by have := hgrow4.size; omega
        have hb4 : Below w.heap.size w w4 := HB3.out.grown hgrow4 hs3 (fun k hk => (HO3.out.lt k hk).1)
        have lt4 : wr.heap.size < w4.heap.size := (Array.getElem?_eq_some_iff.1 k4).1
        have HO4 := hid hown4
        have HK4 := hid k4
        have HB4 := hid hb4
        have f4a : w4.cell? ⟨wr.heap.size, 1, none⟩ = some (.string fl) := by simp [World.cell?, k4]
        have f4b : w4.cell? ⟨wr.heap.size, 2, none⟩ = some (.int .i64 ln) := by simp [World.cell?, k4]
        clear hown4 hgrow4 k4 hb4 HO3 HK3 HB3 f3a f3b f3c
        go_wp2_with (at_builtin; refine wpList_append_own_wide _ rfl (.tmp 20) (.tmp 21) 36 rfl w.heap.size 5 i0 (.int .u8 0) 1 1 Tryz.underlying36 hi hz0 hz1 hz2 rfl (by decide) _ _ _ rfl (HO4.out.alloc _) ⟨w4.heap.size, 0, none⟩ 1 1 [.int .u8 32] rfl rfl (new1_at rfl _ _) (fun u hu => by rw [List.mem_singleton.1 hu]; rfl) (by unfold maxLen; omega) (by omega) (by simp; omega) ?_)
        intro v5 w5 hown5 hgrow5 _
        have k5 : w5.heap[wr.heap.size]? = some (.cells #[.string fn, .string fl, .int .i64 ln] 107 (0, 0)) := (hgrow5.block wr.heap.size (by simp; omega) (fun e => owns_other' HO4.out HK4.out (by decide) e)).trans (heap_at1 lt4 HK4.out)
        have hs5 : w.heap.size ≤ w5.heap.size := by have := hgrow5.size; simp at this; omega
        have hb5 : Below w.heap.size w w5 := (HB4.out.alloc hs4 _).grown hgrow5 (by simp; omega) (fun k hk => (HO4.out.lt k hk).1)
        have lt5 : wr.heap.size < w5.heap.size := (Array.getElem?_eq_some_iff.1 k5).1
        have HO5 := hid hown5
        have HK5 := hid k5
        have HB5 := hid hb5
        have f5a : w5.cell? ⟨wr.heap.size, 1, none⟩ = some (.string fl) := by simp [World.cell?, k5]
        have f5b : w5.cell? ⟨wr.heap.size, 2, none⟩ = some (.int .i64 ln) := by simp [World.cell?, k5]
        clear hown5 hgrow5 k5 hb5 HO4 HK4 HB4 f4a f4b
        go_wp2_with (at_builtin; refine wpList_append_str_wide _ rfl (.tmp 23) (.tmp 25) 36 9 rfl w.heap.size 5 i0 Tryz.underlying36 Tryz.underlying9 hi hz0 hz1 hz2 _ _ _ rfl HO5.out fl rfl (by omega) (by omega) hs5 ?_)
        intro v6 w6 hown6 hgrow6
        have k6 : w6.heap[wr.heap.size]? = some (.cells #[.string fn, .string fl, .int .i64 ln] 107 (0, 0)) := (hgrow6.block wr.heap.size lt5 (fun e => owns_other' HO5.out HK5.out (by decide) e)).trans HK5.out
        have hs6 : w.heap.size ≤ w6.heap.size := by have := hgrow6.size; omega
        have hb6 : Below w.heap.size w w6 := HB5.out.grown hgrow6 hs5 (fun k hk => (HO5.out.lt k hk).1)
        have lt6 : wr.heap.size < w6.heap.size := (Array.getElem?_eq_some_iff.1 k6).1
        have HO6 := hid hown6
        have HK6 := hid k6
        have HB6 := hid hb6
        have f6a : w6.cell? ⟨wr.heap.size, 1, none⟩ = some (.string fl) := by simp [World.cell?, k6]
        have f6b : w6.cell? ⟨wr.heap.size, 2, none⟩ = some (.int .i64 ln) := by simp [World.cell?, k6]
        clear hown6 hgrow6 k6 hb6 HO5 HK5 HB5 f5a f5b
        go_wp2_with (at_builtin; refine wpList_append_own_wide _ rfl (.tmp 27) (.tmp 28) 36 rfl w.heap.size 5 i0 (.int .u8 0) 1 1 Tryz.underlying36 hi hz0 hz1 hz2 rfl (by decide) _ _ _ rfl (HO6.out.alloc _) ⟨w6.heap.size, 0, none⟩ 1 1 [.int .u8 58] rfl rfl (new1_at rfl _ _) (fun u hu => by rw [List.mem_singleton.1 hu]; rfl) (by unfold maxLen; omega) (by omega) (by simp; omega) ?_)
        intro v7 w7 hown7 hgrow7 _
        have k7 : w7.heap[wr.heap.size]? = some (.cells #[.string fn, .string fl, .int .i64 ln] 107 (0, 0)) := (hgrow7.block wr.heap.size (by simp; omega) (fun e => owns_other' HO6.out HK6.out (by decide) e)).trans (heap_at1 lt6 HK6.out)
        have hs7 : w.heap.size ≤ w7.heap.size := by have := hgrow7.size; simp at this; omega
        have hb7 : Below w.heap.size w w7 := (HB6.out.alloc hs6 _).grown hgrow7 (by simp; omega) (fun k hk => (HO6.out.lt k hk).1)
        have lt7 : wr.heap.size < w7.heap.size := (Array.getElem?_eq_some_iff.1 k7).1
        have HO7 := hid hown7
        have HK7 := hid k7
        have HB7 := hid hb7
        have f7a : w7.cell? ⟨wr.heap.size, 1, none⟩ = some (.string fl) := by simp [World.cell?, k7]
        have f7b : w7.cell? ⟨wr.heap.size, 2, none⟩ = some (.int .i64 ln) := by simp [World.cell?, k7]
        clear hown7 hgrow7 k7 hb7 HO6 HK6 HB6 f6a f6b
        go_wp2_with fail
        refine (HIT.out w7 HB7.out).mono ?_
        rintro e w8 ⟨rfl, kk, os, hw8⟩
        have hb78 : Below w7.heap.size w7 w8 := by rw [hw8]; exact Lib.below_grow _ _ (Nat.le_refl _) _ _
        have hs8 : w.heap.size ≤ w8.heap.size := by have := hb78.size; omega
        have HO8 := hid (ownsRow_below HO7.out hb78)
        have k8 := (hb78.block wr.heap.size lt7).trans HK7.out
        have HK8 := hid k8
        have HB8 := hid (HB7.out.trans (hb78.mono hs7))
        have lt8 : wr.heap.size < w8.heap.size := (Array.getElem?_eq_some_iff.1 k8).1
        clear hw8 hb78 k8 HO7 HK7 HB7 f7a f7b
        go_wp2_with (at_builtin; refine wpList_append_str_wide _ rfl (.tmp 30) (.tmp 33) 36 9 rfl w.heap.size 5 i0 Tryz.underlying36 Tryz.underlying9 hi hz0 hz1 hz2 _ _ _ rfl HO8.out sn rfl (by omega) (by omega) hs8 ?_)
        intro v9 w9 hown9 hgrow9
        have k9 : w9.heap[wr.heap.size]? = some (.cells #[.string fn, .string fl, .int .i64 ln] 107 (0, 0)) := (hgrow9.block wr.heap.size lt8 (fun e => owns_other' HO8.out HK8.out (by decide) e)).trans HK8.out
        have hs9 : w.heap.size ≤ w9.heap.size := by have := hgrow9.size; omega
        have hb9 : Below w.heap.size w w9 := HB8.out.grown hgrow9 hs8 (fun k hk => (HO8.out.lt k hk).1)
        have lt9 : wr.heap.size < w9.heap.size := (Array.getElem?_eq_some_iff.1 k9).1
        have HO9 := hid hown9
        have HK9 := hid k9
        have HB9 := hid hb9
        have f9a : w9.cell? ⟨wr.heap.size, 1, none⟩ = some (.string fl) := by simp [World.cell?, k9]
        have f9b : w9.cell? ⟨wr.heap.size, 2, none⟩ = some (.int .i64 ln) := by simp [World.cell?, k9]
        clear hown9 hgrow9 k9 hb9 HO8 HK8 HB8 
        go_wp2_with (at_builtin; refine wpList_append_own_wide _ rfl (.tmp 35) (.tmp 36) 36 rfl w.heap.size 5 i0 (.int .u8 0) 1 1 Tryz.underlying36 hi hz0 hz1 hz2 rfl (by decide) _ _ _ rfl (HO9.out.alloc _) ⟨w9.heap.size, 0, none⟩ 1 1 [.int .u8 10] rfl rfl (new1_at rfl _ _) (fun u hu => by rw [List.mem_singleton.1 hu]; rfl) (by unfold maxLen; omega) (by omega) (by simp; omega) ?_)
        intro v10 w10 hown10 hgrow10 _
        have k10 : w10.heap[wr.heap.size]? = some (.cells #[.string fn, .string fl, .int .i64 ln] 107 (0, 0)) := (hgrow10.block wr.heap.size (by simp; omega) (fun e => owns_other' HO9.out HK9.out (by decide) e)).trans (heap_at1 lt9 HK9.out)
        have hs10 : w.heap.size ≤ w10.heap.size := by have := hgrow10.size; simp at this; omega
        have hb10 : Below w.heap.size w w10 := (HB9.out.alloc hs9 _).grown hgrow10 (by simp; omega) (fun k hk => (HO9.out.lt k hk).1)
        have lt10 : wr.heap.size < w10.heap.size := (Array.getElem?_eq_some_iff.1 k10).1
        have HO10 := hid hown10
        have HK10 := hid k10
        have HB10 := hid hb10
        have f10a : w10.cell? ⟨wr.heap.size, 1, none⟩ = some (.string fl) := by simp [World.cell?, k10]
        have f10b : w10.cell? ⟨wr.heap.size, 2, none⟩ = some (.int .i64 ln) := by simp [World.cell?, k10]
        clear hown10 hgrow10 k10 hb10 HO9 HK9 HB9 f9a f9b
        go_wp2
        go_roundw
        case rel =>
          refine ⟨k + 1, by go_num, by omega, HALN.out, ?_, HB10.out⟩
          rw [HNEXT.out.1, HNEXT.out.2, HLN.out.1, HLN.out.2]
          have h := HO10.out
          simp only [Nat.add_assoc] at h ⊢
          exact h
        case measure => simp [intOf]; omega
      · have HM := HM0
        rw [show FrB f = false by simpa using hfb] at HM
        obtain ⟨b0, off, cs, rfl, -, hc, rfl⟩ := (HR.out.below hbel (fun _ _ h => h)).2.2.2 k f hf
        have c0 := hc 0 _ rfl
        have c1 := hc 1 _ rfl
        have c2 := hc 2 _ rfl
        have hb0 : b0 < wr.heap.size := World.block_lt_of_cell? wr _ c0
        rw [Nat.add_zero] at c0
        have HE : Hid (prtE fr = 10 ∧ prtS fr = ⟨#[]⟩) := hid (by
          have : fr.all FrB = false := by
            rw [List.all_eq_false]
            exact ⟨f, List.mem_of_getElem? hf, by simpa using hfb⟩
          unfold prtE prtS
          rw [this]
          exact ⟨rfl, rfl⟩)
        generalize f.func = fn at *
        generalize f.file = fl at *
        generalize f.line = ln at *
        obtain ⟨w2, hw2⟩ : ∃ v, v = wr.alloc (Obj.cells #[.string fn, .string fl, .int .i64 ln] 107) := ⟨_, rfl⟩
        have hb2 : Below wr.heap.size wr w2 := by rw [hw2]; exact (Below.refl _ _).alloc (Nat.le_refl _) _
        have HBEL := hid hbel
        have HB2 := hid hb2
        clear hown hbel hf hc hb2 hfb HM0 hall
        go_wp2_with fail
        rw [← hw2]
        clear hw2
        refine (HM.out w2).mono ?_
        rintro e w3 ⟨rfl, hb3⟩
        have hb23 : Below w.heap.size w w3 := HBEL.out.trans ((HB2.out.trans (hb3.mono HB2.out.size)).mono hsz)
        clear hb3
        go_wp2
        exact bodyPost_ret (v := .tuple #[.string ⟨#[]⟩, .int .i64 10]) (by simp [results, Tryz.results106, go_sem]) rfl ⟨by rw [HE.out.1, HE.out.2], hb23⟩
    · have hkn' : decide ((k : Int) < (n : Int)) = false := by simp; omega
      have HKE : Hid (fr.take k = fr) := hid (List.take_of_length_le (by have := HN.out; omega))
      obtain ⟨va, vcap, rfl, hv1, hv2⟩ := owns_form hown
      unfold maxLen at hv2
      have HB := hid hbel
      have HE : Hid (prtE fr = 0 ∧ prtS fr = strOfNums (printD fr)) := hid (by
        rw [HKE.out] at hall
        unfold prtE prtS
        rw [if_pos hall, if_pos hall]
        exact ⟨rfl, rfl⟩)
      clear hall
      have HP : Hid (printD (fr.take k) = printD fr) := hid (by rw [HKE.out])
      have hl : (printD (fr.take k)).length = (printD (fr.take k)).length := rfl
      rcases hown.2 with ⟨h1, h2⟩ | ⟨g, c', cur, h1, _⟩
      · simp only [Value.slice.injEq] at h1
        obtain ⟨rfl, -, rfl⟩ := h1
        have h0 : printD (fr.take k) = [] := List.length_eq_zero_iff.1 h2
        rw [h2]
        have HP0 : Hid (printD fr = []) := hid (by rw [← HP.out]; exact h0)
        clear hown hbel hl h2 h0 HP HKE
        have v0 := run_convert_bytes_nil (P := Tryz.prog) wr 36 5 Tryz.underlying36 Tryz.underlying5 0 0 9 Tryz.underlying9
        go_wp2
        exact bodyPost_ret (v := .tuple #[.string (strOfNums []), .int .i64 0]) (by simp [results, Tryz.results106, go_sem]; rfl) rfl ⟨by rw [HE.out.1, HE.out.2, HP0.out], HB.out⟩
      · simp only [Value.slice.injEq] at h1
        obtain ⟨rfl, -, rfl⟩ := h1
        have hcell : ∀ i, i < (printD (fr.take k)).length → wr.cell? ⟨g, 0 + i, none⟩ = some (.int .u8 ((printD (fr.take k)).getD i 0)) := fun i hi => by
          rw [Nat.zero_add, hown.cellAt i (by omega)]
          simp [u8s, List.getD, hi]
        have v1 := run_convert_bytes_arg (P := Tryz.prog) wr 36 5 Tryz.underlying36 Tryz.underlying5 g 0 (printD (fr.take k)).length vcap (printD (fr.take k)) rfl hcell 9 Tryz.underlying9
        rw [HP.out] at v1 ⊢
        clear hown hbel hcell hl HKE
        go_wp2
        exact bodyPost_ret (v := .tuple #[.string (strOfNums (printD fr)), .int .i64 0]) (by simp [results, Tryz.results106, go_sem]) rfl ⟨by rw [HE.out.1, HE.out.2], HB.out⟩
set_option maxHeartbeats 2000000 in
set_option maxRecDepth 100000 in
theorem uPrint_all (a : Option Addr) (cap : Nat) (fr : List FrameD) (w : World) (hr : RdL 3 RdFrame w a fr.length cap fr) (hsz0 : ∀ f ∈ fr, f.func.size ≤ maxLen ∧ f.file.size ≤ maxLen) (h20 : fr.length ≤ 3518437208780) (ht : Tab w) :
    Calls Tryz.prog 58 #[.slice a fr.length cap] w fun e w' => e = .returned (.tuple #[.string (prtS fr), .int .i64 (prtE fr)]) ∧ Below w.heap.size w w' := by
  have HP := hid (fPrint_all a cap fr w hr hsz0 h20 ht)
  generalize prtS fr = ps at *
  generalize prtE fr = pe at *
  clear hr hsz0 ht
  generalize fr.length = fl at *
  go_enter Tryz.func58, Tryz.ntmps58
  go_wp2_with fail
  refine HP.out.mono ?_
  rintro e w1 ⟨rfl, hb1⟩
  go_wp2
  exact bodyPost_ret (v := .tuple #[.string ps, .int .i64 pe]) (by simp [results, Tryz.results58, go_sem]) rfl ⟨rfl, hb1⟩
end Go.Proofs.YtffnfjkjlmlonaaGreatDoor
