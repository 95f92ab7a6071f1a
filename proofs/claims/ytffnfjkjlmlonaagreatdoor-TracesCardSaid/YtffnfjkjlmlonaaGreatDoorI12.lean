/- Contracts of the developers' image.textBytes, tablesMayBe, treeMayBe and WellFormed, where an image is well-formed: they give the plain bytes, and true; nothing that was there is written. -/
import Derived.Test.YtffnfjkjlmlonaaGreatDoorI11
import Derived.Lib.AppendStr
import Derived.Deep.RegionHeld
namespace Go.Proofs.YtffnfjkjlmlonaaGreatDoor
open Go.RowKit

theorem strCells_u8s (s : ByteArray) : Lib.strCells s = u8s (byteL s) := by
  unfold u8s byteL
  rw [List.map_map]
  rfl

set_option maxHeartbeats 1000000 in
set_option maxRecDepth 100000 in
theorem textBytes_any (s : ByteArray) (w : World) (hs : s.size ≤ 20) :
    Calls Tryz.prog 201 #[.string s] w fun e w' => ∃ v, e = .returned v ∧ w'.ownsRow w.heap.size 5 1 v (textB s).length (u8s (textB s)) ∧ Below w.heap.size w w' := by
  obtain ⟨i0, hi, hz0, hz1, hz2⟩ := info_parts Tryz.infoByte
  have hl := numB_len (s.size : Int)
  have HB := hid (bytes_any (s.size : Int) w (by omega) (by omega))
  have hbl := byteL_len s
  have HT : Hid ((textB s).length = (numB (s.size : Int)).length + s.size ∧ u8s (textB s) = u8s (numB (s.size : Int)) ++ Lib.strCells s) := ⟨by unfold textB; rw [List.length_append, hbl], by unfold textB; rw [u8s_append, strCells_u8s]⟩
  clear hbl
  go_enter Tryz.func201, Tryz.ntmps201
  go_wp2_with fail
  refine HB.out.mono ?_
  rintro e w1 ⟨v, rfl, hown, hb⟩
  have hsz := hb.size
  generalize (numB (s.size : Int)).length = m at *
  obtain ⟨va, vcap, rfl, -, -⟩ := owns_form hown
  go_wp2_with (at_builtin; refine Lib.wpList_append_own_string _ rfl (.tmp 7) (.tmp 8) 36 9 rfl w.heap.size 5 i0 Tryz.underlying36 Tryz.underlying9 hi hz0 hz1 hz2 _ _ _ rfl hown s rfl (by unfold maxLen; omega) (by omega) hsz ?_)
  intro v' w2 hown2 hgrow _
  have hb2 : Below w.heap.size w w2 := hb.grown hgrow hsz (fun k hk => (hown.lt k hk).1)
  have HO := hid hown2
  clear hown2 hgrow hown
  go_wp2
  go_ret
  exact ⟨_, rfl, by rw [HT.out.1, HT.out.2]; exact HO.out, hb2⟩

set_option maxHeartbeats 1000000 in
set_option maxRecDepth 100000 in
theorem tablesMayBe_true (x : EntD) (la xa ta : Option Addr) (lcap xcap tcap : Nat) (room : Int) (w : World) (hl : RdS w la x.lines.length lcap x.lines) (hi : RdS w xa x.index.length xcap x.index) (h1 : wfT x.lines = true) (h2 : wfT x.index = true) (h3 : linesB x.lines room = true) (h4 : sumS x.index = sumS x.lines) :
    Calls Tryz.prog 198 #[.agg #[.string x.name, .string x.file, .slice la x.lines.length lcap, .slice xa x.index.length xcap, .slice ta x.tree.length tcap], .int .i64 room] w fun e w' => e = .returned (.bool true) ∧ Below w.heap.size w w' := by
  have hwl : wfS x.lines (-1) 1000 = true := by unfold wfT at h1; rw [Bool.and_eq_true] at h1; exact h1.1
  have hwi : wfS x.index (-1) 1000 = true := by unfold wfT at h2; rw [Bool.and_eq_true] at h2; exact h2.1
  have HW := hid (fun (W : World) (h : RdS W la x.lines.length lcap x.lines) => wellFormed_any la x.lines.length lcap x.lines W h)
  rw [h1] at HW
  have HX := hid (fun (W : World) (h : RdS W xa x.index.length xcap x.index) => wellFormed_any xa x.index.length xcap x.index W h)
  rw [h2] at HX
  have HLM := hid (fun (W : World) (h : RdS W la x.lines.length lcap x.lines) => linesMayBe_any la x.lines.length lcap x.lines room W h hwl)
  rw [h3] at HLM
  have HP := hid (fun (W : World) (h : RdS W la x.lines.length lcap x.lines) => pcs_any la x.lines.length lcap x.lines W h hwl)
  have HQ := hid (fun (W : World) (h : RdS W xa x.index.length xcap x.index) => pcs_any xa x.index.length xcap x.index W h hwi)
  rw [h4] at HQ
  obtain ⟨wA, hwA⟩ : ∃ wA, wA = w.alloc (Obj.cells #[.string x.name, .string x.file, .slice la x.lines.length lcap, .slice xa x.index.length xcap, .slice ta x.tree.length tcap] 115) := ⟨_, rfl⟩
  have hbA : Below w.heap.size w wA := by rw [hwA]; exact (Below.refl _ _).alloc (Nat.le_refl _) _
  have heA : wA.heap[w.heap.size]? = some (.cells #[.string x.name, .string x.file, .slice la x.lines.length lcap, .slice xa x.index.length xcap, .slice ta x.tree.length tcap] 115 (0, 0)) := by rw [hwA]; exact heap_alloc_new _ _
  have hltA : w.heap.size < wA.heap.size := (Array.getElem?_eq_some_iff.1 heA).1
  generalize sumS x.lines = q at *
  have HL := hid hl
  have HI := hid hi
  have HE := hid heA
  generalize hll : x.lines.length = ll at *
  generalize hil : x.index.length = il at *
  generalize x.tree.length = tl at *
  clear hl hi heA h1 h2 h3 h4 hwl hwi hll hil
  go_enter Tryz.func198, Tryz.ntmps198
  go_wp2_with fail
  rw [← hwA]
  refine (HW.out wA (HL.out.below hbA (Nat.le_refl _))).mono ?_
  rintro e w1 ⟨rfl, b1⟩
  have b01 : Below w.heap.size w w1 := hbA.trans (b1.mono hbA.size)
  have e1 := (b1.block w.heap.size hltA).trans HE.out
  have z1 : w1.cell? ⟨w.heap.size, 3, none⟩ = some (.slice xa il xcap) := by simp [World.cell?, e1]
  go_wp2_with fail
  refine (HX.out w1 (HI.out.below b01 (Nat.le_refl _))).mono ?_
  rintro e w2 ⟨rfl, b2⟩
  have b02 : Below w.heap.size w w2 := b01.trans (b2.mono b01.size)
  have hlt1 : w.heap.size < w1.heap.size := Nat.lt_of_lt_of_le hltA b1.size
  have e2 := (b2.block w.heap.size hlt1).trans e1
  have y2 : w2.cell? ⟨w.heap.size, 2, none⟩ = some (.slice la ll lcap) := by simp [World.cell?, e2]
  have y3 : w2.cell? ⟨w.heap.size, 3, none⟩ = some (.slice xa il xcap) := by simp [World.cell?, e2]
  have hlt2 : w.heap.size < w2.heap.size := Nat.lt_of_lt_of_le hlt1 b2.size
  have HL2 := hid (HL.out.below b02 (Nat.le_refl _))
  have HI2 := hid (HI.out.below b02 (Nat.le_refl _))
  have HE2 := hid e2
  have HB02 := hid b02
  have hsz2 := b02.size
  clear z1 e1 e2 b01 b02 b1 b2 hwA hbA hlt1 hltA HW HX HL HI HE
  have KS : Hid (∀ W : World, Below w2.heap.size w2 W → Below w2.heap.size w2 W ∧ W.cell? ⟨w.heap.size, 2, none⟩ = some (.slice la ll lcap) ∧ W.cell? ⟨w.heap.size, 3, none⟩ = some (.slice xa il xcap)) := fun W h => ⟨h, (h.cell (p := ⟨w.heap.size, 2, none⟩) hlt2).trans y2, (h.cell (p := ⟨w.heap.size, 3, none⟩) hlt2).trans y3⟩
  clear y2 y3
  go_wp2
  go_region_held (fun W => Below w2.heap.size w2 W ∧ W.cell? ⟨w.heap.size, 2, none⟩ = some (.slice la ll lcap) ∧ W.cell? ⟨w.heap.size, 3, none⟩ = some (.slice xa il xcap))
      ((refine KS.out _ ?_; first | exact (Below.refl _ _).drew | exact (‹Below w2.heap.size w2 _ ∧ _›.1).trans (hb4.mono (‹Below w2.heap.size w2 _ ∧ _›.1).size)))
      ((first | (go_at_call 207; refine (HLM.out _ (HL2.out.below ?_ (Nat.le_refl _))).mono ?_; exact (‹Below w2.heap.size w2 _ ∧ _›.1); rintro e w4 ⟨rfl, hb4⟩) | (go_at_call_of 200 (Value.slice la ll lcap); refine (HP.out _ (HL2.out.below ?_ (Nat.le_refl _))).mono ?_; exact (‹Below w2.heap.size w2 _ ∧ _›.1); rintro e w4 ⟨rfl, hb4⟩) | (go_at_call_of 200 (Value.slice xa il xcap); refine (HQ.out _ (HI2.out.below ?_ (Nat.le_refl _))).mono ?_; exact (‹Below w2.heap.size w2 _ ∧ _›.1); rintro e w4 ⟨rfl, hb4⟩)))
  all_goals
    have hfin := (‹Below w2.heap.size w2 _ ∧ _›.1)
    go_wp2
    go_ret
    exact ⟨rfl, HB02.out.trans (hfin.mono hsz2)⟩

theorem treeOk_at (funcs : Int) (inst : List Int) : ∀ (l : List (Int × Int)) (k : Nat) (i b : Int), treeOk funcs inst l i b = true → k < l.length → withB (l.getD k (0, 0)).1 funcs = true ∧ pcB (l.getD k (0, 0)).2 (if k = 0 then b else (l.getD (k - 1) (0, 0)).2) (i + k) inst = true
  | [], k, i, b, _, h => by simp at h
  | p :: r, k, i, b, ht, hk => by
    unfold treeOk at ht
    rw [Bool.and_eq_true, Bool.and_eq_true] at ht
    cases k with
    | zero => simpa using ht.1
    | succ k =>
      have := treeOk_at funcs inst r k (i + 1) p.2 ht.2 (by simpa using hk)
      have e1 : i + ((k + 1 : Nat) : Int) = i + 1 + (k : Int) := by omega
      rw [e1]
      simp only [List.getD_cons_succ, Nat.add_sub_cancel, if_neg (Nat.succ_ne_zero k)]
      refine ⟨this.1, ?_⟩
      cases k with
      | zero => simpa using this.2
      | succ k => simpa using this.2

theorem treeOk_nn (funcs : Int) (inst : List Int) : ∀ (l : List (Int × Int)) (i b : Int), -1 ≤ b → treeOk funcs inst l i b = true → ∀ j, j < l.length → 0 ≤ (l.getD j (0, 0)).2
  | [], _, _, _, _, j, h => by simp at h
  | p :: r, i, b, hb, ht, j, hj => by
    unfold treeOk at ht
    rw [Bool.and_eq_true, Bool.and_eq_true] at ht
    have h1 := ht.1.2
    unfold pcB at h1
    rw [Bool.and_eq_true] at h1
    have h2 := (of_decide_eq_true h1.1).1
    cases j with
    | zero => simp; omega
    | succ j => simpa using treeOk_nn funcs inst r (i + 1) p.2 (by omega) ht.2 j (by simpa using hj)

set_option maxHeartbeats 1000000 in
set_option maxRecDepth 100000 in
theorem treeMayBe_true (ta xa : Option Addr) (tlen tcap xlen xcap : Nat) (tree index : List (Int × Int)) (funcs : Int) (w : World) (ht : RdS w ta tlen tcap tree) (hi : RdS w xa xlen xcap index) (h1 : wfS index (-1) 1000 = true) (h2 : (tlen : Int) = mostT index) (h3 : treeOk funcs (unroll index) tree 1 (-1) = true) :
    Calls Tryz.prog 199 #[.slice ta tlen tcap, .slice xa xlen xcap, .int .i64 funcs] w fun e w' => e = .returned (.bool true) ∧ Below w.heap.size w w' := by
  have HTL := hid ht.hlen
  have hcap := ht.hcap
  have hmax := ht.hmax
  unfold maxLen at hmax
  have HN := hid (nodes_any xa xlen xcap index w hi)
  rw [← h2] at HN
  have HV := hid (fun (W : World) (h : RdS W xa xlen xcap index) => values_any xa xlen xcap index W h h1)
  have hml := mostT_le h1
  have HTO := hid (fun k hk => treeOk_at funcs (unroll index) tree k 1 (-1) h3 hk)
  have HNN := hid (treeOk_nn funcs (unroll index) tree 1 (-1) (by omega) h3)
  have HT := hid ht
  have HI := hid hi
  have h12 : tlen ≤ 9999 := by omega
  generalize unroll index = inst at *
  clear ht hi h1 h2 h3 hml
  have hnn : ((tlen : Int) != (tlen : Int)) = false := by simp
  go_enter Tryz.func199, Tryz.ntmps199
  go_wp2_with fail
  refine HN.out.mono ?_
  rintro e w1 ⟨rfl, b1⟩
  go_wp2_with fail
  refine (HV.out w1 (HI.out.below b1 (Nat.le_refl _))).mono ?_
  rintro e w2 ⟨v, rfl, hown, b2⟩
  have b02 : Below w.heap.size w w2 := b1.trans (b2.mono b1.size)
  obtain ⟨ia, icap, rfl, hrd, -⟩ := rd_of_owns64 hown rfl
  have HB02 := hid b02
  have HRD := hid hrd
  have HT2 := hid (HT.out.below b02 (Nat.le_refl _))
  have hs02 := b02.size
  clear hown hrd b02 b1 b2
  go_wp2
  go_loopw [8, 20] (fun bf i wr => ∃ k : Nat, i = .int .i64 k ∧ k ≤ tlen ∧ bf = .int .i64 (if k = 0 then -1 else (tree.getD (k - 1) (0, 0)).2) ∧ Below w2.heap.size w2 wr) (fun _ i _ => tlen - (intOf i).toNat)
  case atStart => exact ⟨0, rfl, by omega, rfl, Below.refl _ _⟩
  case round =>
    obtain ⟨k, rfl, hk, rfl, hbel⟩ := hrel
    have hsz := hbel.size
    by_cases hlt : k < tlen
    · obtain ⟨b0, off, rfl, hc⟩ := (HT2.out.below hbel (Nat.le_refl _)).open (by omega)
      obtain ⟨hc1, hc2⟩ := hc k hlt
      have hb0 := World.block_lt_of_cell? wr _ hc1
      have hto := HTO.out k (by rw [HTL.out]; exact hlt)
      have hbf : -1 ≤ (if k = 0 then -1 else (tree.getD (k - 1) (0, 0)).2) := by
        split
        · omega
        · have := HNN.out (k - 1) (by rw [HTL.out]; omega)
          omega
      have hnext : (if k + 1 = 0 then (-1 : Int) else (tree.getD (k + 1 - 1) (0, 0)).2) = (tree.getD k (0, 0)).2 := by simp
      have HNX := hid hnext
      obtain ⟨⟨fn, pc⟩, hp⟩ : ∃ p, tree.getD k (0, 0) = p := ⟨_, rfl⟩
      rw [hp] at hc1 hc2 hto HNX
      simp only at hc1 hc2 hb0 hto HNX
      generalize (if k = 0 then (-1 : Int) else (tree.getD (k - 1) (0, 0)).2) = bf at *
      have HF := hid (fun W => funcMayBe_any fn funcs W)
      rw [hto.1] at HF
      have e1 : (1 : Int) + (k : Int) = (k : Int) + 1 := by omega
      have hto2 := hto.2
      rw [e1] at hto2
      have HP := hid (fun (W : World) (h : Rd .i64 W ia inst.length icap inst) => pcMayBe_any pc bf ((k : Int) + 1) ia inst.length icap inst W h hbf)
      rw [hto2] at HP
      have HRR := hid (HRD.out.below (hbel.alloc hsz (Obj.cells #[.int .i64 fn, .int .i64 pc] 112)) (Nat.le_refl _))
      clear hto hto2 hc hp e1 hnext
      go_wp2_with (first | (go_at_call 224; refine (HF.out _).mono ?_; rintro e w' ⟨rfl, rfl⟩) | (go_at_call 225; refine (HP.out _ HRR.out).mono ?_; rintro e w' ⟨rfl, rfl⟩))
      go_roundw
      case rel => exact ⟨k + 1, by go_num, by omega, by rw [HNX.out], hbel.alloc hsz _⟩
      case measure => simp [intOf]; omega
    · have hlt' : decide ((k : Int) < (tlen : Int)) = false := by simp; omega
      generalize (if k = 0 then (-1 : Int) else (tree.getD (k - 1) (0, 0)).2) = bf at *
      go_wp2
      go_ret
      exact ⟨rfl, HB02.out.trans (hbel.mono hs02)⟩
end Go.Proofs.YtffnfjkjlmlonaaGreatDoor
