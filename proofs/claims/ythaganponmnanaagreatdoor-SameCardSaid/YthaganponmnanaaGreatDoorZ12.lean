/- Contracts of the developers' image.textBytes, tablesMayBe, treeMayBe and WellFormed, where an image is well-formed: they give the plain bytes, and true; nothing that was there is written. The contract of the developers' image.WellFormed where an image is well-formed: true; nothing that was there is written. -/
import Derived.Test.YthaganponmnanaaGreatDoorI11
import Derived.Lib.AppendStr
import Derived.Deep.RegionHeld
namespace Go.Proofs.YthaganponmnanaaGreatDoor
open Go.RowKit

theorem strCells_u8s (s : ByteArray) : Lib.strCells s = u8s (byteL s) := by
  unfold u8s byteL
  rw [List.map_map]
  rfl

set_option maxHeartbeats 1000000 in
set_option maxRecDepth 100000 in
theorem textBytes_any (s : ByteArray) (w : World) (hs : s.size ≤ 20) :
    Calls Tryz.prog 79 #[.string s] w fun e w' => ∃ v, e = .returned v ∧ w'.ownsRow w.heap.size 5 1 v (textB s).length (u8s (textB s)) ∧ Below w.heap.size w w' := by
  obtain ⟨i0, hi, hz0, hz1, hz2⟩ := info_parts Tryz.infoByte
  have hl := numB_len (s.size : Int)
  have HB := hid (bytes_any (s.size : Int) w (by omega) (by omega))
  have hbl := byteL_len s
  have HT : Hid ((textB s).length = (numB (s.size : Int)).length + s.size ∧ u8s (textB s) = u8s (numB (s.size : Int)) ++ Lib.strCells s) := ⟨by unfold textB; rw [List.length_append, hbl], by unfold textB; rw [u8s_append, strCells_u8s]⟩
  clear hbl
  go_enter Tryz.func79, Tryz.ntmps79
  go_wp2_with fail
  refine HB.out.mono ?_
  rintro e w1 ⟨v, rfl, hown, hb⟩
  have hsz := hb.size
  generalize (numB (s.size : Int)).length = m at *
  obtain ⟨va, vcap, rfl, -, -⟩ := owns_form hown
  go_wp2_with (at_builtin; refine Lib.wpList_append_own_string _ rfl (.tmp 7) (.tmp 8) 28 9 rfl w.heap.size 5 i0 Tryz.underlying28 Tryz.underlying9 hi hz0 hz1 hz2 _ _ _ rfl hown s rfl (by unfold maxLen; omega) (by omega) hsz ?_)
  intro v' w2 hown2 hgrow _
  have hb2 : Below w.heap.size w w2 := hb.grown hgrow hsz (fun k hk => (hown.lt k hk).1)
  have HO := hid hown2
  clear hown2 hgrow hown
  go_wp2
  go_ret
  exact ⟨_, rfl, by rw [HT.out.1, HT.out.2]; exact HO.out, hb2⟩

set_option maxHeartbeats 1000000 in
set_option maxRecDepth 100000 in
theorem tablesMayBe_true (x : EntD) (la xa ta : Option Addr) (lcap xcap tcap : Nat) (room : Int) (w : World) (hl : RdS w la x.lines.length lcap x.lines) (hi : RdS w xa x.index.length xcap x.index) (h1 : wfT x.lines = true) (h2 : wfT x.index = true) (h3 : linesB x.lines room = true) (h4 : sumS x.index = sumS x.lines) :
    Calls Tryz.prog 76 #[.agg #[.string x.name, .string x.file, .slice la x.lines.length lcap, .slice xa x.index.length xcap, .slice ta x.tree.length tcap], .int .i64 room] w fun e w' => e = .returned (.bool true) ∧ Below w.heap.size w w' := by
  have hwl : wfS x.lines (-1) 1000 = true := by unfold wfT at h1; rw [Bool.and_eq_true] at h1; exact h1.1
  have hwi : wfS x.index (-1) 1000 = true := by unfold wfT at h2; rw [Bool.and_eq_true] at h2; exact h2.1
  have HW := hid (fun (W : World) (h : RdS W la x.lines.length lcap x.lines) => wellFormed_any la x.lines.length lcap x.lines W h)
  rw [h1] at HW
  have HX := hid (fun (W : World) (h : RdS W xa x.index.length xcap x.index) => wellFormed_any xa x.index.length xcap x.index W h)
  rw [h2] at HX
  have HLM := hid (fun (W : World) (h : RdS W la x.lines.length lcap x.lines) => linesMayBe_any la x.lines.length lcap x.lines room W h hwl)
  rw [h3] at HLM
  have HP := hid (fun (W : World) (h : RdS W la x.lines.length lcap x.lines) => pcs_any la x.lines.length lcap x.lines W h hwl)
  have HQ := hid (fun (W : World) (h : RdS W xa x.index.length xcap x.index) => pcs_any xa x.index.length xcap x.index W h hwi)
  rw [h4] at HQ
  obtain ⟨wA, hwA⟩ : ∃ wA, wA = w.alloc (Obj.cells #[.string x.name, .string x.file, .slice la x.lines.length lcap, .slice xa x.index.length xcap, .slice ta x.tree.length tcap] 90) := ⟨_, rfl⟩
  have hbA : Below w.heap.size w wA := by rw [hwA]; exact (Below.refl _ _).alloc (Nat.le_refl _) _
  have heA : wA.heap[w.heap.size]? = some (.cells #[.string x.name, .string x.file, .slice la x.lines.length lcap, .slice xa x.index.length xcap, .slice ta x.tree.length tcap] 90 (0, 0)) := by rw [hwA]; exact heap_alloc_new _ _
  have hltA : w.heap.size < wA.heap.size := (Array.getElem?_eq_some_iff.1 heA).1
  generalize sumS x.lines = q at *
  have HL := hid hl
  have HI := hid hi
  have HE := hid heA
  generalize hll : x.lines.length = ll at *
  generalize hil : x.index.length = il at *
  generalize x.tree.length = tl at *
  clear hl hi heA h1 h2 h3 h4 hwl hwi hll hil
  go_enter Tryz.func76, Tryz.ntmps76
  go_wp2_with fail
  rw [← hwA]
  refine (HW.out wA (HL.out.below hbA (Nat.le_refl _))).mono ?_
  rintro e w1 ⟨rfl, b1⟩
  have b01 : Below w.heap.size w w1 := hbA.trans (b1.mono hbA.size)
  have e1 := (b1.block w.heap.size hltA).trans HE.out
  have z1 : w1.cell? ⟨w.heap.size, 3, none⟩ = some (.slice xa il xcap) := by simp [World.cell?, e1]
  go_wp2_with fail
  refine (HX.out w1 (HI.out.below b01 (Nat.le_refl _))).mono ?_
  rintro e w2 ⟨rfl, b2⟩
  have b02 : Below w.heap.size w w2 := b01.trans (b2.mono b01.size)
  have hlt1 : w.heap.size < w1.heap.size := Nat.lt_of_lt_of_le hltA b1.size
  have e2 := (b2.block w.heap.size hlt1).trans e1
  have y2 : w2.cell? ⟨w.heap.size, 2, none⟩ = some (.slice la ll lcap) := by simp [World.cell?, e2]
  have y3 : w2.cell? ⟨w.heap.size, 3, none⟩ = some (.slice xa il xcap) := by simp [World.cell?, e2]
  have hlt2 : w.heap.size < w2.heap.size := Nat.lt_of_lt_of_le hlt1 b2.size
  have HL2 := hid (HL.out.below b02 (Nat.le_refl _))
  have HI2 := hid (HI.out.below b02 (Nat.le_refl _))
  have HE2 := hid e2
  have HB02 := hid b02
  have hsz2 := b02.size
  clear z1 e1 e2 b01 b02 b1 b2 hwA hbA hlt1 hltA HW HX HL HI HE
  have KS : Hid (∀ W : World, Below w2.heap.size w2 W → Below w2.heap.size w2 W ∧ W.cell? ⟨w.heap.size, 2, none⟩ = some (.slice la ll lcap) ∧ W.cell? ⟨w.heap.size, 3, none⟩ = some (.slice xa il xcap)) := fun W h => ⟨h, (h.cell (p := ⟨w.heap.size, 2, none⟩) hlt2).trans y2, (h.cell (p := ⟨w.heap.size, 3, none⟩) hlt2).trans y3⟩
  clear y2 y3
  go_wp2
  go_region_held (fun W => Below w2.heap.size w2 W ∧ W.cell? ⟨w.heap.size, 2, none⟩ = some (.slice la ll lcap) ∧ W.cell? ⟨w.heap.size, 3, none⟩ = some (.slice xa il xcap))
      ((refine KS.out _ ?_; first | exact (Below.refl _ _).drew | exact (‹Below w2.heap.size w2 _ ∧ _›.1).trans (hb4.mono (‹Below w2.heap.size w2 _ ∧ _›.1).size)))
      ((first | (go_at_call 88; refine (HLM.out _ (HL2.out.below ?_ (Nat.le_refl _))).mono ?_; exact (‹Below w2.heap.size w2 _ ∧ _›.1); rintro e w4 ⟨rfl, hb4⟩) | (go_at_call_of 78 (Value.slice la ll lcap); refine (HP.out _ (HL2.out.below ?_ (Nat.le_refl _))).mono ?_; exact (‹Below w2.heap.size w2 _ ∧ _›.1); rintro e w4 ⟨rfl, hb4⟩) | (go_at_call_of 78 (Value.slice xa il xcap); refine (HQ.out _ (HI2.out.below ?_ (Nat.le_refl _))).mono ?_; exact (‹Below w2.heap.size w2 _ ∧ _›.1); rintro e w4 ⟨rfl, hb4⟩)))
  all_goals
    have hfin := (‹Below w2.heap.size w2 _ ∧ _›.1)
    go_wp2
    go_ret
    exact ⟨rfl, HB02.out.trans (hfin.mono hsz2)⟩

theorem treeOk_at (funcs : Int) (inst : List Int) : ∀ (l : List (Int × Int)) (k : Nat) (i b : Int), treeOk funcs inst l i b = true → k < l.length → withB (l.getD k (0, 0)).1 funcs = true ∧ pcB (l.getD k (0, 0)).2 (if k = 0 then b else (l.getD (k - 1) (0, 0)).2) (i + k) inst = true
  | [], k, i, b, _, h => by simp at h
  | p :: r, k, i, b, ht, hk => by
    unfold treeOk at ht
    rw [Bool.and_eq_true, Bool.and_eq_true] at ht
    cases k with
    | zero => simpa using ht.1
    | succ k =>
      have := treeOk_at funcs inst r k (i + 1) p.2 ht.2 (by simpa using hk)
      have e1 : i + ((k + 1 : Nat) : Int) = i + 1 + (k : Int) := by omega
      rw [e1]
      simp only [List.getD_cons_succ, Nat.add_sub_cancel, if_neg (Nat.succ_ne_zero k)]
      refine ⟨this.1, ?_⟩
      cases k with
      | zero => simpa using this.2
      | succ k => simpa using this.2

theorem treeOk_nn (funcs : Int) (inst : List Int) : ∀ (l : List (Int × Int)) (i b : Int), -1 ≤ b → treeOk funcs inst l i b = true → ∀ j, j < l.length → 0 ≤ (l.getD j (0, 0)).2
  | [], _, _, _, _, j, h => by simp at h
  | p :: r, i, b, hb, ht, j, hj => by
    unfold treeOk at ht
    rw [Bool.and_eq_true, Bool.and_eq_true] at ht
    have h1 := ht.1.2
    unfold pcB at h1
    rw [Bool.and_eq_true] at h1
    have h2 := (of_decide_eq_true h1.1).1
    cases j with
    | zero => simp; omega
    | succ j => simpa using treeOk_nn funcs inst r (i + 1) p.2 (by omega) ht.2 j (by simpa using hj)

set_option maxHeartbeats 1000000 in
set_option maxRecDepth 100000 in
theorem treeMayBe_true (ta xa : Option Addr) (tlen tcap xlen xcap : Nat) (tree index : List (Int × Int)) (funcs : Int) (w : World) (ht : RdS w ta tlen tcap tree) (hi : RdS w xa xlen xcap index) (h1 : wfS index (-1) 1000 = true) (h2 : (tlen : Int) = mostT index) (h3 : treeOk funcs (unroll index) tree 1 (-1) = true) :
    Calls Tryz.prog 77 #[.slice ta tlen tcap, .slice xa xlen xcap, .int .i64 funcs] w fun e w' => e = .returned (.bool true) ∧ Below w.heap.size w w' := by
  have HTL := hid ht.hlen
  have hcap := ht.hcap
  have hmax := ht.hmax
  unfold maxLen at hmax
  have HN := hid (nodes_any xa xlen xcap index w hi)
  rw [← h2] at HN
  have HV := hid (fun (W : World) (h : RdS W xa xlen xcap index) => values_any xa xlen xcap index W h h1)
  have hml := mostT_le h1
  have HTO := hid (fun k hk => treeOk_at funcs (unroll index) tree k 1 (-1) h3 hk)
  have HNN := hid (treeOk_nn funcs (unroll index) tree 1 (-1) (by omega) h3)
  have HT := hid ht
  have HI := hid hi
  have h12 : tlen ≤ 9999 := by omega
  generalize unroll index = inst at *
  clear ht hi h1 h2 h3 hml
  have hnn : ((tlen : Int) != (tlen : Int)) = false := by simp
  go_enter Tryz.func77, Tryz.ntmps77
  go_wp2_with fail
  refine HN.out.mono ?_
  rintro e w1 ⟨rfl, b1⟩
  go_wp2_with fail
  refine (HV.out w1 (HI.out.below b1 (Nat.le_refl _))).mono ?_
  rintro e w2 ⟨v, rfl, hown, b2⟩
  have b02 : Below w.heap.size w w2 := b1.trans (b2.mono b1.size)
  obtain ⟨ia, icap, rfl, hrd, -⟩ := rd_of_owns64 hown rfl
  have HB02 := hid b02
  have HRD := hid hrd
  have HT2 := hid (HT.out.below b02 (Nat.le_refl _))
  have hs02 := b02.size
  clear hown hrd b02 b1 b2
  go_wp2
  go_loopw [8, 20] (fun bf i wr => ∃ k : Nat, i = .int .i64 k ∧ k ≤ tlen ∧ bf = .int .i64 (if k = 0 then -1 else (tree.getD (k - 1) (0, 0)).2) ∧ Below w2.heap.size w2 wr) (fun _ i _ => tlen - (intOf i).toNat)
  case atStart => exact ⟨0, rfl, by omega, rfl, Below.refl _ _⟩
  case round =>
    obtain ⟨k, rfl, hk, rfl, hbel⟩ := hrel
    have hsz := hbel.size
    by_cases hlt : k < tlen
    · obtain ⟨b0, off, rfl, hc⟩ := (HT2.out.below hbel (Nat.le_refl _)).open (by omega)
      obtain ⟨hc1, hc2⟩ := hc k hlt
      have hb0 := World.block_lt_of_cell? wr _ hc1
      have hto := HTO.out k (by rw [HTL.out]; exact hlt)
      have hbf : -1 ≤ (if k = 0 then -1 else (tree.getD (k - 1) (0, 0)).2) := by
        split
        · omega
        · have := HNN.out (k - 1) (by rw [HTL.out]; omega)
          omega
      have hnext : (if k + 1 = 0 then (-1 : Int) else (tree.getD (k + 1 - 1) (0, 0)).2) = (tree.getD k (0, 0)).2 := by simp
      have HNX := hid hnext
      obtain ⟨⟨fn, pc⟩, hp⟩ : ∃ p, tree.getD k (0, 0) = p := ⟨_, rfl⟩
      rw [hp] at hc1 hc2 hto HNX
      simp only at hc1 hc2 hb0 hto HNX
      generalize (if k = 0 then (-1 : Int) else (tree.getD (k - 1) (0, 0)).2) = bf at *
      have HF := hid (fun W => funcMayBe_any fn funcs W)
      rw [hto.1] at HF
      have e1 : (1 : Int) + (k : Int) = (k : Int) + 1 := by omega
      have hto2 := hto.2
      rw [e1] at hto2
      have HP := hid (fun (W : World) (h : Rd .i64 W ia inst.length icap inst) => pcMayBe_any pc bf ((k : Int) + 1) ia inst.length icap inst W h hbf)
      rw [hto2] at HP
      have HRR := hid (HRD.out.below (hbel.alloc hsz (Obj.cells #[.int .i64 fn, .int .i64 pc] 133)) (Nat.le_refl _))
      clear hto hto2 hc hp e1 hnext
      go_wp2_with (first | (go_at_call 93; refine (HF.out _).mono ?_; rintro e w' ⟨rfl, rfl⟩) | (go_at_call 94; refine (HP.out _ HRR.out).mono ?_; rintro e w' ⟨rfl, rfl⟩))
      go_roundw
      case rel => exact ⟨k + 1, by go_num, by omega, by rw [HNX.out], hbel.alloc hsz _⟩
      case measure => simp [intOf]; omega
    · have hlt' : decide ((k : Int) < (tlen : Int)) = false := by simp; omega
      generalize (if k = 0 then (-1 : Int) else (tree.getD (k - 1) (0, 0)).2) = bf at *
      go_wp2
      go_ret
      exact ⟨rfl, HB02.out.trans (hbel.mono hs02)⟩
end Go.Proofs.YthaganponmnanaaGreatDoor
namespace Go.Proofs.YthaganponmnanaaGreatDoor
open Go.RowKit

theorem entOk_parts {n : Int} {x : EntD} {names : List ByteArray} {room : Int} (h : entOk n x names room = true) : newB x.name names = true ∧ wordB x.file = true ∧ wfT x.lines = true ∧ wfT x.index = true ∧ linesB x.lines room = true ∧ sumS x.index = sumS x.lines ∧ (x.tree.length : Int) = mostT x.index ∧ treeOk n (unroll x.index) x.tree 1 (-1) = true := by
  unfold entOk at h
  simp only [Bool.and_eq_true] at h
  obtain ⟨⟨h1, h2⟩, ⟨⟨h3, h4⟩, h5, h6⟩, h7, h8⟩ := h
  exact ⟨h1, h2, h3, h4, h5, by simpa using h6, by simpa using h7, h8⟩
theorem wordB_size {s : ByteArray} (h : wordB s = true) : s.size ≤ 20 := by
  unfold wordB at h
  rw [Bool.and_eq_true] at h
  exact (of_decide_eq_true h.1).2
theorem RdI.at {w : World} {a : Option Addr} {len cap : Nat} {l : List EntD} (h : RdI w a len cap l) {k : Nat} {x : EntD} (hx : l[k]? = some x) : ∃ b off la lcap xa xcap ta tcap, a = some ⟨b, off, none⟩ ∧ w.cell? ⟨b, off + k * 5, none⟩ = some (.string x.name) ∧ w.cell? ⟨b, off + k * 5 + 1, none⟩ = some (.string x.file) ∧ w.cell? ⟨b, off + k * 5 + 2, none⟩ = some (.slice la x.lines.length lcap) ∧ w.cell? ⟨b, off + k * 5 + 3, none⟩ = some (.slice xa x.index.length xcap) ∧ w.cell? ⟨b, off + k * 5 + 4, none⟩ = some (.slice ta x.tree.length tcap) ∧ RdS w la x.lines.length lcap x.lines ∧ RdS w xa x.index.length xcap x.index ∧ RdS w ta x.tree.length tcap x.tree := by
  obtain ⟨b, off, cs, e, _, hc, la, lcap, xa, xcap, ta, tcap, rfl, h1, h2, h3, _⟩ := h.2.2.2 k x hx
  exact ⟨b, off, la, lcap, xa, xcap, ta, tcap, e, hc 0 _ rfl, hc 1 _ rfl, hc 2 _ rfl, hc 3 _ rfl, hc 4 _ rfl, h1, h2, h3⟩
theorem wfIF_drop {n : Int} {l : List EntD} {k : Nat} {x : EntD} {names : List ByteArray} {room : Int} (h : wfIF n (l.drop k) names room = true) (hx : l[k]? = some x) : entOk n x names room = true ∧ wfIF n (l.drop (k + 1)) (names ++ [x.name]) (room - sumS x.lines) = true := by
  obtain ⟨hk, e⟩ := List.getElem?_eq_some_iff.1 hx
  rw [List.drop_eq_getElem_cons hk, e] at h
  unfold wfIF at h
  rw [Bool.and_eq_true] at h
  exact h

set_option maxHeartbeats 4000000 in
set_option maxRecDepth 100000 in
theorem iwf_true (fa : Option Addr) (len fcap : Nat) (l : List EntD) (w : World) (hr : RdI w fa len fcap l) (hwf : wfI l = true) :
    Calls Tryz.prog 51 #[.agg #[.slice fa len fcap]] w fun e w' => e = .returned (.bool true) ∧ Below w.heap.size w w' := by
  have HL := hid hr.1
  have hcap := hr.2.1
  have hmax := hr.2.2.1
  unfold maxLen at hmax
  unfold wfI at hwf
  rw [Bool.and_eq_true, HL.out] at hwf
  have h12 := of_decide_eq_true hwf.1
  have HWF := hid hwf.2
  have HCM := hid (fun W => countMayBe_any (len : Int) W)
  have hcb : cntB (len : Int) = true := by unfold cntB; simp; omega
  rw [hcb] at HCM
  obtain ⟨wA, hwA⟩ : ∃ wA, wA = w.alloc (Obj.cells #[.slice fa len fcap] 83) := ⟨_, rfl⟩
  have hbA : Below w.heap.size w wA := by rw [hwA]; exact (Below.refl _ _).alloc (Nat.le_refl _) _
  have heA : wA.heap[w.heap.size]? = some (.cells #[.slice fa len fcap] 83 (0, 0)) := by rw [hwA]; exact heap_alloc_new _ _
  have hsA : wA.heap.size = w.heap.size + 1 := by rw [hwA]; simp
  obtain ⟨i0, hif, hz0, hz1, hz2⟩ := info_parts Tryz.infoString
  have HR := hid hr
  have HE := hid heA
  have HBA := hid hbA
  have HSA := hid hsA
  clear hr hwf hcb heA hbA hsA
  go_enter Tryz.func51, Tryz.ntmps51
  go_wp2_with (go_at_call 64; refine (HCM.out _).mono ?_; rintro e w' ⟨rfl, rfl⟩)
  rw [← hwA]
  clear hwA
  go_loopw [3, 4, 15] (fun nv rm i wr => ∃ (k : Nat) (names : List ByteArray) (room : Int), i = .int .i64 k ∧ rm = .int .i64 room ∧ k ≤ len ∧ names.length = k ∧ (∀ x ∈ names, x.size ≤ 20) ∧ 0 ≤ room ∧ room ≤ 1000 ∧ wfIF (len : Int) (l.drop k) names room = true ∧ wr.ownsRow w.heap.size 9 1 nv k (strs names) ∧ Below wA.heap.size wA wr) (fun _ _ i _ => len - (intOf i).toNat)
  case atStart => exact ⟨0, [], 1000, rfl, rfl, by omega, rfl, fun x hx => by simp at hx, by omega, by omega, HWF.out, World.ownsRow_nil _ _ _ _, Below.refl _ _⟩
  case round =>
    clear HWF
    obtain ⟨k, names, room, rfl, rfl, hk, hnl, hn20, hr0, hr1, hwk, hown, hbel⟩ := hrel
    have hsz := hbel.size
    have hsA := HSA.out
    have hbw : Below w.heap.size w wr := HBA.out.trans (hbel.mono (by omega))
    have hew := (hbel.block w.heap.size (by omega)).trans HE.out
    obtain ⟨na, ncap, rfl, hnt, -⟩ := rdT_of_owns hown hnl hn20
    by_cases hlt : k < len
    · obtain ⟨x, hx⟩ : ∃ x, l[k]? = some x := ⟨_, List.getElem?_eq_getElem (by rw [HL.out]; exact hlt)⟩
      obtain ⟨hok, hwk2⟩ := wfIF_drop hwk hx
      obtain ⟨p1, p2, p3, p4, p5, p6, p7, p8⟩ := entOk_parts hok
      obtain ⟨b, off, la, lcap, xa, xcap, ta, tcap, rfl, d0, d1, d2, d3, d4, hslw, hsxw, hstw⟩ := HR.out.at hx
      have hbltw := World.block_lt_of_cell? w _ d0
      simp only at hbltw
      have c0 := (hbw.cell (p := ⟨b, off + k * 5, none⟩) hbltw).trans d0
      have c1 := (hbw.cell (p := ⟨b, off + k * 5 + 1, none⟩) hbltw).trans d1
      have c2 := (hbw.cell (p := ⟨b, off + k * 5 + 2, none⟩) hbltw).trans d2
      have c3 := (hbw.cell (p := ⟨b, off + k * 5 + 3, none⟩) hbltw).trans d3
      have c4 := (hbw.cell (p := ⟨b, off + k * 5 + 4, none⟩) hbltw).trans d4
      have hsl := hslw.below hbw (Nat.le_refl _)
      have hsx := hsxw.below hbw (Nat.le_refl _)
      have hst := hstw.below hbw (Nat.le_refl _)
      have HSLW := hid hslw
      have hblt : b < wr.heap.size := by have := hbw.size; omega
      clear d0 d1 d2 d3 d4 hslw hsxw hstw
      have hwl : wfS x.lines (-1) 1000 = true := by unfold wfT at p3; rw [Bool.and_eq_true] at p3; exact p3.1
      have hwi : wfS x.index (-1) 1000 = true := by unfold wfT at p4; rw [Bool.and_eq_true] at p4; exact p4.1
      have hsum := unroll_all_len hwl
      have hroom : sumS x.lines ≤ room := by unfold linesB at p5; rw [Bool.and_eq_true] at p5; exact of_decide_eq_true p5.2
      have hnm20 : x.name.size ≤ 20 := by unfold newB at p1; rw [Bool.and_eq_true] at p1; exact wordB_size p1.1
      have hfl20 := wordB_size p2
      have HNW := hid (fun (W : World) (h : RdT W na k ncap names) => isNewWord_any x.name na k ncap names W h (by unfold maxLen; omega))
      rw [p1] at HNW
      have HIW := hid (fun (W : World) => isWord_any x.file W (by unfold maxLen; omega))
      rw [p2] at HIW
      have HTM := hid (fun (W : World) (h1 : RdS W la x.lines.length lcap x.lines) (h2 : RdS W xa x.index.length xcap x.index) => tablesMayBe_true x la xa ta lcap xcap tcap room W h1 h2 p3 p4 p5 p6)
      have HTR := hid (fun (W : World) (h1 : RdS W ta x.tree.length tcap x.tree) (h2 : RdS W xa x.index.length xcap x.index) => treeMayBe_true ta xa x.tree.length tcap x.index.length xcap x.tree x.index (len : Int) W h1 h2 hwi p7 p8)
      have HPC := hid (fun (W : World) (h1 : RdS W la x.lines.length lcap x.lines) => pcs_any la x.lines.length lcap x.lines W h1 hwl)
      obtain ⟨wB, hwB⟩ : ∃ wB, wB = wr.alloc (Obj.cells #[.string x.name, .string x.file, .slice la x.lines.length lcap, .slice xa x.index.length xcap, .slice ta x.tree.length tcap] 90) := ⟨_, rfl⟩
      have hbB : Below wr.heap.size wr wB := by rw [hwB]; exact (Below.refl _ _).alloc (Nat.le_refl _) _
      have heB : wB.heap[wr.heap.size]? = some (.cells #[.string x.name, .string x.file, .slice la x.lines.length lcap, .slice xa x.index.length xcap, .slice ta x.tree.length tcap] 90 (0, 0)) := by rw [hwB]; exact heap_alloc_new _ _
      have hsB : wB.heap.size = wr.heap.size + 1 := by rw [hwB]; simp
      have HNL := hid hwk2
      have HNT := hid (hnt.below hbB)
      have HSL := hid (hsl.below hbB (Nat.le_refl _))
      have HSX := hid (hsx.below hbB (Nat.le_refl _))
      have HST := hid (hst.below hbB (Nat.le_refl _))
      have HOW := hid (owns_below hown hbB)
      have HEB := hid heB
      have HEW := hid ((hbB.block w.heap.size (by omega)).trans hew)
      have HBEL := hid (hbel.trans (hbB.mono hsz))
      have HBW := hid (hbw.trans (hbB.mono (by omega)))
      have HNLN := hid hnl
      generalize sumS x.lines = sl at *
      generalize x.lines.length = ll at *
      generalize x.index.length = xl at *
      generalize x.tree.length = tl at *
      clear hx hok hwk hwk2 p1 p2 p3 p4 p5 p6 p7 p8 hsl hsx hst hnt hown heB hwl hwi hbB hbel hbw
      go_wp2_with fail
      rw [← hwB]
      clear hwB c0 c1 c2 c3 c4
      refine (HNW.out wB HNT.out).mono ?_
      rintro e w1 ⟨rfl, b1⟩
      have e1 := (b1.block wr.heap.size (by omega)).trans HEB.out
      have s1 := b1.size
      have z1 : w1.cell? ⟨wr.heap.size, 1, none⟩ = some (.string x.file) := by simp [World.cell?, e1]
      go_wp2_with fail
      refine (HIW.out w1).mono ?_
      rintro e w2 ⟨rfl, b2⟩
      have bB2 : Below wB.heap.size wB w2 := b1.trans (b2.mono s1)
      have e2 := (bB2.block wr.heap.size (by omega)).trans HEB.out
      have s2 := bB2.size
      have y0 : w2.cell? ⟨wr.heap.size, 0, none⟩ = some (.string x.name) := by simp [World.cell?, e2]
      have y1 : w2.cell? ⟨wr.heap.size, 1, none⟩ = some (.string x.file) := by simp [World.cell?, e2]
      have y2 : w2.cell? ⟨wr.heap.size, 2, none⟩ = some (.slice la ll lcap) := by simp [World.cell?, e2]
      have y3 : w2.cell? ⟨wr.heap.size, 3, none⟩ = some (.slice xa xl xcap) := by simp [World.cell?, e2]
      have y4 : w2.cell? ⟨wr.heap.size, 4, none⟩ = some (.slice ta tl tcap) := by simp [World.cell?, e2]
      go_wp2_with fail
      refine (HTM.out w2 (HSL.out.below bB2 (Nat.le_refl _)) (HSX.out.below bB2 (Nat.le_refl _))).mono ?_
      rintro e w3 ⟨rfl, b3⟩
      have bB3 : Below wB.heap.size wB w3 := bB2.trans (b3.mono s2)
      have e3 := (bB3.block wr.heap.size (by omega)).trans HEB.out
      have s3 := bB3.size
      have x3 : w3.cell? ⟨wr.heap.size, 3, none⟩ = some (.slice xa xl xcap) := by simp [World.cell?, e3]
      have x4 : w3.cell? ⟨wr.heap.size, 4, none⟩ = some (.slice ta tl tcap) := by simp [World.cell?, e3]
      have f3 := (bB3.block w.heap.size (by omega)).trans HEW.out
      have g3 : w3.cell? ⟨w.heap.size, 0, none⟩ = some (.slice (some ⟨b, off, none⟩) len fcap) := by simp [World.cell?, f3]
      clear y0 y1 y2 y3 y4 z1 e1 e2
      go_wp2_with fail
      refine (HTR.out w3 (HST.out.below bB3 (Nat.le_refl _)) (HSX.out.below bB3 (Nat.le_refl _))).mono ?_
      rintro e w4 ⟨rfl, b4⟩
      have bB4 : Below wB.heap.size wB w4 := bB3.trans (b4.mono s3)
      have e4 := (bB4.block wr.heap.size (by omega)).trans HEB.out
      have s4 := bB4.size
      have u0 : w4.cell? ⟨wr.heap.size, 0, none⟩ = some (.string x.name) := by simp [World.cell?, e4]
      have hown4 := owns_below HOW.out bB4
      have HO4 := hid hown4
      have HE4 := hid e4
      have hw4 : w.heap.size ≤ w4.heap.size := by omega
      clear x3 x4 f3 g3 e3 hown4 e4
      go_wp2_with (at_builtin; refine wpList_append_lies _ rfl (.tmp 45) (.tmp 48) 123 rfl w.heap.size 9 i0 (.string ⟨#[]⟩) 1 16 Tryz.underlying123 hif hz0 hz1 hz2 rfl (by decide) _ _ _ rfl (HO4.out.alloc _) ⟨w4.heap.size, 0, none⟩ 1 1 [.string x.name] rfl rfl (cell_one_new _ _ _) (fun u hu => by rw [List.mem_singleton.1 hu]; rfl) (by decide) (by unfold maxLen; omega) (by omega) (by simp; omega) _ rfl ?_)
      intro g cap' w5 hown5 hgrow5 hat5 hlt5
      have hne5 : some wr.heap.size ≠ (Value.slice na k ncap).ownBlock := owns_other HO4.out HE4.out (by decide)
      have e5 := (hgrow5.block wr.heap.size (by simp; omega) hne5).trans ((heap_alloc_old _ _ (by omega)).trans HE4.out)
      have t5 : w5.cell? ⟨wr.heap.size, 2, none⟩ = some (.slice la ll lcap) := by simp [World.cell?, e5]
      have bw5 : Below w.heap.size w w5 := ((HBW.out.trans (bB4.mono (by omega))).alloc hw4 _).grown hgrow5 (by simp; omega) (fun q hq => (HO4.out.lt q hq).1)
      have hne6 : ∀ q, (Value.slice na k ncap).ownBlock = some q → q ≠ w.heap.size := fun q hq e => by
        have := owns_other HO4.out ((bB4.block w.heap.size (by omega)).trans HEW.out) (by decide)
        exact this (by rw [hq, e])
      have bA5 : Below wA.heap.size wA w5 := by
        refine ((HBEL.out.trans (bB4.mono (by omega))).alloc (by omega) _).grown hgrow5 (by simp; omega) (fun q hq => ?_)
        have h1 := (HO4.out.lt q hq).1
        have h2 := hne6 q hq
        omega
      have HP5 := hid (HPC.out w5 (HSLW.out.below bw5 (Nat.le_refl _)))
      have HR5 : Hid (w5.ownsRow w.heap.size 9 1 (.slice (some ⟨g, 0, none⟩) (k + 1) cap') (k + 1) (strs (names ++ [x.name]))) := by
        have e2 : strs (names ++ [x.name]) = strs names ++ [.string x.name] := by simp [strs]
        show World.ownsRow _ _ _ _ _ _ _
        rw [e2]; exact hown5
      have HBA5 := hid bA5
      have hsz5 := bA5.size
      have hwrp : IntKind.i64.wrap (room - sl) = room - sl := by rw [IntKind.wrap_i64]; omega
      have hsl0 : 0 ≤ sl := by omega
      clear hown5 hgrow5 hat5 hne5 e5 bw5 bA5 HO4 HE4 u0 bB4 b4 bB3 b3 bB2 b2 b1
      go_wp2_with fail
      refine HP5.out.mono ?_
      rintro e w6 ⟨rfl, b6⟩
      have HF6 : Hid (w6.ownsRow w.heap.size 9 1 (.slice (some ⟨g, 0, none⟩) (k + 1) cap') (k + 1) (strs (names ++ [x.name])) ∧ Below wA.heap.size wA w6) := ⟨owns_below HR5.out b6, HBA5.out.trans (b6.mono hsz5)⟩
      clear HP5 HR5 HBA5 b6
      go_wp2
      go_roundw
      case rel => exact ⟨k + 1, names ++ [x.name], room - sl, by go_num, rfl, by omega, by simp [HNLN.out], fun y hy => by
          rcases List.mem_append.1 hy with hm | hm
          · exact hn20 y hm
          · rw [List.mem_singleton.1 hm]; exact hnm20, by omega, by omega, HNL.out, HF6.out.1, HF6.out.2⟩
      case measure => simp [intOf]; omega
    · have hlt' : decide ((k : Int) < (len : Int)) = false := by simp; omega
      go_wp2
      go_ret
      exact ⟨rfl, hbw⟩
end Go.Proofs.YthaganponmnanaaGreatDoor
