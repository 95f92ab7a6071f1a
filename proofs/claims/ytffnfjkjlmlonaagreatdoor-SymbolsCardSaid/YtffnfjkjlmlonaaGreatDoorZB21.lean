/- Contracts of the statement's own functions markFrame, framesOf and framesStill: a list of frames that is handed in with eight marks behind it, and the look whether it stands so still. Contracts of the reference's digits and GetNumber: the plain functions that the developers' own answer too. -/
import Derived.Test.YtffnfjkjlmlonaaGreatDoorZB13
import Derived.Test.YtffnfjkjlmlonaaGreatDoorZB14
import Derived.Test.YtffnfjkjlmlonaaGreatDoorJ5
import Derived.Test.YtffnfjkjlmlonaaGreatDoorZB6
namespace Go.Proofs.YtffnfjkjlmlonaaGreatDoor
open Go.RowKit
def mkFr : FrameD := ⟨mkB, mkB, 77⟩
def zrFr : FrameD := ⟨⟨#[]⟩, ⟨#[]⟩, 0⟩
def frRow (l : List FrameD) : List Value := (l.map frCells).flatten
theorem frRow_len (l : List FrameD) : (frRow l).length = l.length * 3 := frCells_len l
theorem frRow_app (a b : List FrameD) : frRow (a ++ b) = frRow a ++ frRow b := by simp [frRow]
theorem frRow_get {l : List FrameD} {i : Nat} {x : FrameD} (h : l[i]? = some x) : (frRow l)[i * 3]? = some (.string x.func) ∧ (frRow l)[i * 3 + 1]? = some (.string x.file) ∧ (frRow l)[i * 3 + 2]? = some (.int .i64 x.line) := by
  have hl : ∀ c ∈ l.map frCells, c.length = 3 := fun c hc => by obtain ⟨y, _, rfl⟩ := List.mem_map.1 hc; rfl
  have hi : (l.map frCells)[i]? = some (frCells x) := by simp [h]
  exact ⟨flatten_at hl i 0 _ _ hi rfl, flatten_at hl i 1 _ _ hi rfl, flatten_at hl i 2 _ _ hi rfl⟩
/-- The frames of a list that is handed in, behind k of its eight marks. -/
def markF (l : List FrameD) (k : Nat) : List FrameD := l ++ (List.replicate k mkFr ++ List.replicate (8 - k) zrFr)
theorem markF_len (l : List FrameD) (k : Nat) (h : k ≤ 8) : (markF l k).length = l.length + 8 := by simp [markF]; omega
theorem markF_old (l : List FrameD) (i : Nat) (h : i < l.length) : (markF l 8)[i]? = l[i]? := by unfold markF; rw [List.getElem?_append_left h]
theorem markF_at (l : List FrameD) (k : Nat) (h : k < 8) : (markF l 8)[l.length + k]? = some mkFr := by
  unfold markF
  rw [List.getElem?_append_right (by omega), Nat.add_sub_cancel_left, List.getElem?_append_left (by simpa using h), List.getElem?_replicate_of_lt h]
theorem markF_now (l : List FrameD) (k : Nat) (h : k < 8) : (markF l k)[l.length + k]? = some zrFr := by
  unfold markF
  rw [List.getElem?_append_right (by omega), Nat.add_sub_cancel_left, List.getElem?_append_right (by simp), List.length_replicate, Nat.sub_self, List.getElem?_replicate_of_lt (by omega)]
theorem frRow_set3 (l : List FrameD) (k : Nat) (h : k < 8) : (((frRow (markF l k)).set ((l.length + k) * 3) (.string mkB)).set ((l.length + k) * 3 + 1) (.string mkB)).set ((l.length + k) * 3 + 2) (.int .i64 77) = frRow (markF l (k + 1)) := by
  have hk : ∀ c ∈ (markF l k).map frCells, c.length = 3 := fun c hc => by obtain ⟨y, _, rfl⟩ := List.mem_map.1 hc; rfl
  have hlen : l.length + k < ((markF l k).map frCells).length := by rw [List.length_map, markF_len l k (by omega)]; omega
  have hz : ((markF l k).map frCells).getD (l.length + k) [] = frCells zrFr := by
    simp [List.getD, List.getElem?_map, markF_now l k h]
  have hms := marks_set (l.map frCells) (frCells mkFr) (frCells zrFr) k l.length (by simp) h
  have e0 : (markF l k).map frCells = l.map frCells ++ (List.replicate k (frCells mkFr) ++ List.replicate (8 - k) (frCells zrFr)) := by simp [markF]
  have e1 : (markF l (k + 1)).map frCells = l.map frCells ++ (List.replicate (k + 1) (frCells mkFr) ++ List.replicate (8 - (k + 1)) (frCells zrFr)) := by simp [markF]
  unfold frRow
  have s1 := flatten_set 3 ((markF l k).map frCells) (l.length + k) 0 (.string mkB) hk hlen (by decide)
  rw [Nat.add_zero] at s1
  rw [s1, hz]
  obtain ⟨E1, hE1⟩ : ∃ v, v = ((markF l k).map frCells).set (l.length + k) ((frCells zrFr).set 0 (.string mkB)) := ⟨_, rfl⟩
  rw [← hE1]
  have hk1 : ∀ c ∈ E1, c.length = 3 := by rw [hE1]; exact set_all_len hk _ _ rfl
  have hl1 : l.length + k < E1.length := by rw [hE1, List.length_set]; exact hlen
  have hg1 : E1.getD (l.length + k) [] = (frCells zrFr).set 0 (.string mkB) := by rw [hE1]; simp [List.getD, List.getElem?_set_self hlen]
  rw [flatten_set 3 E1 (l.length + k) 1 (.string mkB) hk1 hl1 (by decide), hg1]
  obtain ⟨E2, hE2⟩ : ∃ v, v = E1.set (l.length + k) (((frCells zrFr).set 0 (.string mkB)).set 1 (.string mkB)) := ⟨_, rfl⟩
  rw [← hE2]
  have hk2 : ∀ c ∈ E2, c.length = 3 := by rw [hE2]; exact set_all_len hk1 _ _ rfl
  have hl2 : l.length + k < E2.length := by rw [hE2, List.length_set]; exact hl1
  have hg2 : E2.getD (l.length + k) [] = ((frCells zrFr).set 0 (.string mkB)).set 1 (.string mkB) := by rw [hE2]; simp [List.getD, List.getElem?_set_self hl1]
  rw [flatten_set 3 E2 (l.length + k) 2 (.int .i64 77) hk2 hl2 (by decide), hg2, hE2, hE1, List.set_set, List.set_set, e0, e1]
  rw [← hms]
  rfl
theorem made_frames (n : Nat) : (madeCells (Value.agg #[.string ⟨#[]⟩, .string ⟨#[]⟩, .int .i64 0]).cells (n * 3)).toList = frRow (List.replicate n zrFr) := by
  have := made_rows (frCells zrFr) 3 n rfl (by decide)
  unfold frRow
  rw [List.map_replicate]
  exact this
theorem fr_src {w : World} {ad : Addr} {len cap : Nat} {l : List FrameD} (h : RdL 3 RdFrame w (some ad) len cap l) : ∀ j v, (frRow l)[j]? = some v → w.cell? (ad.add j) = some v := by
  intro j v hj
  have hlt : j < l.length * 3 := by
    rcases Nat.lt_or_ge j (frRow l).length with h | h
    · rw [frRow_len] at h; exact h
    · rw [List.getElem?_eq_none h] at hj; cases hj
  obtain ⟨x, hx⟩ : ∃ x, l[j / 3]? = some x := ⟨_, List.getElem?_eq_getElem (by omega)⟩
  obtain ⟨b, off, e, c0, c1, c2⟩ := h.frameAt (j / 3) x hx
  obtain ⟨g0, g1, g2⟩ := frRow_get hx
  cases e
  have e1 : (⟨b, off, none⟩ : Addr).add j = ⟨b, off + j, none⟩ := by unfold Addr.add; split <;> simp_all
  rw [e1]
  have hm : j % 3 = 0 ∨ j % 3 = 1 ∨ j % 3 = 2 := by omega
  rcases hm with hm | hm | hm
  · have ej : j = j / 3 * 3 := by omega
    rw [← ej] at g0 c0
    rw [g0] at hj
    cases hj
    exact c0
  · have ej : j = j / 3 * 3 + 1 := by omega
    rw [← ej] at g1
    rw [g1] at hj
    cases hj
    rw [Nat.add_assoc, ← ej] at c1
    exact c1
  · have ej : j = j / 3 * 3 + 2 := by omega
    rw [← ej] at g2
    rw [g2] at hj
    cases hj
    rw [Nat.add_assoc, ← ej] at c2
    exact c2
/-- A list of frames, made to be handed in. -/
def HdFr (w : World) (base : Nat) (a : Option Addr) (l : List FrameD) (hv : Value) : Prop :=
  (a = none ∧ l = [] ∧ hv = .slice none 0 0) ∨
  (a ≠ none ∧ ∃ g, hv = .slice (some ⟨g, 0, none⟩) l.length (l.length + 8) ∧ w.ownsRow base 107 3 (.slice (some ⟨g, 0, none⟩) (l.length + 8) (l.length + 8)) (l.length + 8) (frRow (markF l 8)))
theorem HdFr.below {w w' : World} {base : Nat} {a : Option Addr} {l : List FrameD} {hv : Value} (h : HdFr w base a l hv) (hb : Below w.heap.size w w') : HdFr w' base a l hv := by
  rcases h with h | ⟨h1, g, e, ho⟩
  · exact .inl h
  · exact .inr ⟨h1, g, e, owns_below ho hb⟩
theorem HdFr.read {w : World} {base : Nat} {a : Option Addr} {l : List FrameD} {hv : Value} (h : HdFr w base a l hv) : ∃ a' cap, hv = .slice a' l.length cap ∧ RdL 3 RdFrame w a' l.length cap l := by
  rcases h with ⟨_, rfl, rfl⟩ | ⟨_, g, rfl, ho⟩
  · exact ⟨none, 0, rfl, rfl, Nat.le_refl _, by unfold maxLen; omega, fun i x hi => by simp at hi⟩
  · have hml := markF_len l 8 (by omega)
    have hcm : l.length + 8 ≤ maxLen := by
      rcases ho.2 with ⟨h', _⟩ | ⟨g', cap', cur, h', _, _, _, hcm, _⟩
      · cases h'
      · cases h'; exact hcm
    refine ⟨_, _, rfl, rfl, by omega, hcm, fun i x hi => ⟨g, 0, frCells x, rfl, rfl, ?_, rfl⟩⟩
    obtain ⟨hlt, _⟩ := List.getElem?_eq_some_iff.1 hi
    have hx : (markF l 8)[i]? = some x := by rw [markF_old l i hlt]; exact hi
    obtain ⟨g0, g1, g2⟩ := frRow_get hx
    have c0 := ho.cellAt (i * 3) (by omega)
    have c1 := ho.cellAt (i * 3 + 1) (by omega)
    have c2 := ho.cellAt (i * 3 + 2) (by omega)
    rw [g0] at c0
    rw [g1] at c1
    rw [g2] at c2
    intro j v hj
    match j, hj with
    | 0, hj => cases hj; rw [Nat.zero_add, Nat.add_zero]; exact c0
    | 1, hj => cases hj; rw [Nat.zero_add]; exact c1
    | 2, hj => cases hj; rw [Nat.zero_add]; exact c2
theorem markFrame_any (w : World) :
    Calls Tryz.prog 105 #[] w fun e w' => e = .returned (.agg #[.string mkB, .string mkB, .int .i64 77]) ∧ Below w.heap.size w w' := by
  have HB := hid ((Below.refl w.heap.size w).alloc (Nat.le_refl _) (Obj.cells #[.string mkB, .string mkB, .int .i64 77] 107))
  unfold mkB at *
  go_enter Tryz.func105, Tryz.ntmps105
  go_wp2
  exact bodyPost_ret (v := .agg #[.string ⟨#[109, 97, 114, 107]⟩, .string ⟨#[109, 97, 114, 107]⟩, .int .i64 77]) (by simp [results, Tryz.results105, go_sem]) rfl ⟨rfl, HB.out⟩
theorem Tryz.infoFrame3 : (Tryz.prog.info? 107).map (·.size) = some 3 := by kernel_rfl
theorem frRow_one (l : List FrameD) : ∀ u ∈ frRow l, u.oneCell' = true := frCells_one l
set_option maxHeartbeats 2000000 in
set_option maxRecDepth 100000 in
theorem framesOf_any (a : Option Addr) (len cap : Nat) (l : List FrameD) (w : World) (hr : RdL 3 RdFrame w a len cap l) (hlen : len ≤ 3518437208780) :
    Calls Tryz.prog 57 #[.slice a len cap] w fun e w' => ∃ hv, e = .returned hv ∧ HdFr w' w.heap.size a l hv ∧ Below w.heap.size w w' := by
  have HL := hid hr.1
  obtain ⟨i0, hi, hz0, hz1, hz2⟩ := info_parts Tryz.infoFrame
  cases a with
  | none =>
    have hnil := fun W => Lib.run_eql_slice_nil (P := Tryz.prog) W 38 107 none len cap 0 0 Tryz.underlying38
    have hl0 : l = [] := by
      have : ¬ 0 < len := fun h => by
        obtain ⟨x, hx⟩ : ∃ x, l[0]? = some x := ⟨_, List.getElem?_eq_getElem (by rw [HL.out]; exact h)⟩
        obtain ⟨_, _, e, _⟩ := hr.frameAt 0 x hx
        cases e
      exact List.eq_nil_of_length_eq_zero (by rw [HL.out]; omega)
    have HL0 := hid hl0
    clear hl0
    go_enter Tryz.func57, Tryz.ntmps57
    go_wp2
    go_ret
    exact ⟨_, rfl, .inl ⟨rfl, HL0.out, rfl⟩, Below.refl _ _⟩
  | some ad =>
    have hnil := fun W => Lib.run_eql_slice_nil (P := Tryz.prog) W 38 107 (some ad) len cap 0 0 Tryz.underlying38
    obtain ⟨wm, hmk, hown, hgr⟩ := run_make_full (P := Tryz.prog) w w.heap.size 38 107 i0 (.agg #[.string ⟨#[]⟩, .string ⟨#[]⟩, .int .i64 0]) 3 Tryz.underlying38 hi hz0 hz1 .i64 .i64 (len + 8) (by rw [hz2]; omega) (by unfold maxLen; omega) (Nat.le_refl _)
    rw [made_frames] at hown
    have ec : ((len + 8 : Nat) : Int) = (len : Int) + 8 := by omega
    rw [ec] at hmk
    have hbm : Below w.heap.size w wm := (Below.refl _ _).grown hgr (Nat.le_refl _) (fun k hk => by cases hk)
    have hrm := hr.below hbm (R := RdFrame) (fun _ _ h => h)
    have HSRC := hid (fr_src hrm)
    have HO0 := hid hown
    clear hown hgr hrm
    go_enter Tryz.func57, Tryz.ntmps57
    go_wp2_with (refine wpList_copy_wide rfl (.tmp 11) (.tmp 12) 38 38 rfl 107 3 w.heap.size Tryz.underlying38 Tryz.infoFrame3 w.heap.size (len + 8) (len + 8) ad len cap rfl rfl (frRow (List.replicate (len + 8) zrFr)) HO0.out (frRow l) (by rw [frRow_len, HL.out]) (by omega) HSRC.out (frRow_one l) ?_)
    intro wc hownc hgrc
    have hbc : Below w.heap.size w wc := hbm.grown hgrc hbm.size (fun k hk => by cases hk; exact Nat.le_refl _)
    have hfl : frRow l ++ (frRow (List.replicate (len + 8) zrFr)).drop (frRow l).length = frRow (markF l 0) := by
      have e1 : List.replicate (len + 8) zrFr = List.replicate len zrFr ++ List.replicate 8 zrFr := by rw [List.replicate_append_replicate]
      rw [e1, frRow_app, List.drop_append_of_le_length (by rw [frRow_len, frRow_len, HL.out]; simp), List.drop_of_length_le (by rw [frRow_len, frRow_len, HL.out]; simp)]
      unfold markF
      rw [frRow_app]
      rfl
    rw [hfl] at hownc
    have HO := hid hownc
    clear hownc hgrc hfl hbm HO0 HSRC hmk hr
    go_wp2
    go_loopw [4] (fun i wr => ∃ k : Nat, i = .int .i64 ((len : Int) + k) ∧ k ≤ 8 ∧ wr.ownsRow w.heap.size 107 3 (.slice (some ⟨w.heap.size, 0, none⟩) (len + 8) (len + 8)) (len + 8) (frRow (markF l k)) ∧ Below w.heap.size w wr) (fun i _ => (len + 8) - (intOf i).toNat)
    case atStart => exact ⟨0, by go_num, by omega, HO.out, hbc⟩
    case round =>
      clear HO hbc
      obtain ⟨k, rfl, hk, hown, hbel⟩ := hrel
      by_cases hk8 : k < 8
      · have hlt : (len : Int) + k < (len : Int) + 8 := by omega
        have e0 : ((len : Int) + (k : Int)).toNat = len + k := by omega
        have HMF := hid (markFrame_any wr)
        have HOW := hid hown
        have HBE := hid hbel
        have hsz := hbel.size
        clear hown hbel
        go_wp2_with fail
        refine HMF.out.mono ?_
        rintro e w2 ⟨rfl, hb2⟩
        have hown := owns_below HOW.out hb2
        have hbel := HBE.out.trans (hb2.mono hsz)
        have hnow := markF_now l k hk8
        rw [HL.out] at hnow
        obtain ⟨g0, g1, g2⟩ := frRow_get hnow
        have hc0 := hown.cellAt ((len + k) * 3) (by omega)
        have hc1 := hown.cellAt ((len + k) * 3 + 1) (by omega)
        have hc2 := hown.cellAt ((len + k) * 3 + 2) (by omega)
        rw [g0] at hc0
        rw [g1] at hc1
        rw [g2] at hc2
        generalize zrFr.func = o0 at hc0
        generalize zrFr.file = o1 at hc1
        generalize zrFr.line = o2 at hc2
        have hf0 := hown.frozenAt ((len + k) * 3)
        have hf1 := hown.frozenAt ((len + k) * 3 + 1)
        have hf2 := hown.frozenAt ((len + k) * 3 + 2)
        have hs1 := hown.stored ((len + k) * 3) (.string mkB)
        have hs2 := hs1.1.stored ((len + k) * 3 + 1) (.string mkB)
        have hs3 := hs2.1.stored ((len + k) * 3 + 2) (.int .i64 77)
        have hms := frRow_set3 l k hk8
        rw [HL.out] at hms
        rw [hms] at hs3
        have HS := hid hs3.1
        have HBE2 := hid hbel
        clear hs1 hs2 hs3 hms g0 g1 g2 hnow hown hb2 hbel HOW HBE
        go_wp2
        go_roundw
        case rel => exact ⟨k + 1, by go_num, by omega, HS.out, ((HBE2.out.setCell (by exact Nat.le_refl _) _).setCell (by exact Nat.le_refl _) _).setCell (by exact Nat.le_refl _) _⟩
        case measure => simp [intOf]; omega
      · have hk' : k = 8 := by omega
        subst hk'
        have HO := hid hown
        clear hown
        go_wp2
        go_ret
        refine ⟨_, rfl, .inr ⟨by simp, w.heap.size, ?_, ?_⟩, hbel⟩
        · rw [HL.out]; rfl
        · have := HO.out
          rw [← HL.out] at this
          exact this
set_option maxHeartbeats 2000000 in
set_option maxRecDepth 100000 in
theorem framesStill_any (base : Nat) (a : Option Addr) (len cap : Nat) (l : List FrameD) (hv : Value) (w : World) (hh : HdFr w base a l hv) (hr : RdL 3 RdFrame w a len cap l) (hlen : len ≤ 3518437208780) :
    Calls Tryz.prog 59 #[hv, .slice a len cap] w fun e w' => e = .returned (.bool true) ∧ Below w.heap.size w w' := by
  have HL := hid hr.1
  obtain ⟨a', cap', rfl, hrh⟩ := hh.read
  have hnil := fun W => Lib.run_eql_slice_nil (P := Tryz.prog) W 38 107 a len cap 0 0 Tryz.underlying38
  have hsame := sameFrames_any a' l.length cap' l a cap w hrh (by rw [HL.out]; exact hr)
  rw [HL.out] at hsame ⊢
  have HS := hid hsame
  clear hsame hrh
  cases a with
  | none =>
    go_enter Tryz.func59, Tryz.ntmps59
    go_wp2_with (go_at_call 47; refine HS.out.mono ?_; rintro e w1 ⟨rfl, hb⟩)
    go_ret
    exact ⟨rfl, hb⟩
  | some ad =>
    rcases hh with ⟨h, _⟩ | ⟨_, g, e, ho⟩
    · cases h
    · rw [HL.out] at e ho
      cases e
      have hge : decide ((len : Int) + 8 < (len : Int) + 8) = false := by simp
      go_enter Tryz.func59, Tryz.ntmps59
      go_wp2_with (go_at_call 47; refine HS.out.mono ?_; rintro e w1 ⟨rfl, hb⟩)
      have ho1 := owns_below ho hb
      clear HS hnil ho hr
      go_loopw [7] (fun i wr => ∃ k : Nat, i = .int .i64 ((len : Int) + k) ∧ k ≤ 8 ∧ Below w1.heap.size w1 wr) (fun i _ => (len + 8) - (intOf i).toNat)
      case atStart => exact ⟨0, by go_num, by omega, Below.refl _ _⟩
      case round =>
        obtain ⟨k, rfl, hk, hbel⟩ := hrel
        have hown := owns_below ho1 hbel
        by_cases hk8 : k < 8
        · have hlt : (len : Int) + k < (len : Int) + 8 := by omega
          have e0 : ((len : Int) + (k : Int)).toNat = len + k := by omega
          have hat := markF_at l k hk8
          rw [HL.out] at hat
          obtain ⟨g0, g1, g2⟩ := frRow_get hat
          have hc0 := hown.cellAt ((len + k) * 3) (by omega)
          have hc1 := hown.cellAt ((len + k) * 3 + 1) (by omega)
          have hc2 := hown.cellAt ((len + k) * 3 + 2) (by omega)
          rw [g0] at hc0
          rw [g1] at hc1
          rw [g2] at hc2
          have hgl : g < wr.heap.size := World.block_lt_of_cell? wr _ hc0
          have HMF := hid (fun W => markFrame_any W)
          have HBE := hid hbel
          have hsz := hbel.size
          unfold mkFr at hc0 hc1 hc2
          dsimp only at hc0 hc1 hc2
          clear hat g0 g1 g2 hown hbel
          go_wp2
          go_region_with (go_at_call 105; refine (HMF.out _).mono ?_; rintro e w2 ⟨rfl, hb2⟩; have d0 : w2.cell? ⟨g, (len + k) * 3, none⟩ = some (.string mkB) := (hb2.cell (p := ⟨g, (len + k) * 3, none⟩) hgl).trans hc0; have d1 : w2.cell? ⟨g, (len + k) * 3 + 1, none⟩ = some (.string mkB) := (hb2.cell (p := ⟨g, (len + k) * 3 + 1, none⟩) hgl).trans hc1; have d2 : w2.cell? ⟨g, (len + k) * 3 + 2, none⟩ = some (.int .i64 77) := (hb2.cell (p := ⟨g, (len + k) * 3 + 2, none⟩) hgl).trans hc2)
          all_goals
            have HBE2 := hid (HBE.out.trans (((Below.refl _ _).drew.trans (hb2.mono (by simp))).mono hsz))
            go_wp2
            go_roundw
            case rel => exact ⟨k + 1, by go_num, by omega, HBE2.out⟩
            case measure => simp [intOf]; omega
        · have hk' : k = 8 := by omega
          subst hk'
          clear hown ho1
          go_wp2
          go_ret
          exact ⟨rfl, hb.trans (hbel.mono hb.size)⟩
end Go.Proofs.YtffnfjkjlmlonaaGreatDoor
namespace Go.Proofs.YtffnfjkjlmlonaaGreatDoor
open Go.RowKit
set_option maxHeartbeats 1000000 in
set_option maxRecDepth 100000 in
theorem rdigits_any (n : Int) (w : World) (h0 : 0 ≤ n) (h1 : n < 34359738368) :
    Calls Tryz.prog 77 #[.int .i64 n] w fun e w' => ∃ v, e = .returned v ∧ w'.ownsRow w.heap.size 5 1 v (numB n).length (u8s (numB n)) ∧ Below w.heap.size w w' := by
  obtain ⟨i0, hi, hz0, hz1, hz2⟩ := info_parts Tryz.infoByte
  go_enter Tryz.func77, Tryz.ntmps77
  go_wp2
  go_loopw [0, 3] (fun m l wr => ∃ (pre : List Int) (f : Nat) (x : Int), m = .int .i64 x ∧ 0 ≤ x ∧ x < 34359738368 ∧ numB n = pre ++ numF f x ∧ x < lim f ∧ pre.length + f = 4 ∧ wr.ownsRow w.heap.size 5 1 l pre.length (u8s pre) ∧ Below w.heap.size w wr) (fun m _ _ => (intOf m).toNat)
  case atStart => exact ⟨[], 4, n, rfl, h0, h1, rfl, by simp [lim]; omega, rfl, World.ownsRow_nil _ _ _ _, Below.refl _ _⟩
  case round =>
    obtain ⟨pre, f, x, rfl, hx0, hx1, hN, hlim, hpl, hown, hbel⟩ := hrel
    have HN := hid hN
    clear hN h0 h1
    have hsz := hbel.size
    by_cases hx : x < 128
    · have HF : Hid (numB n = pre ++ [x]) := by show _ = _; rw [HN.out, numF_small f x hx]
      clear HN hlim
      go_wp2_with (at_builtin; refine wpList_append_own _ rfl (.tmp 15) (.tmp 18) 36 rfl w.heap.size 5 i0 (.int .u8 0) 1 1 Tryz.underlying36 hi hz0 hz1 hz2 rfl (by decide) _ _ _ rfl (hown.alloc _) ⟨wr.heap.size, 0, none⟩ 1 1 [.int .u8 x] rfl rfl (cell_one_new _ _ _) (fun u hu => by rw [List.mem_singleton.1 hu]; rfl) (by unfold maxLen; omega) (by omega) (by simp; omega) ?_)
      intro v' w2 hown' hgrow _
      have hb2 : Below w.heap.size w w2 := (hbel.alloc hsz _).grown hgrow (by simp; omega) (fun k hk => (hown.lt k hk).1)
      have HO := hid hown'
      clear hown' hgrow hown hbel
      go_wp2
      go_ret
      refine ⟨_, rfl, ?_, hb2⟩
      rw [HF.out, u8s_snoc]
      simpa using HO.out
    · have hf : f ≠ 0 := by rintro rfl; simp [lim] at hlim; omega
      obtain ⟨f, rfl⟩ : ∃ f', f = f' + 1 := ⟨f - 1, by omega⟩
      have hl2 := lim_step f x hlim
      have HF : Hid (numB n = (pre ++ [x % 128 + 128]) ++ numF f (x / 128)) := by show _ = _; rw [HN.out, numF_succ, if_neg hx]; simp
      have HL := hid hl2
      clear HN hlim hl2
      have hy1 : 128 ≤ x % 128 + 128 := by omega
      have hy2 : x % 128 + 128 ≤ 255 := by omega
      go_wp2_with (at_builtin; refine wpList_append_own _ rfl (.tmp 6) (.tmp 11) 36 rfl w.heap.size 5 i0 (.int .u8 0) 1 1 Tryz.underlying36 hi hz0 hz1 hz2 rfl (by decide) _ _ _ rfl (hown.alloc _) ⟨wr.heap.size, 0, none⟩ 1 1 [.int .u8 (x % 128 + 128)] rfl rfl (cell_one_new _ _ _) (fun u hu => by rw [List.mem_singleton.1 hu]; rfl) (by unfold maxLen; omega) (by omega) (by simp; omega) ?_)
      intro v' w2 hown' hgrow _
      have hb2 : Below w.heap.size w w2 := (hbel.alloc hsz _).grown hgrow (by simp; omega) (fun k hk => (hown.lt k hk).1)
      have HO := hid hown'
      clear hown' hgrow hown hbel
      go_wp2
      go_roundw
      case rel =>
        have HO2 := HO.out
        exact ⟨pre ++ [x % 128 + 128], f, x / 128, rfl, by omega, by omega, HF.out, HL.out, by simp; omega, by rw [u8s_snoc]; simpa using HO2, hb2⟩
      case measure => simp [intOf]; omega
/-- A list of bytes is the bytes of its number just where it is canonical. -/
theorem canon_num (x : List Int) (b : Int) (hl : x.length ≤ 4) (hb0 : 0 ≤ b) (hb : b < 128) (hx : ∀ y ∈ x, 128 ≤ y ∧ y ≤ 255) :
    canonB (x ++ [b]) = true ↔ valB (x ++ [b]) ≤ 2147483647 ∧ numB (valB (x ++ [b])) = x ++ [b] := by
  constructor
  · intro h
    have hlast : (x ++ [b]).getD ((x ++ [b]).length - 1) 0 = b := by simp [List.getD]
    unfold canonB at h
    rw [hlast] at h
    simp at h
    refine ⟨?_, (numF_of 4 x b hl hb0 hb hx (fun hne hbz => ?_)).1⟩
    · have ht := valB_top x b hb0 hb
      have hcase : ∀ n : Nat, n ≤ 4 → x.length = n → valB (x ++ [b]) ≤ 2147483647 := by
        intro n hn hxn
        rw [hxn] at ht
        match n, hn, hxn with
        | 0, _, _ => simp at ht; omega
        | 1, _, _ => simp at ht; omega
        | 2, _, _ => simp at ht; omega
        | 3, _, _ => simp at ht; omega
        | 4, _, hxn =>
          have h4 := h.2
          simp at ht
          rcases h4 with h4 | h4 <;> omega
      exact hcase x.length hl rfl
    · rcases h.1 with h3 | h3
      · exact hne h3
      · exact h3 hbz
  · rintro ⟨h1, h2⟩
    rw [← h2]
    exact numB_canon _ (valB_range _).1 h1
theorem str_eq (xs ys : List Int) (hx : ∀ x ∈ xs, 0 ≤ x ∧ x ≤ 255) (hy : ∀ x ∈ ys, 0 ≤ x ∧ x ≤ 255) : ((strOfNums xs).toList == (strOfNums ys).toList) = decide (xs = ys) := by
  by_cases h : xs = ys
  · subst h; simp
  · have : ¬ (strOfNums xs).toList = (strOfNums ys).toList := by
      intro e
      apply h
      have e2 : byteL (strOfNums xs) = byteL (strOfNums ys) := by
        unfold byteL
        have e3 : (strOfNums xs).data.toList = (strOfNums ys).data.toList := by
          have f : ∀ s : ByteArray, s.toList = s.data.toList := fun s => ByteArray.toList_eq s
          rw [← f, ← f]; exact e
        rw [e3]
      rwa [byteL_str xs hx, byteL_str ys hy] at e2
    rw [decide_eq_false h]
    simpa using this
end Go.Proofs.YtffnfjkjlmlonaaGreatDoor
