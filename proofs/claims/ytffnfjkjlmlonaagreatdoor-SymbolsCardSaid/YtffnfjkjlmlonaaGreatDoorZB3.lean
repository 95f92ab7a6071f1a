/- Contracts of the statement's own functions intsOf, sameInts and intsStill: a list of numbers that is handed in with eight marks behind it, and the look whether it stands so still. Contracts of the statement's own functions spansOf, sameSpans and spansStill, and of sameBytes. Contracts of the developers' word.mayStand, word.Is: the plain functions isLet and wordB; nothing that was there is written. The contract of table.Bytes: it gives what the plain function of this text gives, in a row of the call's own; nothing that was there is written. Plain mathematics of numbers and tables: what is written is read back, a part that is cut off ends too early, a table of values tells each value; no program is spoken of. -/
import Derived.Test.YtffnfjkjlmlonaaGreatDoorZB2
import Derived.Lib.SliceRun
import Derived.Deep.QuietTactic
import Derived.BigQuiet
namespace Go.Proofs.YtffnfjkjlmlonaaGreatDoor
open Go.RowKit
theorem Tryz.infoInt : (Tryz.prog.info? 3).map (fun i => (i.zero, i.size, i.bytes)) = some (some (.int .i64 0), 1, 8) := by kernel_rfl
theorem Tryz.infoInt1 : (Tryz.prog.info? 3).map (·.size) = some 1 := by kernel_rfl
def ints (l : List Int) : List Value := l.map (Value.int .i64)
theorem ints_len (l : List Int) : (ints l).length = l.length := by simp [ints]
theorem ints_get (l : List Int) (i : Nat) (h : i < l.length) : (ints l)[i]? = some (.int .i64 (l.getD i 0)) := by simp [ints, List.getD, h]
theorem ints_set (l : List Int) (i : Nat) (x : Int) : (ints l).set i (.int .i64 x) = ints (l.set i x) := by simp [ints]
theorem ints_one (l : List Int) : ∀ u ∈ ints l, u.oneCell' = true := by
  intro u hu
  obtain ⟨x, _, rfl⟩ := List.mem_map.1 hu
  rfl
/-- The numbers of a list that is handed in, behind k of its eight marks. -/
def markI (l : List Int) (k : Nat) : List Int := l ++ (List.replicate k 77 ++ List.replicate (8 - k) 0)
theorem markI_len (l : List Int) (k : Nat) (h : k ≤ 8) : (markI l k).length = l.length + 8 := by simp [markI]; omega
theorem markI_set (l : List Int) (k : Nat) (h : k < 8) : (markI l k).set (l.length + k) 77 = markI l (k + 1) := by
  unfold markI
  rw [List.set_append_right _ _ (by omega), Nat.add_sub_cancel_left, List.set_append_right _ _ (by simp), List.length_replicate, Nat.sub_self]
  obtain ⟨m, hm⟩ : ∃ m, 8 - k = m + 1 := ⟨8 - k - 1, by omega⟩
  have hm2 : 8 - (k + 1) = m := by omega
  rw [hm, hm2, List.replicate_succ, List.set_cons_zero, List.replicate_succ']
  simp
theorem markI_at (l : List Int) (k : Nat) (h : k < 8) : (markI l 8).getD (l.length + k) 0 = 77 := by
  unfold markI
  simp only [List.getD]
  rw [List.getElem?_append_right (by omega), Nat.add_sub_cancel_left, List.getElem?_append_left (by simpa using h), List.getElem?_replicate_of_lt h]
  rfl
theorem markI_old (l : List Int) (i : Nat) (h : i < l.length) : (markI l 8).getD i 0 = l.getD i 0 := by
  unfold markI
  simp only [List.getD]
  rw [List.getElem?_append_left h]
theorem made_ints (n : Nat) : (madeCells (Value.int .i64 0).cells (n * 1)).toList = ints (List.replicate n 0) := by
  rw [Nat.mul_one, show (Value.int .i64 0).cells = #[Value.int .i64 0] from rfl, toList_madeCells_one]
  simp [ints]
theorem Rd.src {w : World} {b off len cap : Nat} {l : List Int} (h : Rd .i64 w (some ⟨b, off, none⟩) len cap l) : ∀ j v, (ints l)[j]? = some v → w.cell? ((⟨b, off, none⟩ : Addr).add j) = some v := by
  intro j v hj
  have hlt : j < (ints l).length := by
    rcases Nat.lt_or_ge j (ints l).length with h | h
    · exact h
    · rw [List.getElem?_eq_none h] at hj; cases hj
  rw [ints_len] at hlt
  rw [ints_get l j hlt] at hj
  cases hj
  have e1 : (⟨b, off, none⟩ : Addr).add j = ⟨b, off + j, none⟩ := by unfold Addr.add; split <;> simp_all
  rw [e1]
  obtain ⟨_, _, e, hc⟩ := h.cell j (by rw [← h.hlen]; exact hlt)
  cases e
  exact hc
/-- A list of numbers, made to be handed in. -/
def HdI (w : World) (base : Nat) (a : Option Addr) (l : List Int) (hv : Value) : Prop :=
  (a = none ∧ l = [] ∧ hv = .slice none 0 0) ∨
  (a ≠ none ∧ ∃ g, hv = .slice (some ⟨g, 0, none⟩) l.length (l.length + 8) ∧ w.ownsRow base 3 1 (.slice (some ⟨g, 0, none⟩) (l.length + 8) (l.length + 8)) (l.length + 8) (ints (markI l 8)))
theorem HdI.below {w w' : World} {base : Nat} {a : Option Addr} {l : List Int} {hv : Value} (h : HdI w base a l hv) (hb : Below w.heap.size w w') : HdI w' base a l hv := by
  rcases h with h | ⟨h1, g, e, ho⟩
  · exact .inl h
  · exact .inr ⟨h1, g, e, owns_below ho hb⟩
/-- What is handed in reads as the list that it was made of. -/
theorem HdI.read {w : World} {base : Nat} {a : Option Addr} {l : List Int} {hv : Value} (h : HdI w base a l hv) : ∃ a' cap, hv = .slice a' l.length cap ∧ Rd .i64 w a' l.length cap l := by
  rcases h with ⟨_, rfl, rfl⟩ | ⟨_, g, rfl, ho⟩
  · exact ⟨none, 0, rfl, rfl, Nat.le_refl _, by unfold maxLen; omega, fun i hi => by simp at hi⟩
  · have hml := markI_len l 8 (by omega)
    have hcm : l.length + 8 ≤ maxLen := by
      rcases ho.2 with ⟨h', _⟩ | ⟨g', cap', cur, h', _, _, _, hcm, _⟩
      · cases h'
      · cases h'; exact hcm
    refine ⟨_, _, rfl, rfl, by omega, hcm, fun i hi => ⟨g, 0, rfl, ?_⟩⟩
    have := ho.cellAt i (by omega)
    rw [ints_get _ i (by omega), markI_old l i hi] at this
    rw [Nat.zero_add]
    exact this
set_option maxHeartbeats 1000000 in
set_option maxRecDepth 100000 in
theorem intsOf_any (a : Option Addr) (len cap : Nat) (l : List Int) (w : World) (hr : Rd .i64 w a len cap l) (hlen : len ≤ 17592186044416) :
    Calls Tryz.prog 44 #[.slice a len cap] w fun e w' => ∃ hv, e = .returned hv ∧ HdI w' w.heap.size a l hv ∧ Below w.heap.size w w' := by
  have HL := hid hr.hlen
  obtain ⟨i0, hi, hz0, hz1, hz2⟩ := info_parts Tryz.infoInt
  cases a with
  | none =>
    have hnil := fun W => Lib.run_eql_slice_nil (P := Tryz.prog) W 35 3 none len cap 0 0 Tryz.underlying35
    have hl0 : l = [] := by
      have : ¬ 0 < len := fun h => by obtain ⟨_, _, e, _⟩ := hr.cell 0 h; cases e
      exact List.eq_nil_of_length_eq_zero (by rw [HL.out]; omega)
    have HL0 := hid hl0
    clear hl0
    go_enter Tryz.func44, Tryz.ntmps44
    go_wp2
    go_ret
    exact ⟨_, rfl, .inl ⟨rfl, HL0.out, rfl⟩, Below.refl _ _⟩
  | some ad =>
    have hnil := fun W => Lib.run_eql_slice_nil (P := Tryz.prog) W 35 3 (some ad) len cap 0 0 Tryz.underlying35
    obtain ⟨wm, hmk, hown, hgr⟩ := run_make_full (P := Tryz.prog) w w.heap.size 35 3 i0 (.int .i64 0) 1 Tryz.underlying35 hi hz0 hz1 .i64 .i64 (len + 8) (by rw [hz2]; omega) (by unfold maxLen; omega) (Nat.le_refl _)
    rw [made_ints] at hown
    have ec : ((len + 8 : Nat) : Int) = (len : Int) + 8 := by omega
    rw [ec] at hmk
    have hbm : Below w.heap.size w wm := (Below.refl _ _).grown hgr (Nat.le_refl _) (fun k hk => by cases hk)
    have hrm := hr.below hbm (Nat.le_refl _)
    have hsrc : ∀ j v, (ints l)[j]? = some v → wm.cell? (ad.add j) = some v := by
      intro j v hj
      have hlt : 0 < len := by
        rcases Nat.lt_or_ge j (ints l).length with h | h
        · rw [ints_len, HL.out] at h; omega
        · rw [List.getElem?_eq_none h] at hj; cases hj
      obtain ⟨_, _, e, _⟩ := hrm.cell 0 hlt
      cases e
      exact hrm.src j v hj
    have HSRC := hid hsrc
    have HO0 := hid hown
    clear hown hgr hrm hsrc
    go_enter Tryz.func44, Tryz.ntmps44
    go_wp2_with (refine wpList_copy_wide rfl (.tmp 11) (.tmp 12) 35 35 rfl 3 1 w.heap.size Tryz.underlying35 Tryz.infoInt1 w.heap.size (len + 8) (len + 8) ad len cap rfl rfl (ints (List.replicate (len + 8) 0)) HO0.out (ints l) (by rw [ints_len, HL.out, Nat.mul_one]) (by omega) HSRC.out (ints_one l) ?_)
    intro wc hownc hgrc
    have hbc : Below w.heap.size w wc := hbm.grown hgrc hbm.size (fun k hk => by cases hk; exact Nat.le_refl _)
    have hfl : ints l ++ (ints (List.replicate (len + 8) 0)).drop (ints l).length = ints (markI l 0) := by
      have e1 : List.replicate (len + 8) (0 : Int) = List.replicate len 0 ++ List.replicate 8 0 := by rw [List.replicate_append_replicate]
      rw [e1]
      simp only [ints, markI, List.map_append, List.length_map]
      rw [List.drop_append_of_le_length (by simp [HL.out]), List.drop_of_length_le (by simp [HL.out])]
      rfl
    rw [hfl] at hownc
    have HO := hid hownc
    clear hownc hgrc hfl hbm HO0 HSRC hmk hr
    go_wp2
    go_loopw [4] (fun i wr => ∃ k : Nat, i = .int .i64 ((len : Int) + k) ∧ k ≤ 8 ∧ wr.ownsRow w.heap.size 3 1 (.slice (some ⟨w.heap.size, 0, none⟩) (len + 8) (len + 8)) (len + 8) (ints (markI l k)) ∧ Below w.heap.size w wr) (fun i _ => (len + 8) - (intOf i).toNat)
    case atStart => exact ⟨0, by go_num, by omega, HO.out, hbc⟩
    case round =>
      clear HO hbc
      obtain ⟨k, rfl, hk, hown, hbel⟩ := hrel
      by_cases hk8 : k < 8
      · have hlt : (len : Int) + k < (len : Int) + 8 := by omega
        have e0 : ((len : Int) + (k : Int)).toNat = len + k := by omega
        have hml := markI_len l k (by omega)
        rw [HL.out] at hml
        have hc1 := hown.cellAt (len + k) (by omega)
        rw [ints_get _ _ (by rw [hml]; omega)] at hc1
        generalize (markI l k).getD (len + k) 0 = o1 at hc1
        have hf1 := hown.frozenAt (len + k)
        have hs1 := hown.stored (len + k) (.int .i64 77)
        rw [ints_set] at hs1
        have hms := markI_set l k hk8
        rw [HL.out] at hms
        rw [hms] at hs1
        have HS := hid hs1.1
        clear hs1 hms hml hown
        go_wp2
        go_roundw
        case rel => exact ⟨k + 1, by go_num, by omega, HS.out, hbel.setCell (by exact Nat.le_refl _) _⟩
        case measure => simp [intOf]; omega
      · have hk' : k = 8 := by omega
        subst hk'
        have HO := hid hown
        clear hown
        go_wp2
        go_ret
        refine ⟨_, rfl, .inr ⟨by simp, w.heap.size, ?_, ?_⟩, hbel⟩
        · rw [HL.out]; rfl
        · have := HO.out
          rw [← HL.out] at this
          exact this
set_option maxHeartbeats 1000000 in
set_option maxRecDepth 100000 in
theorem sameInts_any (a : Option Addr) (len cap : Nat) (l : List Int) (a2 : Option Addr) (cap2 : Nat) (w : World) (hr : Rd .i64 w a len cap l) (hr2 : Rd .i64 w a2 len cap2 l) :
    Calls Tryz.prog 20 #[.slice a len cap, .slice a2 len cap2] w fun e w' => e = .returned (.bool true) ∧ Below w.heap.size w w' := by
  have hmax := hr.hmax
  have hcap := hr.hcap
  unfold maxLen at hmax
  have hmax2 := hr2.hmax
  have hcap2 := hr2.hcap
  unfold maxLen at hmax2
  go_enter Tryz.func20, Tryz.ntmps20
  go_wp2
  go_loopw [5] (fun i wr => ∃ j : Nat, i = .int .i64 j ∧ j ≤ len ∧ Below w.heap.size w wr) (fun i _ => len - (intOf i).toNat)
  case atStart => exact ⟨0, rfl, by omega, Below.refl _ _⟩
  case round =>
    obtain ⟨j, rfl, hj, hb2⟩ := hrel
    by_cases hlt2 : j < len
    · obtain ⟨xb, xoff, rfl, hcx⟩ := (hr.below hb2 (Nat.le_refl _)).open (by omega)
      obtain ⟨lb, loff, rfl, hcy⟩ := (hr2.below hb2 (Nat.le_refl _)).open (by omega)
      have hx1 := hcx j hlt2
      have hy1 := hcy j hlt2
      generalize l.getD j 0 = p1 at *
      clear hcx hcy hr hr2
      go_wp2
      go_quiet (fail)
      go_wp2
      go_roundw
      case rel => exact ⟨j + 1, by go_num, by omega, below_drawn hb2 nq⟩
      case measure => simp [intOf]; omega
    · go_wp2
      go_ret
      exact ⟨rfl, hb2⟩
set_option maxHeartbeats 1000000 in
set_option maxRecDepth 100000 in
theorem intsStill_any (base : Nat) (a : Option Addr) (len cap : Nat) (l : List Int) (hv : Value) (w : World) (hh : HdI w base a l hv) (hr : Rd .i64 w a len cap l) (hlen : len ≤ 17592186044416) :
    Calls Tryz.prog 46 #[hv, .slice a len cap] w fun e w' => e = .returned (.bool true) ∧ Below w.heap.size w w' := by
  have HL := hid hr.hlen
  obtain ⟨a', cap', rfl, hrh⟩ := hh.read
  have hnil := fun W => Lib.run_eql_slice_nil (P := Tryz.prog) W 35 3 a len cap 0 0 Tryz.underlying35
  have hsame := sameInts_any a' l.length cap' l a cap w hrh (by rw [HL.out]; exact hr)
  rw [HL.out] at hsame ⊢
  have HS := hid hsame
  clear hsame hrh
  cases a with
  | none =>
    go_enter Tryz.func46, Tryz.ntmps46
    go_wp2_with (go_at_call 20; refine HS.out.mono ?_; rintro e w1 ⟨rfl, hb⟩)
    go_ret
    exact ⟨rfl, hb⟩
  | some ad =>
    rcases hh with ⟨h, _⟩ | ⟨_, g, e, ho⟩
    · cases h
    · rw [HL.out] at e ho
      cases e
      have hge : decide ((len : Int) + 8 < (len : Int) + 8) = false := by simp
      go_enter Tryz.func46, Tryz.ntmps46
      go_wp2_with (go_at_call 20; refine HS.out.mono ?_; rintro e w1 ⟨rfl, hb⟩)
      have ho1 := owns_below ho hb
      clear HS hnil ho hr
      go_loopw [7] (fun i wr => ∃ k : Nat, i = .int .i64 ((len : Int) + k) ∧ k ≤ 8 ∧ Below w1.heap.size w1 wr) (fun i _ => (len + 8) - (intOf i).toNat)
      case atStart => exact ⟨0, by go_num, by omega, Below.refl _ _⟩
      case round =>
        obtain ⟨k, rfl, hk, hbel⟩ := hrel
        have hown := owns_below ho1 hbel
        by_cases hk8 : k < 8
        · have hlt : (len : Int) + k < (len : Int) + 8 := by omega
          have e0 : ((len : Int) + (k : Int)).toNat = len + k := by omega
          have hml := markI_len l 8 (by omega)
          have hm77 := markI_at l k hk8
          rw [HL.out] at hml hm77
          have hc1 := hown.cellAt (len + k) (by omega)
          rw [ints_get _ _ (by rw [hml]; omega), hm77] at hc1
          clear hm77 hml hown ho1
          go_wp2
          go_roundw
          case rel => exact ⟨k + 1, by go_num, by omega, hbel⟩
          case measure => simp [intOf]; omega
        · have hk' : k = 8 := by omega
          subst hk'
          clear hown ho1
          go_wp2
          go_ret
          exact ⟨rfl, hb.trans (hbel.mono hb.size)⟩
end Go.Proofs.YtffnfjkjlmlonaaGreatDoor
namespace Go.Proofs.YtffnfjkjlmlonaaGreatDoor
open Go.RowKit
/-- The pairs of a list that is handed in, behind k of its eight marks. -/
def marked (l : List (Int × Int)) (k : Nat) : List (Int × Int) := l ++ (List.replicate k (77, 77) ++ List.replicate (8 - k) (0, 0))
end Go.Proofs.YtffnfjkjlmlonaaGreatDoor
namespace Go.Proofs.YtffnfjkjlmlonaaGreatDoor
open Go.RowKit
theorem isLet_byte : ∀ n : Nat, n < 256 → isLet (n : Int) = (decide (97 ≤ n ∧ n ≤ 122) || (decide (48 ≤ n ∧ n ≤ 57) || (n == 46 || n == 47))) := by decide +kernel
set_option maxHeartbeats 1000000 in
set_option maxRecDepth 100000 in
theorem mayStand_any (n : Nat) (hn : n < 256) (w : World) :
    Calls Tryz.prog 216 #[.int .u8 (n : Int)] w fun r w' => r = .returned (.bool (isLet n)) ∧ w' = w := by
  have H := hid (isLet_byte n hn)
  obtain ⟨c, hc⟩ : ∃ c : Int, c = (n : Int) := ⟨_, rfl⟩
  by_cases h1 : 97 ≤ n
  · have g1 : (97 : Int) ≤ c := by omega
    by_cases h2 : n ≤ 122
    · have g2 : c ≤ 122 := by omega
      have HF : Hid (isLet c = true) := by show _ = _; rw [hc, H.out]; simp [h1, h2]
      rw [← hc]
      clear hc H
      go_enter Tryz.func216, Tryz.ntmps216
      go_wp2
      go_ret
      exact ⟨ret_bool HF.out.symm, rfl⟩
    · have g2 : decide (c ≤ 122) = false := by simp; omega
      have g3 : (48 : Int) ≤ c := by omega
      have g4 : decide (c ≤ 57) = false := by simp; omega
      have g5 : (c == 46) = false := by simp; omega
      have g6 : (c == 47) = false := by simp; omega
      have HF : Hid (isLet c = false) := by show _ = _; rw [hc, H.out]; simp; omega
      rw [← hc]
      clear hc H
      go_enter Tryz.func216, Tryz.ntmps216
      go_wp2
      go_ret
      exact ⟨ret_bool HF.out.symm, rfl⟩
  · have g1 : decide ((97 : Int) ≤ c) = false := by simp; omega
    by_cases h3 : 48 ≤ n
    · have g3 : (48 : Int) ≤ c := by omega
      have g5 : (c == 46) = false := by simp; omega
      have g6 : (c == 47) = false := by simp; omega
      by_cases h4 : n ≤ 57
      · have g4 : c ≤ 57 := by omega
        have HF : Hid (isLet c = true) := by show _ = _; rw [hc, H.out]; simp [h3, h4]
        rw [← hc]
        clear hc H
        go_enter Tryz.func216, Tryz.ntmps216
        go_wp2
        go_ret
        exact ⟨ret_bool HF.out.symm, rfl⟩
      · have g4 : decide (c ≤ 57) = false := by simp; omega
        have HF : Hid (isLet c = false) := by show _ = _; rw [hc, H.out]; simp; omega
        rw [← hc]
        clear hc H
        go_enter Tryz.func216, Tryz.ntmps216
        go_wp2
        go_ret
        exact ⟨ret_bool HF.out.symm, rfl⟩
    · have g3 : decide ((48 : Int) ≤ c) = false := by simp; omega
      by_cases h5 : n = 46
      · have g5 : (c == 46) = true := by simp; omega
        have HF : Hid (isLet c = true) := by show _ = _; rw [hc, H.out]; simp [h5]
        rw [← hc]
        clear hc H
        go_enter Tryz.func216, Tryz.ntmps216
        go_wp2
        go_ret
        exact ⟨ret_bool HF.out.symm, rfl⟩
      · have g5 : (c == 46) = false := by simp; omega
        have HF : Hid (isLet c = (c == 47)) := by
          show _ = _
          rw [hc, H.out]
          by_cases h : n = 47
          · subst h; decide
          · have : ((n : Int) == 47) = false := by simp; omega
            rw [this]; simp; omega
        rw [← hc]
        clear hc H
        go_enter Tryz.func216, Tryz.ntmps216
        go_wp2
        go_ret
        exact ⟨ret_bool HF.out.symm, rfl⟩
set_option maxHeartbeats 1000000 in
set_option maxRecDepth 100000 in
theorem isWord_any (s : ByteArray) (w : World) (hs : s.size ≤ maxLen) :
    Calls Tryz.prog 186 #[.string s] w fun e w' => e = .returned (.bool (wordB s)) ∧ Below w.heap.size w w' := by
  unfold maxLen at hs
  by_cases h1 : s.size < 1
  · have g1 : (s.size : Int) < 1 := by omega
    have HF : Hid (wordB s = false) := by show _ = _; unfold wordB; rw [decide_eq_false (by omega)]; rfl
    go_enter Tryz.func186, Tryz.ntmps186
    go_wp2
    go_ret
    exact ⟨ret_bool HF.out.symm, Below.refl _ _⟩
  · have g1 : decide ((s.size : Int) < 1) = false := by simp; omega
    by_cases h2 : 20 < s.size
    · have g2 : (20 : Int) < (s.size : Int) := by omega
      have HF : Hid (wordB s = false) := by show _ = _; unfold wordB; rw [decide_eq_false (by omega)]; rfl
      go_enter Tryz.func186, Tryz.ntmps186
      go_wp2
      go_ret
      exact ⟨ret_bool HF.out.symm, Below.refl _ _⟩
    · have g2 : decide ((20 : Int) < (s.size : Int)) = false := by simp; omega
      have HW : Hid (wordB s = (byteL s).all isLet) := by show _ = _; unfold wordB; rw [decide_eq_true (by omega)]; rfl
      go_enter Tryz.func186, Tryz.ntmps186
      go_wp2
      go_loopw [3] (fun i wr => ∃ k : Nat, i = .int .i64 k ∧ k ≤ s.size ∧ ((byteL s).take k).all isLet = true ∧ Below w.heap.size w wr) (fun i _ => s.size - (intOf i).toNat)
      case atStart => exact ⟨0, rfl, by omega, rfl, Below.refl _ _⟩
      case round =>
        obtain ⟨k, rfl, hk, hall, hbel⟩ := hrel
        have HA := hid hall
        clear hall
        by_cases hlt : k < s.size
        · have hlt' : (k : Int) < (s.size : Int) := by omega
          have hstep : ((byteL s).take (k + 1)).all isLet = isLet (s[k].toNat : Int) := by
            rw [byteL_take s k hlt, List.all_append, HA.out]; simp
          have HM := hid (fun W => mayStand_any s[k].toNat s[k].toNat_lt W)
          obtain ⟨t, ht⟩ : ∃ t, t = isLet (s[k].toNat : Int) := ⟨_, rfl⟩
          rw [← ht] at hstep HM
          have HS := hid hstep
          clear ht hstep
          cases t with
          | true =>
            go_wp2_with fail
            refine (HM.out _).mono ?_
            rintro e w' ⟨rfl, rfl⟩
            go_wp2
            go_roundw
            case rel => exact ⟨k + 1, by go_num, by omega, HS.out, hbel⟩
            case measure => simp [intOf]; omega
          | false =>
            have HF : Hid (wordB s = false) := by
              show _ = _
              rw [HW.out]
              have h1 : byteL s = (byteL s).take (k + 1) ++ (byteL s).drop (k + 1) := (List.take_append_drop _ _).symm
              rw [h1, List.all_append, HS.out]; rfl
            go_wp2_with fail
            refine (HM.out _).mono ?_
            rintro e w' ⟨rfl, rfl⟩
            go_wp2
            go_ret
            exact ⟨ret_bool HF.out.symm, hbel⟩
        · have hks : k = s.size := by omega
          have HF : Hid (wordB s = true) := by show _ = _; have := HA.out; rw [hks, List.take_of_length_le (by rw [byteL_len]; omega)] at this; rw [HW.out]; exact this
          have hge : decide ((k : Int) < (s.size : Int)) = false := by simp; omega
          clear hks
          go_wp2
          go_ret
          exact ⟨ret_bool HF.out.symm, hbel⟩
end Go.Proofs.YtffnfjkjlmlonaaGreatDoor
namespace Go.Proofs.YtffnfjkjlmlonaaGreatDoor
open Go.RowKit
theorem owns_some {w : World} {base : Nat} {e : TypeId} {size : Nat} {v : Value} {n : Nat} {xs : List Value} (h : w.ownsRow base e size v n xs) (hn : 0 < n) :
    ∃ g cap, v = .slice (some ⟨g, 0, none⟩) n cap ∧ base ≤ g ∧ g < w.heap.size ∧ ∀ j u, xs[j]? = some u → w.cell? ((⟨g, 0, none⟩ : Addr).add j) = some u := by
  have hc := fun g hg => h.cells (g := g) hg
  rcases h.2 with ⟨_, h0⟩ | ⟨g, cap, cur, rfl, hg, hh, _⟩
  · omega
  · exact ⟨g, cap, rfl, hg, (Array.getElem?_eq_some_iff.1 hh).1, hc g rfl⟩
def putS : List (Int × Int) → Int → List Int
  | [], _ => [0]
  | p :: r, before => numB (zig (p.1 - before)) ++ (numB p.2 ++ putS r p.1)
/-- A row of the call's own is not a block of another element type. -/
theorem owns_other {w : World} {base : Nat} {e e' : TypeId} {size : Nat} {v : Value} {n : Nat} {xs : List Value} (h : w.ownsRow base e size v n xs) {g : Nat} {cs : Array Value} {fz : Nat × Nat} (hg : w.heap[g]? = some (.cells cs e' fz)) (hne : e ≠ e') : some g ≠ v.ownBlock := by
  rcases h.2 with ⟨rfl, _⟩ | ⟨g', cap, cur, rfl, _, hh, _⟩
  · simp [Value.ownBlock]
  · intro hb
    simp [Value.ownBlock] at hb
    subst hb
    rw [hg] at hh
    injection hh with hh
    injection hh with _ hh _
    exact hne hh.symm
theorem owns_low7 {w : World} {base base' : Nat} {e : TypeId} {size : Nat} {v : Value} {n : Nat} {xs : List Value} (h : w.ownsRow base e size v n xs) (hb : base' ≤ base) : w.ownsRow base' e size v n xs := by
  refine ⟨h.1, ?_⟩
  rcases h.2 with hn | ⟨g, cap, cur, hv, hg, r⟩
  · exact .inl hn
  · exact .inr ⟨g, cap, cur, hv, Nat.le_trans hb hg, r⟩
end Go.Proofs.YtffnfjkjlmlonaaGreatDoor
namespace Go.Proofs.YtffnfjkjlmlonaaGreatDoor
def lastD (l : List Int) : Int := l.getD (l.length - 1) 0
theorem lastD_cons (x : Int) (l : List Int) (h : 1 ≤ l.length) : lastD (x :: l) = lastD l := by
  unfold lastD
  have e : (x :: l).length - 1 = (l.length - 1) + 1 := by simp; omega
  rw [e]; rfl
theorem numF_last : ∀ (f : Nat) (n : Int), 0 ≤ n → n < lim f → (128 ≤ n → 1 ≤ lastD (numF f n)) ∧ ((numF f n).length = f + 1 → lastD (numF f n) * 128 ^ f ≤ n) ∧ (n < 128 → (numF f n).length = 1)
  | 0, n, h0, h1 => by
    have : n < 128 := h1
    refine ⟨fun h => by omega, fun _ => by simp [numF, lastD], fun _ => rfl⟩
  | f + 1, n, h0, h1 => by
    rw [numF_succ]
    by_cases h : n < 128
    · rw [if_pos h]; exact ⟨fun h => by omega, fun h => by simp at h, fun _ => rfl⟩
    · rw [if_neg h]
      have ih := numF_last f (n / 128) (by omega) (lim_step f n h1)
      have hl := (numF_len f (n / 128)).1
      rw [lastD_cons _ _ hl]
      refine ⟨fun _ => ?_, fun hL => ?_, fun h' => by omega⟩
      · by_cases h2 : 128 ≤ n / 128
        · exact ih.1 h2
        · rw [numF_small f (n / 128) (by omega)]; simp [lastD]; omega
      · have := ih.2.1 (by simpa using hL)
        rw [Int.pow_succ, ← Int.mul_assoc]
        omega
theorem numB_canon (n : Int) (h0 : 0 ≤ n) (h1 : n ≤ 2147483647) : canonB (numB n) = true := by
  have hl := numB_len n
  have := numF_last 4 n h0 (by simp [lim]; omega)
  have e : (numB n).getD ((numB n).length - 1) 0 = lastD (numF 4 n) := rfl
  unfold canonB
  rw [e]
  have h2 : (decide (1 < (numB n).length) && lastD (numF 4 n) == 0) = false := by
    by_cases hn : 128 ≤ n
    · have := this.1 hn
      have : (lastD (numF 4 n) == 0) = false := by simp; omega
      simp [this]
    · have : (numB n).length = 1 := this.2.2 (by omega)
      simp [this]
  have h3 : (decide ((numB n).length < 5) || decide (lastD (numF 4 n) ≤ 7)) = true := by
    by_cases h5 : (numB n).length < 5
    · simp [h5]
    · have h6 : (numF 4 n).length = 4 + 1 := by
        have : (numB n).length = (numF 4 n).length := rfl
        omega
      have := this.2.1 h6
      have e4 : (128 : Int) ^ 4 = 268435456 := by decide
      rw [e4] at this
      have : lastD (numF 4 n) ≤ 7 := by omega
      simp [this]
  have h4 : ((numB n).length == 0) = false := beq_eq_false_iff_ne.2 (by omega)
  rw [h2, h3, h4]; rfl
def sumS : List (Int × Int) → Int
  | [] => 0
  | p :: t => p.2 + sumS t
def wfN : List (Int × Int) → Int → Prop
  | [], _ => True
  | p :: t, b => isV p.1 = true ∧ p.1 ≠ b ∧ 1 ≤ p.2 ∧ wfN t p.1
theorem wfN_sum : ∀ (l : List (Int × Int)) (b : Int), wfN l b → (l.length : Int) ≤ sumS l
  | [], _, _ => by simp [sumS]
  | p :: t, b, h => by have := wfN_sum t p.1 h.2.2.2; have := h.2.2.1; simp [sumS]; omega
theorem wfS_iff : ∀ (l : List (Int × Int)) (b r : Int), 0 ≤ r → (wfS l b r = true ↔ wfN l b ∧ sumS l ≤ r)
  | [], b, r, h => by simp [wfS, wfN, sumS, h]
  | p :: t, b, r, h => by
    unfold wfS
    by_cases h1 : isV p.1 = false ∨ p.1 = b
    · rw [if_pos h1]
      constructor
      · intro h; cases h
      · rintro ⟨⟨a, b', _⟩, _⟩
        rcases h1 with h1 | h1
        · rw [h1] at a; cases a
        · exact absurd h1 b'
    · rw [if_neg h1]
      have hv : isV p.1 = true := by simpa using fun e => h1 (.inl e)
      have hb : p.1 ≠ b := fun e => h1 (.inr e)
      by_cases h2 : p.2 < 1 ∨ r < p.2
      · rw [if_pos h2]
        constructor
        · intro h; cases h
        · rintro ⟨⟨_, _, c, d⟩, e⟩
          have := wfN_sum t p.1 d
          simp only [sumS] at e
          omega
      · rw [if_neg h2, wfS_iff t p.1 (r - p.2) (by omega)]
        simp only [wfN, sumS]
        constructor
        · rintro ⟨a, c⟩; exact ⟨⟨hv, hb, by omega, a⟩, by omega⟩
        · rintro ⟨⟨_, _, _, a⟩, c⟩; exact ⟨a, by omega⟩
theorem wfT_iff (l : List (Int × Int)) : wfT l = true ↔ (wfN l (-1) ∧ sumS l ≤ 1000) ∧ l ≠ [] := by
  unfold wfT
  rw [Bool.and_eq_true, wfS_iff l (-1) 1000 (by omega)]
  simp [List.length_pos_iff]
theorem numF_byte : ∀ (f : Nat) (n : Int), 0 ≤ n → n < lim f → ∀ x ∈ numF f n, 0 ≤ x ∧ x ≤ 255
  | 0, n, h0, h1, x, hx => by
    have : n < 128 := h1
    simp [numF] at hx; omega
  | f + 1, n, h0, h1, x, hx => by
    rw [numF_succ] at hx
    by_cases h : n < 128
    · rw [if_pos h] at hx; simp at hx; omega
    · rw [if_neg h] at hx
      rcases List.mem_cons.1 hx with rfl | hx
      · omega
      · exact numF_byte f (n / 128) (by omega) (lim_step f n h1) x hx
def unroll (l : List (Int × Int)) : List Int := l.flatMap fun p => List.replicate p.2.toNat p.1
theorem unroll_snoc (l : List (Int × Int)) (p : Int × Int) : unroll (l ++ [p]) = unroll l ++ List.replicate p.2.toNat p.1 := by simp [unroll]
end Go.Proofs.YtffnfjkjlmlonaaGreatDoor
