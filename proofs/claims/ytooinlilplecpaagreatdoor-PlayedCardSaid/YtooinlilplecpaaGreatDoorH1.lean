/- Contracts of the statement's own functions intsOf, sameInts and intsStill: a list of numbers that is handed in with eight marks behind it, and the look whether it stands so still. -/
import Derived.Test.YtooinlilplecpaaGreatDoorG1
import Derived.Test.YtooinlilplecpaaGreatDoorC1
import Derived.Lib.SliceRun
namespace Go.Proofs.YtooinlilplecpaaGreatDoor
open Go.RowKit

theorem Tryz.infoInt : (Tryz.prog.info? 3).map (fun i => (i.zero, i.size, i.bytes)) = some (some (.int .i64 0), 1, 8) := by kernel_rfl
theorem Tryz.infoInt1 : (Tryz.prog.info? 3).map (·.size) = some 1 := by kernel_rfl

def ints (l : List Int) : List Value := l.map (Value.int .i64)
theorem ints_len (l : List Int) : (ints l).length = l.length := by simp [ints]
theorem ints_get (l : List Int) (i : Nat) (h : i < l.length) : (ints l)[i]? = some (.int .i64 (l.getD i 0)) := by simp [ints, List.getD, h]
theorem ints_set (l : List Int) (i : Nat) (x : Int) : (ints l).set i (.int .i64 x) = ints (l.set i x) := by simp [ints]
theorem ints_one (l : List Int) : ∀ u ∈ ints l, u.oneCell' = true := by
  intro u hu
  obtain ⟨x, _, rfl⟩ := List.mem_map.1 hu
  rfl

/-- The numbers of a list that is handed in, behind k of its eight marks. -/
def markI (l : List Int) (k : Nat) : List Int := l ++ (List.replicate k 77 ++ List.replicate (8 - k) 0)
theorem markI_len (l : List Int) (k : Nat) (h : k ≤ 8) : (markI l k).length = l.length + 8 := by simp [markI]; omega
theorem markI_set (l : List Int) (k : Nat) (h : k < 8) : (markI l k).set (l.length + k) 77 = markI l (k + 1) := by
  unfold markI
  rw [List.set_append_right _ _ (by omega), Nat.add_sub_cancel_left, List.set_append_right _ _ (by simp), List.length_replicate, Nat.sub_self]
  obtain ⟨m, hm⟩ : ∃ m, 8 - k = m + 1 := ⟨8 - k - 1, by omega⟩
  have hm2 : 8 - (k + 1) = m := by omega
  rw [hm, hm2, List.replicate_succ, List.set_cons_zero, List.replicate_succ']
  simp
theorem markI_at (l : List Int) (k : Nat) (h : k < 8) : (markI l 8).getD (l.length + k) 0 = 77 := by
  unfold markI
  simp only [List.getD]
  rw [List.getElem?_append_right (by omega), Nat.add_sub_cancel_left, List.getElem?_append_left (by simpa using h), List.getElem?_replicate_of_lt h]
  rfl
theorem markI_old (l : List Int) (i : Nat) (h : i < l.length) : (markI l 8).getD i 0 = l.getD i 0 := by
  unfold markI
  simp only [List.getD]
  rw [List.getElem?_append_left h]

theorem made_ints (n : Nat) : (madeCells (Value.int .i64 0).cells (n * 1)).toList = ints (List.replicate n 0) := by
  rw [Nat.mul_one, show (Value.int .i64 0).cells = #[Value.int .i64 0] from rfl, toList_madeCells_one]
  simp [ints]

theorem Rd.src {w : World} {b off len cap : Nat} {l : List Int} (h : Rd .i64 w (some ⟨b, off, none⟩) len cap l) : ∀ j v, (ints l)[j]? = some v → w.cell? ((⟨b, off, none⟩ : Addr).add j) = some v := by
  intro j v hj
  have hlt : j < (ints l).length := by
    rcases Nat.lt_or_ge j (ints l).length with h | h
    · exact h
    · rw [List.getElem?_eq_none h] at hj; cases hj
  rw [ints_len] at hlt
  rw [ints_get l j hlt] at hj
  cases hj
  have e1 : (⟨b, off, none⟩ : Addr).add j = ⟨b, off + j, none⟩ := by unfold Addr.add; split <;> simp_all
  rw [e1]
  obtain ⟨_, _, e, hc⟩ := h.cell j (by rw [← h.hlen]; exact hlt)
  cases e
  exact hc

/-- A list of numbers, made to be handed in. -/
def HdI (w : World) (base : Nat) (a : Option Addr) (l : List Int) (hv : Value) : Prop :=
  (a = none ∧ l = [] ∧ hv = .slice none 0 0) ∨
  (a ≠ none ∧ ∃ g, hv = .slice (some ⟨g, 0, none⟩) l.length (l.length + 8) ∧ w.ownsRow base 3 1 (.slice (some ⟨g, 0, none⟩) (l.length + 8) (l.length + 8)) (l.length + 8) (ints (markI l 8)))

theorem HdI.below {w w' : World} {base : Nat} {a : Option Addr} {l : List Int} {hv : Value} (h : HdI w base a l hv) (hb : Below w.heap.size w w') : HdI w' base a l hv := by
  rcases h with h | ⟨h1, g, e, ho⟩
  · exact .inl h
  · exact .inr ⟨h1, g, e, owns_below ho hb⟩
theorem owns_lower {w : World} {base base' : Nat} {e : TypeId} {size : Nat} {v : Value} {n : Nat} {xs : List Value} (h : w.ownsRow base e size v n xs) (hb : base' ≤ base) : w.ownsRow base' e size v n xs := by
  refine ⟨h.1, ?_⟩
  rcases h.2 with hn | ⟨g, cap, cur, hv, hg, r⟩
  · exact .inl hn
  · exact .inr ⟨g, cap, cur, hv, Nat.le_trans hb hg, r⟩
theorem HdI.lower {w : World} {base base' : Nat} {a : Option Addr} {l : List Int} {hv : Value} (h : HdI w base a l hv) (hb : base' ≤ base) : HdI w base' a l hv := by
  rcases h with h | ⟨h1, g, e, ho⟩
  · exact .inl h
  · exact .inr ⟨h1, g, e, owns_lower ho hb⟩
/-- What is handed in reads as the list that it was made of. -/
theorem HdI.read {w : World} {base : Nat} {a : Option Addr} {l : List Int} {hv : Value} (h : HdI w base a l hv) : ∃ a' cap, hv = .slice a' l.length cap ∧ Rd .i64 w a' l.length cap l := by
  rcases h with ⟨_, rfl, rfl⟩ | ⟨_, g, rfl, ho⟩
  · exact ⟨none, 0, rfl, rfl, Nat.le_refl _, by unfold maxLen; omega, fun i hi => by simp at hi⟩
  · have hml := markI_len l 8 (by omega)
    have hcm : l.length + 8 ≤ maxLen := by
      rcases ho.2 with ⟨h', _⟩ | ⟨g', cap', cur, h', _, _, _, hcm, _⟩
      · cases h'
      · cases h'; exact hcm
    refine ⟨_, _, rfl, rfl, by omega, hcm, fun i hi => ⟨g, 0, rfl, ?_⟩⟩
    have := ho.cellAt i (by omega)
    rw [ints_get _ i (by omega), markI_old l i hi] at this
    rw [Nat.zero_add]
    exact this

set_option maxHeartbeats 1000000 in
set_option maxRecDepth 100000 in
theorem intsOf_any (a : Option Addr) (len cap : Nat) (l : List Int) (w : World) (hr : Rd .i64 w a len cap l) (hlen : len ≤ 17592186044416) :
    Calls Tryz.prog 49 #[.slice a len cap] w fun e w' => ∃ hv, e = .returned hv ∧ HdI w' w.heap.size a l hv ∧ Below w.heap.size w w' := by
  have HL := hid hr.hlen
  obtain ⟨i0, hi, hz0, hz1, hz2⟩ := info_parts Tryz.infoInt
  cases a with
  | none =>
    have hnil := fun W => Lib.run_eql_slice_nil (P := Tryz.prog) W 35 3 none len cap 0 0 Tryz.underlying35
    have hl0 : l = [] := by
      have : ¬ 0 < len := fun h => by obtain ⟨_, _, e, _⟩ := hr.cell 0 h; cases e
      exact List.eq_nil_of_length_eq_zero (by rw [HL.out]; omega)
    have HL0 := hid hl0
    clear hl0
    go_enter Tryz.func49, Tryz.ntmps49
    go_wp2
    go_ret
    exact ⟨_, rfl, .inl ⟨rfl, HL0.out, rfl⟩, Below.refl _ _⟩
  | some ad =>
    have hnil := fun W => Lib.run_eql_slice_nil (P := Tryz.prog) W 35 3 (some ad) len cap 0 0 Tryz.underlying35
    obtain ⟨wm, hmk, hown, hgr⟩ := run_make_full (P := Tryz.prog) w w.heap.size 35 3 i0 (.int .i64 0) 1 Tryz.underlying35 hi hz0 hz1 .i64 .i64 (len + 8) (by rw [hz2]; omega) (by unfold maxLen; omega) (Nat.le_refl _)
    rw [made_ints] at hown
    have ec : ((len + 8 : Nat) : Int) = (len : Int) + 8 := by omega
    rw [ec] at hmk
    have hbm : Below w.heap.size w wm := (Below.refl _ _).grown hgr (Nat.le_refl _) (fun k hk => by cases hk)
    have hrm := hr.below hbm (Nat.le_refl _)
    have hsrc : ∀ j v, (ints l)[j]? = some v → wm.cell? (ad.add j) = some v := by
      intro j v hj
      have hlt : 0 < len := by
        rcases Nat.lt_or_ge j (ints l).length with h | h
        · rw [ints_len, HL.out] at h; omega
        · rw [List.getElem?_eq_none h] at hj; cases hj
      obtain ⟨_, _, e, _⟩ := hrm.cell 0 hlt
      cases e
      exact hrm.src j v hj
    have HSRC := hid hsrc
    have HO0 := hid hown
    clear hown hgr hrm hsrc
    go_enter Tryz.func49, Tryz.ntmps49
    go_wp2_with (refine wpList_copy_wide rfl (.tmp 11) (.tmp 12) 35 35 rfl 3 1 w.heap.size Tryz.underlying35 Tryz.infoInt1 w.heap.size (len + 8) (len + 8) ad len cap rfl rfl (ints (List.replicate (len + 8) 0)) HO0.out (ints l) (by rw [ints_len, HL.out, Nat.mul_one]) (by omega) HSRC.out (ints_one l) ?_)
    intro wc hownc hgrc
    have hbc : Below w.heap.size w wc := hbm.grown hgrc hbm.size (fun k hk => by cases hk; exact Nat.le_refl _)
    have hfl : ints l ++ (ints (List.replicate (len + 8) 0)).drop (ints l).length = ints (markI l 0) := by
      have e1 : List.replicate (len + 8) (0 : Int) = List.replicate len 0 ++ List.replicate 8 0 := by rw [List.replicate_append_replicate]
      rw [e1]
      simp only [ints, markI, List.map_append, List.length_map]
      rw [List.drop_append_of_le_length (by simp [HL.out]), List.drop_of_length_le (by simp [HL.out])]
      rfl
    rw [hfl] at hownc
    have HO := hid hownc
    clear hownc hgrc hfl hbm HO0 HSRC hmk hr
    go_wp2
    go_loopw [4] (fun i wr => ∃ k : Nat, i = .int .i64 ((len : Int) + k) ∧ k ≤ 8 ∧ wr.ownsRow w.heap.size 3 1 (.slice (some ⟨w.heap.size, 0, none⟩) (len + 8) (len + 8)) (len + 8) (ints (markI l k)) ∧ Below w.heap.size w wr) (fun i _ => (len + 8) - (intOf i).toNat)
    case atStart => exact ⟨0, by go_num, by omega, HO.out, hbc⟩
    case round =>
      clear HO hbc
      obtain ⟨k, rfl, hk, hown, hbel⟩ := hrel
      by_cases hk8 : k < 8
      · have hlt : (len : Int) + k < (len : Int) + 8 := by omega
        have e0 : ((len : Int) + (k : Int)).toNat = len + k := by omega
        have hml := markI_len l k (by omega)
        rw [HL.out] at hml
        have hc1 := hown.cellAt (len + k) (by omega)
        rw [ints_get _ _ (by rw [hml]; omega)] at hc1
        generalize (markI l k).getD (len + k) 0 = o1 at hc1
        have hf1 := hown.frozenAt (len + k)
        have hs1 := hown.stored (len + k) (.int .i64 77)
        rw [ints_set] at hs1
        have hms := markI_set l k hk8
        rw [HL.out] at hms
        rw [hms] at hs1
        have HS := hid hs1.1
        clear hs1 hms hml hown
        go_wp2
        go_roundw
        case rel => exact ⟨k + 1, by go_num, by omega, HS.out, hbel.setCell (by exact Nat.le_refl _) _⟩
        case measure => simp [intOf]; omega
      · have hk' : k = 8 := by omega
        subst hk'
        have HO := hid hown
        clear hown
        go_wp2
        go_ret
        refine ⟨_, rfl, .inr ⟨by simp, w.heap.size, ?_, ?_⟩, hbel⟩
        · rw [HL.out]; rfl
        · have := HO.out
          rw [← HL.out] at this
          exact this

set_option maxHeartbeats 1000000 in
set_option maxRecDepth 100000 in
theorem sameInts_any (a : Option Addr) (len cap : Nat) (l : List Int) (a2 : Option Addr) (cap2 : Nat) (w : World) (hr : Rd .i64 w a len cap l) (hr2 : Rd .i64 w a2 len cap2 l) :
    Calls Tryz.prog 25 #[.slice a len cap, .slice a2 len cap2] w fun e w' => e = .returned (.bool true) ∧ Below w.heap.size w w' := by
  have hmax := hr.hmax
  have hcap := hr.hcap
  unfold maxLen at hmax
  have hmax2 := hr2.hmax
  have hcap2 := hr2.hcap
  unfold maxLen at hmax2
  go_enter Tryz.func25, Tryz.ntmps25
  go_wp2
  go_loopw [5] (fun i wr => ∃ j : Nat, i = .int .i64 j ∧ j ≤ len ∧ Below w.heap.size w wr) (fun i _ => len - (intOf i).toNat)
  case atStart => exact ⟨0, rfl, by omega, Below.refl _ _⟩
  case round =>
    obtain ⟨j, rfl, hj, hb2⟩ := hrel
    by_cases hlt2 : j < len
    · obtain ⟨xb, xoff, rfl, hcx⟩ := (hr.below hb2 (Nat.le_refl _)).open (by omega)
      obtain ⟨lb, loff, rfl, hcy⟩ := (hr2.below hb2 (Nat.le_refl _)).open (by omega)
      have hx1 := hcx j hlt2
      have hy1 := hcy j hlt2
      generalize l.getD j 0 = p1 at *
      clear hcx hcy hr hr2
      go_wp2
      go_quiet (fail)
      go_wp2
      go_roundw
      case rel => exact ⟨j + 1, by go_num, by omega, below_drawn hb2 nq⟩
      case measure => simp [intOf]; omega
    · go_wp2
      go_ret
      exact ⟨rfl, hb2⟩

set_option maxHeartbeats 1000000 in
set_option maxRecDepth 100000 in
theorem intsStill_any (base : Nat) (a : Option Addr) (len cap : Nat) (l : List Int) (hv : Value) (w : World) (hh : HdI w base a l hv) (hr : Rd .i64 w a len cap l) (hlen : len ≤ 17592186044416) :
    Calls Tryz.prog 51 #[hv, .slice a len cap] w fun e w' => e = .returned (.bool true) ∧ Below w.heap.size w w' := by
  have HL := hid hr.hlen
  obtain ⟨a', cap', rfl, hrh⟩ := hh.read
  have hnil := fun W => Lib.run_eql_slice_nil (P := Tryz.prog) W 35 3 a len cap 0 0 Tryz.underlying35
  have hsame := sameInts_any a' l.length cap' l a cap w hrh (by rw [HL.out]; exact hr)
  rw [HL.out] at hsame ⊢
  have HS := hid hsame
  clear hsame hrh
  cases a with
  | none =>
    go_enter Tryz.func51, Tryz.ntmps51
    go_wp2_with (go_at_call 25; refine HS.out.mono ?_; rintro e w1 ⟨rfl, hb⟩)
    go_ret
    exact ⟨rfl, hb⟩
  | some ad =>
    rcases hh with ⟨h, _⟩ | ⟨_, g, e, ho⟩
    · cases h
    · rw [HL.out] at e ho
      cases e
      have hge : decide ((len : Int) + 8 < (len : Int) + 8) = false := by simp
      go_enter Tryz.func51, Tryz.ntmps51
      go_wp2_with (go_at_call 25; refine HS.out.mono ?_; rintro e w1 ⟨rfl, hb⟩)
      have ho1 := owns_below ho hb
      clear HS hnil ho hr
      go_loopw [7] (fun i wr => ∃ k : Nat, i = .int .i64 ((len : Int) + k) ∧ k ≤ 8 ∧ Below w1.heap.size w1 wr) (fun i _ => (len + 8) - (intOf i).toNat)
      case atStart => exact ⟨0, by go_num, by omega, Below.refl _ _⟩
      case round =>
        obtain ⟨k, rfl, hk, hbel⟩ := hrel
        have hown := owns_below ho1 hbel
        by_cases hk8 : k < 8
        · have hlt : (len : Int) + k < (len : Int) + 8 := by omega
          have e0 : ((len : Int) + (k : Int)).toNat = len + k := by omega
          have hml := markI_len l 8 (by omega)
          have hm77 := markI_at l k hk8
          rw [HL.out] at hml hm77
          have hc1 := hown.cellAt (len + k) (by omega)
          rw [ints_get _ _ (by rw [hml]; omega), hm77] at hc1
          clear hm77 hml hown ho1
          go_wp2
          go_roundw
          case rel => exact ⟨k + 1, by go_num, by omega, hbel⟩
          case measure => simp [intOf]; omega
        · have hk' : k = 8 := by omega
          subst hk'
          clear hown ho1
          go_wp2
          go_ret
          exact ⟨rfl, hb.trans (hbel.mono hb.size)⟩
end Go.Proofs.YtooinlilplecpaaGreatDoor
