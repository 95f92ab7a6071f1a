/- Contracts of the statement's own functions intsOf, sameInts and intsStill: a list of numbers that is handed in with eight marks behind it, and the look whether it stands so still. Contracts of the reference's goodHead and goodCall: they give the plain functions headB and callB; nothing that was there is written. -/
import Derived.Test.YtffnfjkjlmlonaaGreatDoorZ2
import Derived.Lib.SliceRun
namespace Go.Proofs.YtffnfjkjlmlonaaGreatDoor
open Go.RowKit

theorem Tryz.infoInt : (Tryz.prog.info? 3).map (fun i => (i.zero, i.size, i.bytes)) = some (some (.int .i64 0), 1, 8) := by kernel_rfl
theorem Tryz.infoInt1 : (Tryz.prog.info? 3).map (·.size) = some 1 := by kernel_rfl

def ints (l : List Int) : List Value := l.map (Value.int .i64)
theorem ints_len (l : List Int) : (ints l).length = l.length := by simp [ints]
theorem ints_get (l : List Int) (i : Nat) (h : i < l.length) : (ints l)[i]? = some (.int .i64 (l.getD i 0)) := by simp [ints, List.getD, h]
theorem ints_set (l : List Int) (i : Nat) (x : Int) : (ints l).set i (.int .i64 x) = ints (l.set i x) := by simp [ints]
theorem ints_one (l : List Int) : ∀ u ∈ ints l, u.oneCell' = true := by
  intro u hu
  obtain ⟨x, _, rfl⟩ := List.mem_map.1 hu
  rfl

/-- The numbers of a list that is handed in, behind k of its eight marks. -/
def markI (l : List Int) (k : Nat) : List Int := l ++ (List.replicate k 77 ++ List.replicate (8 - k) 0)
theorem markI_len (l : List Int) (k : Nat) (h : k ≤ 8) : (markI l k).length = l.length + 8 := by simp [markI]; omega
theorem markI_set (l : List Int) (k : Nat) (h : k < 8) : (markI l k).set (l.length + k) 77 = markI l (k + 1) := by
  unfold markI
  rw [List.set_append_right _ _ (by omega), Nat.add_sub_cancel_left, List.set_append_right _ _ (by simp), List.length_replicate, Nat.sub_self]
  obtain ⟨m, hm⟩ : ∃ m, 8 - k = m + 1 := ⟨8 - k - 1, by omega⟩
  have hm2 : 8 - (k + 1) = m := by omega
  rw [hm, hm2, List.replicate_succ, List.set_cons_zero, List.replicate_succ']
  simp
theorem markI_at (l : List Int) (k : Nat) (h : k < 8) : (markI l 8).getD (l.length + k) 0 = 77 := by
  unfold markI
  simp only [List.getD]
  rw [List.getElem?_append_right (by omega), Nat.add_sub_cancel_left, List.getElem?_append_left (by simpa using h), List.getElem?_replicate_of_lt h]
  rfl
theorem markI_old (l : List Int) (i : Nat) (h : i < l.length) : (markI l 8).getD i 0 = l.getD i 0 := by
  unfold markI
  simp only [List.getD]
  rw [List.getElem?_append_left h]

theorem made_ints (n : Nat) : (madeCells (Value.int .i64 0).cells (n * 1)).toList = ints (List.replicate n 0) := by
  rw [Nat.mul_one, show (Value.int .i64 0).cells = #[Value.int .i64 0] from rfl, toList_madeCells_one]
  simp [ints]

theorem Rd.src {w : World} {b off len cap : Nat} {l : List Int} (h : Rd .i64 w (some ⟨b, off, none⟩) len cap l) : ∀ j v, (ints l)[j]? = some v → w.cell? ((⟨b, off, none⟩ : Addr).add j) = some v := by
  intro j v hj
  have hlt : j < (ints l).length := by
    rcases Nat.lt_or_ge j (ints l).length with h | h
    · exact h
    · rw [List.getElem?_eq_none h] at hj; cases hj
  rw [ints_len] at hlt
  rw [ints_get l j hlt] at hj
  cases hj
  have e1 : (⟨b, off, none⟩ : Addr).add j = ⟨b, off + j, none⟩ := by unfold Addr.add; split <;> simp_all
  rw [e1]
  obtain ⟨_, _, e, hc⟩ := h.cell j (by rw [← h.hlen]; exact hlt)
  cases e
  exact hc

/-- A list of numbers, made to be handed in. -/
def HdI (w : World) (base : Nat) (a : Option Addr) (l : List Int) (hv : Value) : Prop :=
  (a = none ∧ l = [] ∧ hv = .slice none 0 0) ∨
  (a ≠ none ∧ ∃ g, hv = .slice (some ⟨g, 0, none⟩) l.length (l.length + 8) ∧ w.ownsRow base 3 1 (.slice (some ⟨g, 0, none⟩) (l.length + 8) (l.length + 8)) (l.length + 8) (ints (markI l 8)))

theorem HdI.below {w w' : World} {base : Nat} {a : Option Addr} {l : List Int} {hv : Value} (h : HdI w base a l hv) (hb : Below w.heap.size w w') : HdI w' base a l hv := by
  rcases h with h | ⟨h1, g, e, ho⟩
  · exact .inl h
  · exact .inr ⟨h1, g, e, owns_below ho hb⟩
theorem owns_lower {w : World} {base base' : Nat} {e : TypeId} {size : Nat} {v : Value} {n : Nat} {xs : List Value} (h : w.ownsRow base e size v n xs) (hb : base' ≤ base) : w.ownsRow base' e size v n xs := by
  refine ⟨h.1, ?_⟩
  rcases h.2 with hn | ⟨g, cap, cur, hv, hg, r⟩
  · exact .inl hn
  · exact .inr ⟨g, cap, cur, hv, Nat.le_trans hb hg, r⟩
theorem HdI.lower {w : World} {base base' : Nat} {a : Option Addr} {l : List Int} {hv : Value} (h : HdI w base a l hv) (hb : base' ≤ base) : HdI w base' a l hv := by
  rcases h with h | ⟨h1, g, e, ho⟩
  · exact .inl h
  · exact .inr ⟨h1, g, e, owns_lower ho hb⟩
/-- What is handed in reads as the list that it was made of. -/
theorem HdI.read {w : World} {base : Nat} {a : Option Addr} {l : List Int} {hv : Value} (h : HdI w base a l hv) : ∃ a' cap, hv = .slice a' l.length cap ∧ Rd .i64 w a' l.length cap l := by
  rcases h with ⟨_, rfl, rfl⟩ | ⟨_, g, rfl, ho⟩
  · exact ⟨none, 0, rfl, rfl, Nat.le_refl _, by unfold maxLen; omega, fun i hi => by simp at hi⟩
  · have hml := markI_len l 8 (by omega)
    have hcm : l.length + 8 ≤ maxLen := by
      rcases ho.2 with ⟨h', _⟩ | ⟨g', cap', cur, h', _, _, _, hcm, _⟩
      · cases h'
      · cases h'; exact hcm
    refine ⟨_, _, rfl, rfl, by omega, hcm, fun i hi => ⟨g, 0, rfl, ?_⟩⟩
    have := ho.cellAt i (by omega)
    rw [ints_get _ i (by omega), markI_old l i hi] at this
    rw [Nat.zero_add]
    exact this

set_option maxHeartbeats 1000000 in
set_option maxRecDepth 100000 in
theorem intsOf_any (a : Option Addr) (len cap : Nat) (l : List Int) (w : World) (hr : Rd .i64 w a len cap l) (hlen : len ≤ 17592186044416) :
    Calls Tryz.prog 44 #[.slice a len cap] w fun e w' => ∃ hv, e = .returned hv ∧ HdI w' w.heap.size a l hv ∧ Below w.heap.size w w' := by
  have HL := hid hr.hlen
  obtain ⟨i0, hi, hz0, hz1, hz2⟩ := info_parts Tryz.infoInt
  cases a with
  | none =>
    have hnil := fun W => Lib.run_eql_slice_nil (P := Tryz.prog) W 35 3 none len cap 0 0 Tryz.underlying35
    have hl0 : l = [] := by
      have : ¬ 0 < len := fun h => by obtain ⟨_, _, e, _⟩ := hr.cell 0 h; cases e
      exact List.eq_nil_of_length_eq_zero (by rw [HL.out]; omega)
    have HL0 := hid hl0
    clear hl0
    go_enter Tryz.func44, Tryz.ntmps44
    go_wp2
    go_ret
    exact ⟨_, rfl, .inl ⟨rfl, HL0.out, rfl⟩, Below.refl _ _⟩
  | some ad =>
    have hnil := fun W => Lib.run_eql_slice_nil (P := Tryz.prog) W 35 3 (some ad) len cap 0 0 Tryz.underlying35
    obtain ⟨wm, hmk, hown, hgr⟩ := run_make_full (P := Tryz.prog) w w.heap.size 35 3 i0 (.int .i64 0) 1 Tryz.underlying35 hi hz0 hz1 .i64 .i64 (len + 8) (by rw [hz2]; omega) (by unfold maxLen; omega) (Nat.le_refl _)
    rw [made_ints] at hown
    have ec : ((len + 8 : Nat) : Int) = (len : Int) + 8 := by omega
    rw [ec] at hmk
    have hbm : Below w.heap.size w wm := (Below.refl _ _).grown hgr (Nat.le_refl _) (fun k hk => by cases hk)
    have hrm := hr.below hbm (Nat.le_refl _)
    have hsrc : ∀ j v, (ints l)[j]? = some v → wm.cell? (ad.add j) = some v := by
      intro j v hj
      have hlt : 0 < len := by
        rcases Nat.lt_or_ge j (ints l).length with h | h
        · rw [ints_len, HL.out] at h; omega
        · rw [List.getElem?_eq_none h] at hj; cases hj
      obtain ⟨_, _, e, _⟩ := hrm.cell 0 hlt
      cases e
      exact hrm.src j v hj
    have HSRC := hid hsrc
    have HO0 := hid hown
    clear hown hgr hrm hsrc
    go_enter Tryz.func44, Tryz.ntmps44
    go_wp2_with (refine wpList_copy_wide rfl (.tmp 11) (.tmp 12) 35 35 rfl 3 1 w.heap.size Tryz.underlying35 Tryz.infoInt1 w.heap.size (len + 8) (len + 8) ad len cap rfl rfl (ints (List.replicate (len + 8) 0)) HO0.out (ints l) (by rw [ints_len, HL.out, Nat.mul_one]) (by omega) HSRC.out (ints_one l) ?_)
    intro wc hownc hgrc
    have hbc : Below w.heap.size w wc := hbm.grown hgrc hbm.size (fun k hk => by cases hk; exact Nat.le_refl _)
    have hfl : ints l ++ (ints (List.replicate (len + 8) 0)).drop (ints l).length = ints (markI l 0) := by
      have e1 : List.replicate (len + 8) (0 : Int) = List.replicate len 0 ++ List.replicate 8 0 := by rw [List.replicate_append_replicate]
      rw [e1]
      simp only [ints, markI, List.map_append, List.length_map]
      rw [List.drop_append_of_le_length (by simp [HL.out]), List.drop_of_length_le (by simp [HL.out])]
      rfl
    rw [hfl] at hownc
    have HO := hid hownc
    clear hownc hgrc hfl hbm HO0 HSRC hmk hr
    go_wp2
    go_loopw [4] (fun i wr => ∃ k : Nat, i = .int .i64 ((len : Int) + k) ∧ k ≤ 8 ∧ wr.ownsRow w.heap.size 3 1 (.slice (some ⟨w.heap.size, 0, none⟩) (len + 8) (len + 8)) (len + 8) (ints (markI l k)) ∧ Below w.heap.size w wr) (fun i _ => (len + 8) - (intOf i).toNat)
    case atStart => exact ⟨0, by go_num, by omega, HO.out, hbc⟩
    case round =>
      clear HO hbc
      obtain ⟨k, rfl, hk, hown, hbel⟩ := hrel
      by_cases hk8 : k < 8
      · have hlt : (len : Int) + k < (len : Int) + 8 := by omega
        have e0 : ((len : Int) + (k : Int)).toNat = len + k := by omega
        have hml := markI_len l k (by omega)
        rw [HL.out] at hml
        have hc1 := hown.cellAt (len + k) (by omega)
        rw [ints_get _ _ (by rw [hml]; omega)] at hc1
        generalize (markI l k).getD (len + k) 0 = o1 at hc1
        have hf1 := hown.frozenAt (len + k)
        have hs1 := hown.stored (len + k) (.int .i64 77)
        rw [ints_set] at hs1
        have hms := markI_set l k hk8
        rw [HL.out] at hms
        rw [hms] at hs1
        have HS := hid hs1.1
        clear hs1 hms hml hown
        go_wp2
        go_roundw
        case rel => exact ⟨k + 1, by go_num, by omega, HS.out, hbel.setCell (by exact Nat.le_refl _) _⟩
        case measure => simp [intOf]; omega
      · have hk' : k = 8 := by omega
        subst hk'
        have HO := hid hown
        clear hown
        go_wp2
        go_ret
        refine ⟨_, rfl, .inr ⟨by simp, w.heap.size, ?_, ?_⟩, hbel⟩
        · rw [HL.out]; rfl
        · have := HO.out
          rw [← HL.out] at this
          exact this

set_option maxHeartbeats 1000000 in
set_option maxRecDepth 100000 in
theorem sameInts_any (a : Option Addr) (len cap : Nat) (l : List Int) (a2 : Option Addr) (cap2 : Nat) (w : World) (hr : Rd .i64 w a len cap l) (hr2 : Rd .i64 w a2 len cap2 l) :
    Calls Tryz.prog 20 #[.slice a len cap, .slice a2 len cap2] w fun e w' => e = .returned (.bool true) ∧ Below w.heap.size w w' := by
  have hmax := hr.hmax
  have hcap := hr.hcap
  unfold maxLen at hmax
  have hmax2 := hr2.hmax
  have hcap2 := hr2.hcap
  unfold maxLen at hmax2
  go_enter Tryz.func20, Tryz.ntmps20
  go_wp2
  go_loopw [5] (fun i wr => ∃ j : Nat, i = .int .i64 j ∧ j ≤ len ∧ Below w.heap.size w wr) (fun i _ => len - (intOf i).toNat)
  case atStart => exact ⟨0, rfl, by omega, Below.refl _ _⟩
  case round =>
    obtain ⟨j, rfl, hj, hb2⟩ := hrel
    by_cases hlt2 : j < len
    · obtain ⟨xb, xoff, rfl, hcx⟩ := (hr.below hb2 (Nat.le_refl _)).open (by omega)
      obtain ⟨lb, loff, rfl, hcy⟩ := (hr2.below hb2 (Nat.le_refl _)).open (by omega)
      have hx1 := hcx j hlt2
      have hy1 := hcy j hlt2
      generalize l.getD j 0 = p1 at *
      clear hcx hcy hr hr2
      go_wp2
      go_quiet (fail)
      go_wp2
      go_roundw
      case rel => exact ⟨j + 1, by go_num, by omega, below_drawn hb2 nq⟩
      case measure => simp [intOf]; omega
    · go_wp2
      go_ret
      exact ⟨rfl, hb2⟩

set_option maxHeartbeats 1000000 in
set_option maxRecDepth 100000 in
theorem intsStill_any (base : Nat) (a : Option Addr) (len cap : Nat) (l : List Int) (hv : Value) (w : World) (hh : HdI w base a l hv) (hr : Rd .i64 w a len cap l) (hlen : len ≤ 17592186044416) :
    Calls Tryz.prog 46 #[hv, .slice a len cap] w fun e w' => e = .returned (.bool true) ∧ Below w.heap.size w w' := by
  have HL := hid hr.hlen
  obtain ⟨a', cap', rfl, hrh⟩ := hh.read
  have hnil := fun W => Lib.run_eql_slice_nil (P := Tryz.prog) W 35 3 a len cap 0 0 Tryz.underlying35
  have hsame := sameInts_any a' l.length cap' l a cap w hrh (by rw [HL.out]; exact hr)
  rw [HL.out] at hsame ⊢
  have HS := hid hsame
  clear hsame hrh
  cases a with
  | none =>
    go_enter Tryz.func46, Tryz.ntmps46
    go_wp2_with (go_at_call 20; refine HS.out.mono ?_; rintro e w1 ⟨rfl, hb⟩)
    go_ret
    exact ⟨rfl, hb⟩
  | some ad =>
    rcases hh with ⟨h, _⟩ | ⟨_, g, e, ho⟩
    · cases h
    · rw [HL.out] at e ho
      cases e
      have hge : decide ((len : Int) + 8 < (len : Int) + 8) = false := by simp
      go_enter Tryz.func46, Tryz.ntmps46
      go_wp2_with (go_at_call 20; refine HS.out.mono ?_; rintro e w1 ⟨rfl, hb⟩)
      have ho1 := owns_below ho hb
      clear HS hnil ho hr
      go_loopw [7] (fun i wr => ∃ k : Nat, i = .int .i64 ((len : Int) + k) ∧ k ≤ 8 ∧ Below w1.heap.size w1 wr) (fun i _ => (len + 8) - (intOf i).toNat)
      case atStart => exact ⟨0, by go_num, by omega, Below.refl _ _⟩
      case round =>
        obtain ⟨k, rfl, hk, hbel⟩ := hrel
        have hown := owns_below ho1 hbel
        by_cases hk8 : k < 8
        · have hlt : (len : Int) + k < (len : Int) + 8 := by omega
          have e0 : ((len : Int) + (k : Int)).toNat = len + k := by omega
          have hml := markI_len l 8 (by omega)
          have hm77 := markI_at l k hk8
          rw [HL.out] at hml hm77
          have hc1 := hown.cellAt (len + k) (by omega)
          rw [ints_get _ _ (by rw [hml]; omega), hm77] at hc1
          clear hm77 hml hown ho1
          go_wp2
          go_roundw
          case rel => exact ⟨k + 1, by go_num, by omega, hbel⟩
          case measure => simp [intOf]; omega
        · have hk' : k = 8 := by omega
          subst hk'
          clear hown ho1
          go_wp2
          go_ret
          exact ⟨rfl, hb.trans (hbel.mono hb.size)⟩
end Go.Proofs.YtffnfjkjlmlonaaGreatDoor
namespace Go.Proofs.YtffnfjkjlmlonaaGreatDoor
open Go.RowKit

theorem RdL.len {α : Type} {size : Nat} {R : World → List Value → α → Prop} {w : World} {a : Option Addr} {len cap : Nat} {l : List α} (h : RdL size R w a len cap l) : l.length = len := h.1

/-- One function of a program, as it lies in memory. -/
theorem RdP.at {w : World} {a : Option Addr} {len cap : Nat} {p : List FnD} (h : RdP w a len cap p) (i : Nat) (x : FnD) (hx : p[i]? = some x) :
    ∃ b off ba bcap, a = some ⟨b, off, none⟩ ∧ b < w.heap.size ∧ w.cell? ⟨b, off + i * 5, none⟩ = some (.string x.name) ∧ w.cell? ⟨b, off + i * 5 + 1, none⟩ = some (.string x.file) ∧
      w.cell? ⟨b, off + i * 5 + 2, none⟩ = some (.int .i64 x.params) ∧ w.cell? ⟨b, off + i * 5 + 3, none⟩ = some (.int .i64 x.locals) ∧
      w.cell? ⟨b, off + i * 5 + 4, none⟩ = some (.slice ba x.body.length bcap) ∧ RdL 6 RdOp w ba x.body.length bcap x.body ∧ x.name.size ≤ maxLen ∧ x.file.size ≤ maxLen := by
  obtain ⟨b, off, cs, e, hl, hc, ba, bcap, rfl, hr, h1, h2⟩ := h.2.2.2 i x hx
  have c0 := hc 0 _ rfl
  exact ⟨b, off, ba, bcap, e, World.block_lt_of_cell? w _ c0, c0, hc 1 _ rfl, hc 2 _ rfl, hc 3 _ rfl, hc 4 _ rfl, hr, h1, h2⟩

theorem any_take_succ {α : Type} (l : List α) (k : Nat) (x : α) (q : α → Bool) (h : l[k]? = some x) : (l.take (k + 1)).any q = ((l.take k).any q || q x) := by
  obtain ⟨hk, e⟩ := List.getElem?_eq_some_iff.1 h
  rw [List.take_succ_eq_append_getElem hk, List.any_append, e]
  simp
theorem all_take_succ {α : Type} (l : List α) (k : Nat) (x : α) (q : α → Bool) (h : l[k]? = some x) : (l.take (k + 1)).all q = ((l.take k).all q && q x) := by
  obtain ⟨hk, e⟩ := List.getElem?_eq_some_iff.1 h
  rw [List.take_succ_eq_append_getElem hk, List.all_append, e]
  simp

set_option maxHeartbeats 2000000 in
set_option maxRecDepth 100000 in
theorem goodHead_any (a : Option Addr) (len cap : Nat) (p : List FnD) (f : Nat) (x : FnD) (w : World) (hr : RdP w a len cap p) (hx : p[f]? = some x) :
    Calls Tryz.prog 88 #[.slice a len cap, .int .i64 (f : Int)] w fun e w' => e = .returned (.bool (headB p f x)) ∧ Below w.heap.size w w' := by
  have HL := hid hr.len
  have hcap := hr.2.1
  have hmax := hr.2.2.1
  unfold maxLen at hmax
  have hf : f < len := by rw [← HL.out]; exact (List.getElem?_eq_some_iff.1 hx).1
  obtain ⟨b, off, ba, bcap, rfl, hb, c0, c1, c2, c3, c4, hrb, hn1, hn2⟩ := hr.at f x hx
  have hbl1 := hrb.2.1
  have hbl2 := hrb.2.2.1
  unfold maxLen at hbl2
  have HW1 := hid (fun W => word_any x.name W hn1)
  have HW2 := hid (fun W => word_any x.file W hn2)
  have HX := hid hx
  clear hx hn1 hn2 hrb
  obtain ⟨nm, hnm⟩ : ∃ nm, nm = x.name := ⟨_, rfl⟩
  obtain ⟨fl, hfl⟩ : ∃ fl, fl = x.file := ⟨_, rfl⟩
  obtain ⟨pr, hpr⟩ : ∃ pr, pr = x.params := ⟨_, rfl⟩
  obtain ⟨lo, hlo⟩ : ∃ lo, lo = x.locals := ⟨_, rfl⟩
  obtain ⟨nb, hnb⟩ : ∃ nb, nb = x.body.length := ⟨_, rfl⟩
  have hH : headB p f x = (!((p.take f).any fun y => eqB y.name nm) && (decide (1 ≤ lo ∧ lo ≤ 8 ∧ 0 ≤ pr ∧ pr ≤ lo) && (wordB nm && wordB fl && decide (1 ≤ nb ∧ nb ≤ 30)))) := by
    unfold headB; rw [hnm, hfl, hpr, hlo, hnb]
  rw [← hnm] at c0 HW1
  rw [← hfl] at c1 HW2
  rw [← hpr] at c2
  rw [← hlo] at c3
  rw [← hnb] at c4 hbl1
  have HH := hid hH
  clear hnm hfl hpr hlo hnb hH
  obtain ⟨wn, hwn⟩ : ∃ wn, wn = wordB nm := ⟨_, rfl⟩
  obtain ⟨wf, hwf⟩ : ∃ wf, wf = wordB fl := ⟨_, rfl⟩
  rw [← hwn] at HH HW1
  rw [← hwf] at HH HW2
  clear hwn hwf
  go_enter Tryz.func88, Tryz.ntmps88
  go_wp2_with fail
  obtain ⟨bw, hbw⟩ : ∃ bw, bw = w.alloc (Obj.cells #[.string nm, .string fl, .int .i64 pr, .int .i64 lo, .slice ba nb bcap] 122) := ⟨_, rfl⟩
  have hbb : Below w.heap.size w bw := by rw [hbw]; exact (Below.refl _ _).alloc (Nat.le_refl _) _
  have hbk : bw.heap[w.heap.size]? = some (.cells #[.string nm, .string fl, .int .i64 pr, .int .i64 lo, .slice ba nb bcap] 122 (0, 0)) := by rw [hbw]; exact heap_alloc_new _ _
  have hbs : bw.heap.size = w.heap.size + 1 := by rw [hbw]; simp
  rw [← hbw]
  clear hbw c0 c1 c2 c3 c4
  refine (HW1.out _).mono ?_
  rintro e w1 ⟨rfl, hb1⟩
  have hk1 := (hb1.block w.heap.size (by omega)).trans hbk
  have hx1 : w1.cell? ⟨w.heap.size, 1, none⟩ = some (.string fl) := by simp [World.cell?, hk1]
  have hbel1 := hbb.trans (hb1.mono hbb.size)
  have hs1 := hb1.size
  clear hbk hb1 hbb
  have HK1 := hid hk1
  clear hk1
  go_wp2_with fail
  refine (HW2.out _).mono ?_
  rintro e w2 ⟨rfl, hb2⟩
  have hk2 := (hb2.block w.heap.size (by omega)).trans HK1.out
  have hbel2 := hbel1.trans (hb2.mono hbel1.size)
  have hs2 := hb2.size
  clear hx1 HK1 hb2 hbel1 HW1 HW2
  have HK2 := hid hk2
  clear hk2
  go_wp2
  go_loopw [8] (fun i wr => ∃ j : Nat, i = .int .i64 j ∧ j ≤ f ∧ ((p.take j).any fun y => eqB y.name nm) = false ∧ Below w2.heap.size w2 wr) (fun i _ => f - (intOf i).toNat)
  case atStart => exact ⟨0, rfl, by omega, rfl, Below.refl _ _⟩
  case round =>
    obtain ⟨j, rfl, hj, hno, hbel⟩ := hrel
    have HNO := hid hno
    have hkr := (hbel.block w.heap.size (by omega)).trans HK2.out
    have hbt := hbel2.trans (hbel.mono hbel2.size)
    have hx0 : wr.cell? ⟨w.heap.size, 0, none⟩ = some (.string nm) := by simp [World.cell?, hkr]
    clear hno
    by_cases hjf : j < f
    · obtain ⟨y, hy⟩ : ∃ y, p[j]? = some y := ⟨_, List.getElem?_eq_getElem (by rw [HL.out]; omega)⟩
      obtain ⟨b', off', _, _, e', _, d0, _⟩ := (hr.below hbt).at j y hy
      cases e'
      have hst := any_take_succ p j y (fun z => eqB z.name nm) hy
      rw [HNO.out, Bool.false_or] at hst
      obtain ⟨ym, hym⟩ : ∃ ym, ym = y.name := ⟨_, rfl⟩
      rw [← hym] at d0 hst
      have HST := hid hst
      clear hst hym hy hkr hr
      obtain ⟨q, hq⟩ : ∃ q, q = eqB ym nm := ⟨_, rfl⟩
      rw [← hq] at HST
      have hqq : (ym.toList == nm.toList) = q := by rw [hq]; rfl
      have HQ := hid hqq
      clear hq
      cases q with
      | true =>
        have HF : Hid (headB p f x = false) := by
          show _ = _
          rw [HH.out]
          have : ((p.take f).any fun y => eqB y.name nm) = true := by
            have e1 : p.take f = p.take (j + 1) ++ (p.take f).drop (j + 1) := by
              have := List.take_append_drop (j + 1) (p.take f)
              rw [List.take_take, Nat.min_eq_left (by omega)] at this
              exact this.symm
            rw [e1, List.any_append, HST.out, Bool.true_or]
          rw [this]; rfl
        go_wp2
        go_quiet (fail)
        go_wp2
        go_ret
        exact ⟨ret_bool HF.out.symm, below_drawn hbt nq⟩
      | false =>
        go_wp2
        go_quiet (fail)
        go_wp2
        go_roundw
        case rel => exact ⟨j + 1, by go_num, by omega, HST.out, below_drawn hbel nq⟩
        case measure => simp [intOf]; omega
    · have hjf' : j = f := by omega
      subst hjf'
      have hH2 : headB p j x = (decide (1 ≤ lo ∧ lo ≤ 8 ∧ 0 ≤ pr ∧ pr ≤ lo) && (wn && wf && decide (1 ≤ nb ∧ nb ≤ 30))) := by rw [HH.out, HNO.out]; rfl
      have HH2 := hid hH2
      have hx2 : wr.cell? ⟨w.heap.size, 2, none⟩ = some (.int .i64 pr) := by simp [World.cell?, hkr]
      have hx3 : wr.cell? ⟨w.heap.size, 3, none⟩ = some (.int .i64 lo) := by simp [World.cell?, hkr]
      have hx4 : wr.cell? ⟨w.heap.size, 4, none⟩ = some (.slice ba nb bcap) := by simp [World.cell?, hkr]
      clear hH2 HH HNO hkr hr
      by_cases l1 : lo < 1
      · have HF : Hid (headB p j x = false) := by show _ = _; rw [HH2.out, decide_eq_false (by omega)]; rfl
        go_wp2
        go_ret
        exact ⟨ret_bool HF.out.symm, hbt⟩
      · have l1' : decide (lo < 1) = false := by simpa using l1
        by_cases l2 : 8 < lo
        · have HF : Hid (headB p j x = false) := by show _ = _; rw [HH2.out, decide_eq_false (by omega)]; rfl
          go_wp2
          go_ret
          exact ⟨ret_bool HF.out.symm, hbt⟩
        · have l2' : decide (8 < lo) = false := by simpa using l2
          by_cases l3 : pr < 0
          · have HF : Hid (headB p j x = false) := by show _ = _; rw [HH2.out, decide_eq_false (by omega)]; rfl
            go_wp2
            go_ret
            exact ⟨ret_bool HF.out.symm, hbt⟩
          · have l3' : decide (pr < 0) = false := by simpa using l3
            by_cases l4 : lo < pr
            · have HF : Hid (headB p j x = false) := by show _ = _; rw [HH2.out, decide_eq_false (by omega)]; rfl
              go_wp2
              go_ret
              exact ⟨ret_bool HF.out.symm, hbt⟩
            · have l4' : decide (lo < pr) = false := by simpa using l4
              have hH3 : headB p j x = (wn && wf && decide (1 ≤ nb ∧ nb ≤ 30)) := by rw [HH2.out, decide_eq_true (by omega), Bool.true_and]
              have HH3 := hid hH3
              clear hH3 HH2
              cases wn with
              | false =>
                have HF : Hid (headB p j x = false) := by show _ = _; rw [HH3.out]; rfl
                go_wp2
                go_ret
                exact ⟨ret_bool HF.out.symm, hbt⟩
              | true =>
                cases wf with
                | false =>
                  have HF : Hid (headB p j x = false) := by show _ = _; rw [HH3.out]; rfl
                  go_wp2
                  go_ret
                  exact ⟨ret_bool HF.out.symm, hbt⟩
                | true =>
                  by_cases l5 : 1 ≤ nb
                  · have l5' : (1 : Int) ≤ (nb : Int) := by omega
                    have HF : Hid (headB p j x = decide ((nb : Int) ≤ 30)) := by
                      show _ = _; rw [HH3.out, Bool.true_and, Bool.true_and]; exact decide_eq_decide.2 ⟨fun h => by omega, fun h => ⟨l5, by omega⟩⟩
                    go_wp2
                    go_ret
                    exact ⟨ret_bool HF.out.symm, hbt⟩
                  · have l5' : decide ((1 : Int) ≤ (nb : Int)) = false := by simp; omega
                    have HF : Hid (headB p j x = false) := by show _ = _; rw [HH3.out, decide_eq_false (by omega)]; rfl
                    go_wp2
                    go_ret
                    exact ⟨ret_bool HF.out.symm, hbt⟩

theorem callB_no (p : List FnD) (locals : Int) (o : OpD) (h : withB o.b p.length = false) : callB p locals o = false := by unfold callB; rw [h]; rfl

set_option maxHeartbeats 2000000 in
set_option maxRecDepth 100000 in
theorem goodCall_any (a : Option Addr) (len cap : Nat) (p : List FnD) (locals : Int) (o : OpD) (aa : Option Addr) (acap : Nat) (w : World) (hr : RdP w a len cap p) (hra : Rd .i64 w aa o.args.length acap o.args) :
    Calls Tryz.prog 140 #[.slice a len cap, .int .i64 locals, .agg #[.int .i64 o.code, .int .i64 o.line, .int .i64 o.a, .int .i64 o.b, .int .i64 o.c, .slice aa o.args.length acap]] w fun e w' => e = .returned (.bool (callB p locals o)) ∧ Below w.heap.size w w' := by
  have HL := hid hr.len
  have hcap := hr.2.1
  have hmax := hr.2.2.1
  unfold maxLen at hmax
  have hcap2 := hra.hcap
  have hmax2 := hra.hmax
  unfold maxLen at hmax2
  obtain ⟨oc, ol, oa, ob, oC, oargs⟩ := o
  simp only at hra hcap2 ⊢
  obtain ⟨na, hna⟩ : ∃ na, na = oargs.length := ⟨_, rfl⟩
  rw [← hna] at hra hcap2 ⊢
  have HNA := hid hna
  clear hna
  have hbb : Below w.heap.size w (w.alloc (Obj.cells #[.int .i64 oc, .int .i64 ol, .int .i64 oa, .int .i64 ob, .int .i64 oC, .slice aa na acap] 183)) := (Below.refl _ _).alloc (Nat.le_refl _) _
  have HW0 := within_any ob (len : Int)
  obtain ⟨t, ht⟩ : ∃ t, t = withB ob (len : Int) := ⟨_, rfl⟩
  rw [← ht] at HW0
  have HW := hid HW0
  clear HW0
  cases t with
  | false =>
    have HF : Hid (callB p locals ⟨oc, ol, oa, ob, oC, oargs⟩ = false) := by show _ = _; exact callB_no p locals _ (by rw [HL.out]; exact ht.symm)
    clear ht
    go_enter Tryz.func140, Tryz.ntmps140
    go_wp2_with (go_at_call 139; refine (HW.out _).mono ?_; rintro e w' ⟨rfl, rfl⟩)
    go_ret
    exact ⟨ret_bool HF.out.symm, hbb⟩
  | true =>
    have hob := of_decide_eq_true ht.symm
    obtain ⟨k, rfl⟩ := Int.eq_ofNat_of_zero_le hob.1
    have hk : k < len := by omega
    obtain ⟨y, hy⟩ : ∃ y, p[k]? = some y := ⟨_, List.getElem?_eq_getElem (by rw [HL.out]; exact hk)⟩
    obtain ⟨b, off, _, _, rfl, hb, _, _, c2, _⟩ := hr.at k y hy
    have hC : callB p locals ⟨oc, ol, oa, (k : Int), oC, oargs⟩ = ((y.params == (na : Int)) && oargs.all fun n => withB n locals) := by
      unfold callB
      simp only [HL.out, ← ht, Int.toNat_natCast, hy, Option.map_some, Option.getD_some, Bool.true_and, HNA.out]
    obtain ⟨yp, hyp⟩ : ∃ yp, yp = y.params := ⟨_, rfl⟩
    rw [← hyp] at c2 hC
    have HCC := hid hC
    have hkc : (k : Int) < (len : Int) := by omega
    clear hC hyp hy ht hob hr
    obtain ⟨q, hq⟩ : ∃ q, q = (yp != (na : Int)) := ⟨_, rfl⟩
    have hq' : (yp != (na : Int)) = q := hq.symm
    have hq2 : (yp == (na : Int)) = !q := by rw [hq]; simp [bne]
    have HQ2 := hid hq2
    clear hq hq2
    go_enter Tryz.func140, Tryz.ntmps140
    go_wp2_with (go_at_call 139; refine (HW.out _).mono ?_; rintro e w' ⟨rfl, rfl⟩)
    clear HW
    obtain ⟨bw, hbw⟩ : ∃ bw, bw = w.alloc (Obj.cells #[.int .i64 oc, .int .i64 ol, .int .i64 oa, .int .i64 (k : Int), .int .i64 oC, .slice aa na acap] 183) := ⟨_, rfl⟩
    have hbk : bw.heap[w.heap.size]? = some (.cells #[.int .i64 oc, .int .i64 ol, .int .i64 oa, .int .i64 (k : Int), .int .i64 oC, .slice aa na acap] 183 (0, 0)) := by rw [hbw]; exact heap_alloc_new _ _
    have hbs : bw.heap.size = w.heap.size + 1 := by rw [hbw]; simp
    rw [← hbw] at hbb ⊢
    have hc2 : bw.cell? ⟨b, off + k * 5 + 2, none⟩ = some (.int .i64 yp) := (hbb.cell (p := ⟨b, off + k * 5 + 2, none⟩) hb).trans c2
    have hx3 : bw.cell? ⟨w.heap.size, 3, none⟩ = some (.int .i64 (k : Int)) := by simp [World.cell?, hbk]
    have hx5 : bw.cell? ⟨w.heap.size, 5, none⟩ = some (.slice aa na acap) := by simp [World.cell?, hbk]
    have HBK := hid hbk
    clear hbw c2 hbk
    cases q with
    | true =>
      have HF : Hid (callB p locals ⟨oc, ol, oa, (k : Int), oC, oargs⟩ = false) := by show _ = _; rw [HCC.out, HQ2.out]; rfl
      go_quiet (fail)
      go_wp2
      go_ret
      exact ⟨ret_bool HF.out.symm, below_drawn hbb nq⟩
    | false =>
      have HCD : Hid (callB p locals ⟨oc, ol, oa, (k : Int), oC, oargs⟩ = oargs.all fun n => withB n locals) := by show _ = _; rw [HCC.out, HQ2.out]; rfl
      clear HCC HQ2
      go_quiet (fail)
      have hbb' : Below w.heap.size w (bw.drewN nq) := below_drawn hbb nq
      have hbk' : (bw.drewN nq).heap[w.heap.size]? = some (.cells #[.int .i64 oc, .int .i64 ol, .int .i64 oa, .int .i64 (k : Int), .int .i64 oC, .slice aa na acap] 183 (0, 0)) := HBK.out
      have hbs' : (bw.drewN nq).heap.size = w.heap.size + 1 := hbs
      clear hbb HBK hbs hx3 hx5 hc2
      generalize bw.drewN nq = bq at *
      have HBK := hid hbk'
      clear hbk'
      go_wp2
      go_loopw [7, 8] (fun _ i wr => ∃ j : Nat, i = .int .i64 j ∧ j ≤ na ∧ ((oargs.take j).all fun n => withB n locals) = true ∧ Below bq.heap.size bq wr) (fun _ i _ => na - (intOf i).toNat)
      case atStart => exact ⟨0, rfl, by omega, rfl, Below.refl _ _⟩
      case round =>
        obtain ⟨j, rfl, hj, hal, hbel⟩ := hrel
        have HAL := hid hal
        clear hal
        have hkr := (hbel.block w.heap.size (by omega)).trans HBK.out
        have hx5 : wr.cell? ⟨w.heap.size, 5, none⟩ = some (.slice aa na acap) := by simp [World.cell?, hkr]
        have hbt := hbb'.trans (hbel.mono hbb'.size)
        clear hkr
        by_cases hlt : j < na
        · obtain ⟨xb, xoff, rfl, hcx⟩ := (hra.below hbt (Nat.le_refl _)).open (by omega)
          have hcj := hcx j hlt
          have hget : oargs[j]? = some (oargs.getD j 0) := by rw [List.getElem?_eq_getElem (by rw [← HNA.out]; exact hlt)]; simp [List.getD, List.getElem?_eq_getElem (show j < oargs.length by rw [← HNA.out]; exact hlt)]
          have hst := all_take_succ oargs j _ (fun n => withB n locals) hget
          rw [HAL.out, Bool.true_and] at hst
          obtain ⟨z, hz⟩ : ∃ z, z = oargs.getD j 0 := ⟨_, rfl⟩
          rw [← hz] at hcj hst
          have HW0 := within_any z locals
          obtain ⟨t, ht⟩ : ∃ t, t = withB z locals := ⟨_, rfl⟩
          rw [← ht] at HW0 hst
          have HW := hid HW0
          have HST := hid hst
          clear hst HW0 ht hz hget hcx hra
          cases t with
          | true =>
            go_wp2_with (go_at_call 139; refine (HW.out _).mono ?_; rintro e w' ⟨rfl, rfl⟩)
            go_roundw
            case rel => exact ⟨j + 1, by go_num, by omega, HST.out, hbel⟩
            case measure => simp [intOf]; omega
          | false =>
            have HF : Hid (callB p locals ⟨oc, ol, oa, (k : Int), oC, oargs⟩ = false) := by
              show _ = _
              rw [HCD.out]
              have h1 : oargs = oargs.take (j + 1) ++ oargs.drop (j + 1) := (List.take_append_drop _ _).symm
              rw [h1, List.all_append, HST.out, Bool.false_and]
            go_wp2_with (go_at_call 139; refine (HW.out _).mono ?_; rintro e w' ⟨rfl, rfl⟩)
            go_ret
            exact ⟨ret_bool HF.out.symm, hbt⟩
        · have HF : Hid (callB p locals ⟨oc, ol, oa, (k : Int), oC, oargs⟩ = true) := by
            show _ = _
            rw [HCD.out]
            have := HAL.out
            rw [List.take_of_length_le (by rw [← HNA.out]; omega)] at this
            exact this
          go_wp2
          go_ret
          exact ⟨ret_bool HF.out.symm, hbt⟩
end Go.Proofs.YtffnfjkjlmlonaaGreatDoor
