/- Contracts of number.Get, table.endsAt and table.getSpan: for whatever bytes and place they give what the plain functions of this text give; nothing that was there is written. -/
import Derived.Test.YtooinlilplecpaaGreatDoorW2
namespace Go.Proofs.YtooinlilplecpaaGreatDoor
open Go.RowKit

/-- 'b[l:h]' of a slice that is only read. -/
theorem Rd.cut {k : IntKind} {w : World} {a : Option Addr} {len cap : Nat} {zs : List Int} (h : Rd k w a len cap zs) (l : Nat) (hl : l ≤ len) :
    Rd k w (if cap = l then a else a.map (·.add (l * 1))) (len - l) (cap - l) (zs.drop l) := by
  refine ⟨by rw [List.length_drop, h.hlen], by have := h.hcap; omega, by have := h.hmax; omega, fun i hi => ?_⟩
  obtain ⟨b, off, rfl, hc⟩ := h.cell (l + i) (by omega)
  have hne : cap ≠ l := by have := h.hcap; omega
  refine ⟨b, off + l, by rw [if_neg hne]; simp [Addr.add], ?_⟩
  rw [show off + l + i = off + (l + i) by omega, hc]
  simp [List.getD]

theorem Rd.head {k : IntKind} {w : World} {a : Option Addr} {len cap : Nat} {zs : List Int} (h : Rd k w a len cap zs) (n : Nat) (hn : n ≤ len) :
    Rd k w a n cap (zs.take n) := by
  refine ⟨by rw [List.length_take, h.hlen]; omega, by have := h.hcap; omega, h.hmax, fun i hi => ?_⟩
  obtain ⟨b, off, e, hc⟩ := h.cell i (by omega)
  refine ⟨b, off, e, ?_⟩
  rw [hc]
  simp [List.getD, hi]

/-- What number.Get gives: the number, the place behind it, the error. -/
def getN (bs : List Int) (at_ : Int) : Int × Int × Int :=
  if at_ < 0 ∨ (bs.length : Int) < at_ then (0, 0, 1) else
  let r := bs.drop at_.toNat
  if (wid 5 r).2 ≠ 0 then (0, 0, (wid 5 r).2) else
  if canonB (r.take (wid 5 r).1.toNat) then (valB (r.take (wid 5 r).1.toNat), at_ + (wid 5 r).1, 0) else (0, 0, 3)

theorem ret_three {p : Int × Int × Int} {a b c : Int} (h : p = (a, b, c)) : Ending.returned (.tuple #[.int .i64 a, .int .i64 b, .int .i64 c]) = .returned (.tuple #[.int .i64 p.1, .int .i64 p.2.1, .int .i64 p.2.2]) := by rw [h]

theorem wid_bd : ∀ (f : Nat) (bs : List Int), (wid f bs).2 = 0 → 1 ≤ (wid f bs).1 ∧ (wid f bs).1 ≤ f ∧ (wid f bs).1 ≤ bs.length
  | 0, _, h => by simp [wid] at h
  | f + 1, [], h => by simp [wid] at h
  | f + 1, b :: r, h => by
    unfold wid at h ⊢
    by_cases hb : b < 128
    · simp [hb]; omega
    · by_cases h2 : (wid f r).2 = 0
      · have := wid_bd f r h2
        simp [hb, h2]; omega
      · simp [hb, h2] at h

theorem byte_drop (bs : List Int) (hx : ∀ j, 0 ≤ bs.getD j 0 ∧ bs.getD j 0 ≤ 255) (n m : Nat) : ∀ j, 0 ≤ ((bs.drop n).take m).getD j 0 ∧ ((bs.drop n).take m).getD j 0 ≤ 255 := by
  intro j
  by_cases h : j < m
  · have := hx (n + j)
    simpa [List.getD, List.getElem?_take, h] using this
  · simp [List.getD, List.getElem?_take, h]

set_option maxHeartbeats 400000 in
theorem get_any (a : Option Addr) (len cap : Nat) (bs : List Int) (at_ : Int) (w : World) (hr : Rd .u8 w a len cap bs) (hx : ∀ j, 0 ≤ bs.getD j 0 ∧ bs.getD j 0 ≤ 255) :
    Calls Tryz.prog 83 #[.slice a len cap, .int .i64 at_] w fun e w' => e = .returned (.tuple #[.int .i64 (getN bs at_).1, .int .i64 (getN bs at_).2.1, .int .i64 (getN bs at_).2.2]) ∧ w' = w := by
  have HL : Hid (bs.length = len) := hr.hlen
  have hmax := hr.hmax
  have hcap := hr.hcap
  unfold maxLen at hmax
  by_cases h0 : at_ < 0
  · have HF : Hid (getN bs at_ = (0, 0, 1)) := by show _ = _; unfold getN; rw [if_pos (.inl h0)]
    go_enter Tryz.func83, Tryz.ntmps83
    go_wp2
    go_ret3
    exact ⟨ret_three HF.out, rfl⟩
  · by_cases h1 : (len : Int) < at_
    · have HF : Hid (getN bs at_ = (0, 0, 1)) := by show _ = _; unfold getN; rw [if_pos (.inr (by rw [HL.out]; exact h1))]
      have h0' : decide (at_ < 0) = false := by simpa using h0
      go_enter Tryz.func83, Tryz.ntmps83
      go_wp2
      go_ret3
      exact ⟨ret_three HF.out, rfl⟩
    · have h0' : decide (at_ < 0) = false := by simpa using h0
      obtain ⟨n, rfl⟩ := Int.eq_ofNat_of_zero_le (show 0 ≤ at_ by omega)
      have hn : n ≤ len := by omega
      have hr0 := hr.cut n hn
      have h1' : decide ((len : Int) < (n : Int)) = false := by simp; omega
      have e0 : getN bs (n : Int) = if (wid 5 (bs.drop n)).2 ≠ 0 then (0, 0, (wid 5 (bs.drop n)).2) else if canonB ((bs.drop n).take (wid 5 (bs.drop n)).1.toNat) then (valB ((bs.drop n).take (wid 5 (bs.drop n)).1.toNat), (n : Int) + (wid 5 (bs.drop n)).1, 0) else (0, 0, 3) := by
        unfold getN
        rw [if_neg (by rw [HL.out]; omega)]
        rfl
      by_cases hcn : cap = n
      · subst hcn
        have hln : len = cap := by omega
        subst hln
        have e1 : bs.drop len = [] := List.drop_of_length_le (by rw [HL.out]; omega)
        have HF : Hid (getN bs (len : Int) = (0, 0, 2)) := by show _ = _; rw [e0, e1]; simp [wid]
        have hw0 := width_any a 0 0 [] w ⟨rfl, Nat.le_refl _, by unfold maxLen; omega, fun i hi => by omega⟩
        have HW := hid hw0
        clear hw0 e0 e1 hr0
        go_enter Tryz.func83, Tryz.ntmps83
        go_wp2_with (go_at_call 134; refine HW.out.mono ?_; rintro e w' ⟨rfl, rfl⟩; simp only [wid])
        go_ret3
        exact ⟨ret_three HF.out, rfl⟩
      · rw [if_neg hcn] at hr0
        simp only [Nat.mul_one] at hr0
        obtain ⟨r, hrd⟩ : ∃ r, r = bs.drop n := ⟨_, rfl⟩
        rw [← hrd] at e0 hr0
        obtain ⟨⟨s, er⟩, hw⟩ : ∃ p, wid 5 r = p := ⟨_, rfl⟩
        have hwc := width_any _ _ _ _ w hr0
        rw [hw] at hwc e0
        have hcn' : ¬ n = cap := by omega
        by_cases her : er = 0
        · have hbd := wid_bd 5 r (by rw [hw]; exact her)
          rw [hw, hr0.hlen] at hbd
          subst her
          obtain ⟨m, rfl⟩ := Int.eq_ofNat_of_zero_le (show 0 ≤ s by have := hbd.1; simp at this; omega)
          have hm1 : 1 ≤ m := by have := hbd.1; simp at this; omega
          have hm2 : m ≤ 5 := by have := hbd.2.1; simp at this; omega
          have hm3 : m ≤ len - n := by have := hbd.2.2; simp at this; omega
          have hro := hr0.head m hm3
          have HW := hid hwc
          have HC := hid (canonical_any _ _ _ _ w hro (by omega))
          have HV := hid (value_any _ _ _ _ w hro hm2 (by rw [hrd]; exact byte_drop bs hx n m))
          have e2 : getN bs (n : Int) = if canonB (r.take m) then (valB (r.take m), (n : Int) + m, 0) else (0, 0, 3) := by rw [e0]; simp
          clear e0 hr0 hwc hw hrd hbd hro hx
          have hm4 : m ≤ cap - n := by omega
          obtain ⟨cb, hcb⟩ : ∃ cb, canonB (r.take m) = cb := ⟨_, rfl⟩
          rw [hcb] at HC e2
          cases cb with
          | true =>
            have HF : Hid (getN bs (n : Int) = (valB (r.take m), (n : Int) + m, 0)) := by show _ = _; rw [e2]; simp
            clear e2 hcb
            obtain ⟨vv, hvv⟩ : ∃ vv, valB (r.take m) = vv := ⟨_, rfl⟩
            rw [hvv] at HV HF
            clear hvv
            go_enter Tryz.func83, Tryz.ntmps83
            go_wp2_with (first | (go_at_call 134; refine HW.out.mono ?_; rintro e w' ⟨rfl, rfl⟩) | (go_at_call 135; refine HC.out.mono ?_; rintro e w' ⟨rfl, rfl⟩) | (go_at_call 136; refine HV.out.mono ?_; rintro e w' ⟨rfl, rfl⟩))
            go_ret3
            exact ⟨ret_three HF.out, rfl⟩
          | false =>
            have HF : Hid (getN bs (n : Int) = (0, 0, 3)) := by show _ = _; rw [e2]; simp
            clear e2 hcb HV
            go_enter Tryz.func83, Tryz.ntmps83
            go_wp2_with (first | (go_at_call 134; refine HW.out.mono ?_; rintro e w' ⟨rfl, rfl⟩) | (go_at_call 135; refine HC.out.mono ?_; rintro e w' ⟨rfl, rfl⟩))
            go_ret3
            exact ⟨ret_three HF.out, rfl⟩
        · have HF : Hid (getN bs (n : Int) = (0, 0, er)) := by show _ = _; rw [e0, if_pos her]
          have HW := hid hwc
          have herb : (er != 0) = true := by simpa using her
          clear e0 hr0 hwc hw hrd her
          go_enter Tryz.func83, Tryz.ntmps83
          go_wp2_with (go_at_call 134; refine HW.out.mono ?_; rintro e w' ⟨rfl, rfl⟩)
          go_ret3
          exact ⟨ret_three HF.out, rfl⟩
end Go.Proofs.YtooinlilplecpaaGreatDoor
