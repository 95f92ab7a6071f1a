/- Contracts of table.endsAt and table.getSpan: for whatever bytes and place they give what the plain functions of this text give; nothing that was there is written. -/
import Derived.Test.YtooinlilplecpaaGreatDoorW3
namespace Go.Proofs.YtooinlilplecpaaGreatDoor
open Go.RowKit

theorem Rd.below {k : IntKind} {w w' : World} {a : Option Addr} {len cap : Nat} {zs : List Int} (h : Rd k w a len cap zs) {B : Nat} (hb : Below B w w') (hB : w.heap.size ≤ B) : Rd k w' a len cap zs := by
  refine ⟨h.hlen, h.hcap, h.hmax, fun i hi => ?_⟩
  obtain ⟨b, off, e, hc⟩ := h.cell i hi
  exact ⟨b, off, e, (hb.cell (p := ⟨b, off + i, none⟩) (by have := World.block_lt_of_cell? w _ hc; exact Nat.lt_of_lt_of_le this hB)).trans hc⟩

theorem getN_bd (bs : List Int) (at_ : Int) (h : (getN bs at_).2.2 = 0) : 0 ≤ (getN bs at_).1 ∧ (getN bs at_).1 ≤ 34359738368 ∧ 0 ≤ at_ ∧ at_ + 1 ≤ (getN bs at_).2.1 ∧ (getN bs at_).2.1 ≤ bs.length := by
  unfold getN at h ⊢
  by_cases h0 : at_ < 0 ∨ (bs.length : Int) < at_
  · rw [if_pos h0] at h; simp at h
  · rw [if_neg h0] at h ⊢
    simp only at h ⊢
    by_cases h1 : (wid 5 (bs.drop at_.toNat)).2 ≠ 0
    · rw [if_pos h1] at h; exact absurd h h1
    · rw [if_neg h1] at h ⊢
      have hb := wid_bd 5 (bs.drop at_.toNat) (by simpa using h1)
      rw [List.length_drop] at hb
      by_cases h2 : canonB ((bs.drop at_.toNat).take (wid 5 (bs.drop at_.toNat)).1.toNat) = true
      · rw [if_pos h2]
        have := valB_small ((bs.drop at_.toNat).take (wid 5 (bs.drop at_.toNat)).1.toNat) (by rw [List.length_take]; omega)
        refine ⟨by omega, by omega, by omega, by simp only; omega, by simp only; omega⟩
      · rw [if_neg h2] at h; simp at h

def endB (bs : List Int) (at_ : Int) : Bool := decide (0 ≤ at_ ∧ at_ < bs.length) && bs.getD at_.toNat 0 == 0

set_option maxHeartbeats 400000 in
theorem endsAt_any (a : Option Addr) (len cap : Nat) (bs : List Int) (at_ : Int) (w : World) (hr : Rd .u8 w a len cap bs) :
    Calls Tryz.prog 139 #[.slice a len cap, .int .i64 at_] w fun e w' => e = .returned (.bool (endB bs at_)) ∧ w' = w := by
  have HL := hid hr.hlen
  have hmax := hr.hmax
  have hcap := hr.hcap
  unfold maxLen at hmax
  by_cases h0 : 0 ≤ at_
  · by_cases h1 : at_ < (len : Int)
    · obtain ⟨n, rfl⟩ := Int.eq_ofNat_of_zero_le h0
      have hn : n < len := by omega
      obtain ⟨b, off, rfl, hc⟩ := hr.open (by omega)
      have hck := hc n hn
      obtain ⟨x, hx⟩ : ∃ x, bs.getD n 0 = x := ⟨_, rfl⟩
      have HF : Hid (endB bs (n : Int) = (x == 0)) := by
        show _ = _
        unfold endB; rw [HL.out]; simp only [Int.toNat_natCast, hx]; simp [hn]
      rw [hx] at hck
      clear hc hx hr
      go_enter Tryz.func139, Tryz.ntmps139
      go_wp2
      go_ret
      exact ⟨ret_bool HF.out.symm, rfl⟩
    · have h1' : decide (at_ < (len : Int)) = false := by simpa using h1
      have HF : Hid (endB bs at_ = false) := by show _ = _; unfold endB; rw [HL.out]; simp [h1]
      go_enter Tryz.func139, Tryz.ntmps139
      go_wp2
      go_ret
      exact ⟨ret_bool HF.out.symm, rfl⟩
  · have h0' : decide (0 ≤ at_) = false := by simpa using h0
    have HF : Hid (endB bs at_ = false) := by show _ = _; unfold endB; simp [h0]
    go_enter Tryz.func139, Tryz.ntmps139
    go_wp2
    go_ret
    exact ⟨ret_bool HF.out.symm, rfl⟩

/-- What table.getSpan gives: the span's Value and Len, the place behind it, the error. -/
def getSp (bs : List Int) (at_ before room : Int) : Int × Int × Int × Int :=
  let p := getN bs at_
  if p.2.2 ≠ 0 then (0, 0, 0, p.2.2) else
  if p.1 = 0 ∨ isV (before + zag p.1) = false then (0, 0, 0, 4) else
  let q := getN bs p.2.1
  if q.2.2 ≠ 0 then (0, 0, 0, q.2.2) else
  if q.1 = 0 ∨ room < q.1 then (0, 0, 0, 4) else (before + zag p.1, q.1, q.2.1, 0)

theorem ret_span {p : Int × Int × Int × Int} {a b c d : Int} (h : p = (a, b, c, d)) :
    Ending.returned (.tuple #[.agg #[.int .i64 a, .int .i64 b], .int .i64 c, .int .i64 d]) = .returned (.tuple #[.agg #[.int .i64 p.1, .int .i64 p.2.1], .int .i64 p.2.2.1, .int .i64 p.2.2.2]) := by rw [h]

theorem zag_bd (n : Int) (h1 : 0 ≤ n) (h2 : n ≤ 34359738368) : -34359738370 ≤ zag n ∧ zag n ≤ 34359738370 := by
  unfold zag; by_cases h : n % 2 = 0
  · rw [if_pos h]; omega
  · rw [if_neg h]; omega

set_option maxHeartbeats 1000000 in
set_option maxRecDepth 100000 in
theorem getSpan_any (a : Option Addr) (len cap : Nat) (bs : List Int) (at_ before room : Int) (w : World) (hr : Rd .u8 w a len cap bs) (hx : ∀ j, 0 ≤ bs.getD j 0 ∧ bs.getD j 0 ≤ 255)
    (hb1 : -1 ≤ before) (hb2 : before ≤ 9999) :
    Calls Tryz.prog 140 #[.slice a len cap, .int .i64 at_, .int .i64 before, .int .i64 room] w fun e w' =>
      e = .returned (.tuple #[.agg #[.int .i64 (getSp bs at_ before room).1, .int .i64 (getSp bs at_ before room).2.1], .int .i64 (getSp bs at_ before room).2.2.1, .int .i64 (getSp bs at_ before room).2.2.2]) ∧ Below w.heap.size w w' := by
  have hg : ∀ (W : World) (x : Int), Below w.heap.size w W → Calls Tryz.prog 83 #[.slice a len cap, .int .i64 x] W fun e w' => e = .returned (.tuple #[.int .i64 (getN bs x).1, .int .i64 (getN bs x).2.1, .int .i64 (getN bs x).2.2]) ∧ w' = W :=
    fun W x hb => get_any a len cap bs x W (hr.below hb (Nat.le_refl _)) hx
  obtain ⟨⟨n1, t1, e1⟩, hp⟩ : ∃ p, getN bs at_ = p := ⟨_, rfl⟩
  have hg1 := fun W => hg W at_
  rw [hp] at hg1
  by_cases he1 : e1 = 0
  · have hbd := getN_bd bs at_ (by rw [hp]; exact he1)
    rw [hp] at hbd
    simp only at hbd
    have hz := zag_bd n1 hbd.1 hbd.2.1
    have hn1 := hbd.1
    have hn2 := hbd.2.1
    have HT := hid (fun W => toSigned_any n1 W hn1 (by omega))
    subst he1
    by_cases hn0 : n1 = 0
    · have HF : Hid (getSp bs at_ before room = (0, 0, 0, 4)) := by show _ = _; unfold getSp; simp [hp, hn0]
      have HG := hid hg1
      clear hg hg1 hp hbd
      have hn0' : (n1 == 0) = true := by simpa using hn0
      clear hn0
      go_enter Tryz.func140, Tryz.ntmps140
      go_wp2_with (first | (go_at_call 83; refine (HG.out _ ?_).mono ?_; exact (Below.refl _ _).alloc (Nat.le_refl _) _; rintro e w' ⟨rfl, rfl⟩) | (go_at_call 190; refine (HT.out _).mono ?_; rintro e w' ⟨rfl, rfl⟩))
      exact bodyPost_ret (v := .tuple #[.agg #[.int .i64 0, .int .i64 0], .int .i64 0, .int .i64 4]) (by simp [results, Tryz.results140, go_sem]) rfl ⟨ret_span HF.out, (Below.refl _ _).alloc (Nat.le_refl _) _⟩
    · have hn0' : (n1 == 0) = false := by simpa using hn0
      obtain ⟨v, hv⟩ : ∃ v, v = before + zag n1 := ⟨_, rfl⟩
      have HV0 := fun W => isValue_any v W
      by_cases hiv : isV v = false
      · have HF : Hid (getSp bs at_ before room = (0, 0, 0, 4)) := by show _ = _; unfold getSp; simp [hp, ← hv, hiv]
        have HG := hid hg1
        rw [hiv] at HV0
        rw [hv] at HV0
        have HV := hid HV0
        clear hg hg1 hp hbd hn0 HV0 hiv hv
        go_enter Tryz.func140, Tryz.ntmps140
        go_wp2_with (first | (go_at_call 83; refine (HG.out _ ?_).mono ?_; exact (Below.refl _ _).alloc (Nat.le_refl _) _; rintro e w' ⟨rfl, rfl⟩) | (go_at_call 190; refine (HT.out _).mono ?_; rintro e w' ⟨rfl, rfl⟩) | (go_at_call 188; refine (HV.out _).mono ?_; rintro e w' ⟨rfl, rfl⟩))
        exact bodyPost_ret (v := .tuple #[.agg #[.int .i64 0, .int .i64 0], .int .i64 0, .int .i64 4]) (by simp [results, Tryz.results140, go_sem]) rfl ⟨ret_span HF.out, (Below.refl _ _).alloc (Nat.le_refl _) _⟩
      · have hiv' : isV v = true := by simpa using hiv
        obtain ⟨⟨n2, t2, e2⟩, hq⟩ : ∃ p, getN bs t1 = p := ⟨_, rfl⟩
        have hg2 := fun W => hg W t1
        rw [hq] at hg2
        have e3 : getSp bs at_ before room = if e2 ≠ 0 then (0, 0, 0, e2) else if n2 = 0 ∨ room < n2 then (0, 0, 0, 4) else (v, n2, t2, 0) := by
          unfold getSp; simp [hp, ← hv, hiv', hn0, hq]
        rw [hiv', hv] at HV0
        rw [hv] at e3
        have HV := hid HV0
        have HG1 := hid hg1
        have HG2 := hid hg2
        clear hg hg1 hg2 hp hbd hn0 HV0 hiv hiv' hq hv
        by_cases he2 : e2 = 0
        · subst he2
          by_cases hn2z : n2 = 0
          · have hn2' : (n2 == 0) = true := by simpa using hn2z
            have HF : Hid (getSp bs at_ before room = (0, 0, 0, 4)) := by show _ = _; rw [e3]; simp [hn2z]
            clear e3 hn2z
            go_enter Tryz.func140, Tryz.ntmps140
            go_wp2_with fail
            refine (HG1.out _ ((Below.refl _ _).alloc (Nat.le_refl _) _)).mono ?_
            rintro e w' ⟨rfl, rfl⟩
            go_wp2_with (first | (go_at_call 190; refine (HT.out _).mono ?_; rintro e w' ⟨rfl, rfl⟩) | (go_at_call 188; refine (HV.out _).mono ?_; rintro e w' ⟨rfl, rfl⟩))
            refine (HG2.out _ ((Below.refl _ _).alloc (Nat.le_refl _) _)).mono ?_
            rintro e w' ⟨rfl, rfl⟩
            go_wp2
            exact bodyPost_ret (v := .tuple #[.agg #[.int .i64 0, .int .i64 0], .int .i64 0, .int .i64 4]) (by simp [results, Tryz.results140, go_sem]) rfl ⟨ret_span HF.out, (Below.refl _ _).alloc (Nat.le_refl _) _⟩
          · have hn2' : (n2 == 0) = false := by simpa using hn2z
            by_cases hro : room < n2
            · have HF : Hid (getSp bs at_ before room = (0, 0, 0, 4)) := by show _ = _; rw [e3]; simp [hro]
              clear e3 hn2z
              go_enter Tryz.func140, Tryz.ntmps140
              go_wp2_with fail
              refine (HG1.out _ ((Below.refl _ _).alloc (Nat.le_refl _) _)).mono ?_
              rintro e w' ⟨rfl, rfl⟩
              go_wp2_with (first | (go_at_call 190; refine (HT.out _).mono ?_; rintro e w' ⟨rfl, rfl⟩) | (go_at_call 188; refine (HV.out _).mono ?_; rintro e w' ⟨rfl, rfl⟩))
              refine (HG2.out _ ((Below.refl _ _).alloc (Nat.le_refl _) _)).mono ?_
              rintro e w' ⟨rfl, rfl⟩
              go_wp2
              exact bodyPost_ret (v := .tuple #[.agg #[.int .i64 0, .int .i64 0], .int .i64 0, .int .i64 4]) (by simp [results, Tryz.results140, go_sem]) rfl ⟨ret_span HF.out, (Below.refl _ _).alloc (Nat.le_refl _) _⟩
            · have hro' : decide (room < n2) = false := by simpa using hro
              have HF : Hid (getSp bs at_ before room = (before + zag n1, n2, t2, 0)) := by show _ = _; rw [e3]; simp [hro, hn2z]
              clear e3 hn2z hro
              go_enter Tryz.func140, Tryz.ntmps140
              go_wp2_with fail
              refine (HG1.out _ ((Below.refl _ _).alloc (Nat.le_refl _) _)).mono ?_
              rintro e w' ⟨rfl, rfl⟩
              go_wp2_with (first | (go_at_call 190; refine (HT.out _).mono ?_; rintro e w' ⟨rfl, rfl⟩) | (go_at_call 188; refine (HV.out _).mono ?_; rintro e w' ⟨rfl, rfl⟩))
              refine (HG2.out _ ((Below.refl _ _).alloc (Nat.le_refl _) _)).mono ?_
              rintro e w' ⟨rfl, rfl⟩
              go_wp2
              exact bodyPost_ret (v := .tuple #[.agg #[.int .i64 (before + zag n1), .int .i64 n2], .int .i64 t2, .int .i64 0]) (by simp [results, Tryz.results140, go_sem]) rfl ⟨ret_span HF.out, (Below.refl _ _).alloc (Nat.le_refl _) _⟩
        · have he2' : (e2 != 0) = true := by simpa using he2
          have HF : Hid (getSp bs at_ before room = (0, 0, 0, e2)) := by show _ = _; rw [e3]; simp [he2]
          clear e3 he2
          go_enter Tryz.func140, Tryz.ntmps140
          go_wp2_with fail
          refine (HG1.out _ ((Below.refl _ _).alloc (Nat.le_refl _) _)).mono ?_
          rintro e w' ⟨rfl, rfl⟩
          go_wp2_with (first | (go_at_call 190; refine (HT.out _).mono ?_; rintro e w' ⟨rfl, rfl⟩) | (go_at_call 188; refine (HV.out _).mono ?_; rintro e w' ⟨rfl, rfl⟩))
          refine (HG2.out _ ((Below.refl _ _).alloc (Nat.le_refl _) _)).mono ?_
          rintro e w' ⟨rfl, rfl⟩
          go_wp2
          exact bodyPost_ret (v := .tuple #[.agg #[.int .i64 0, .int .i64 0], .int .i64 0, .int .i64 e2]) (by simp [results, Tryz.results140, go_sem]) rfl ⟨ret_span HF.out, (Below.refl _ _).alloc (Nat.le_refl _) _⟩
  · have he1' : (e1 != 0) = true := by simpa using he1
    have HF : Hid (getSp bs at_ before room = (0, 0, 0, e1)) := by show _ = _; unfold getSp; simp [hp, he1]
    have HG := hid hg1
    clear hg hg1 hp he1
    go_enter Tryz.func140, Tryz.ntmps140
    go_wp2_with (first | (go_at_call 83; refine (HG.out _ ?_).mono ?_; exact (Below.refl _ _).alloc (Nat.le_refl _) _; rintro e w' ⟨rfl, rfl⟩))
    exact bodyPost_ret (v := .tuple #[.agg #[.int .i64 0, .int .i64 0], .int .i64 0, .int .i64 e1]) (by simp [results, Tryz.results140, go_sem]) rfl ⟨ret_span HF.out, (Below.refl _ _).alloc (Nat.le_refl _) _⟩
end Go.Proofs.YtooinlilplecpaaGreatDoor
