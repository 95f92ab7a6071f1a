/- Contracts of table.endsAt and table.getSpan: for whatever bytes and place they give what the plain functions of this text give; nothing that was there is written. The contract of table.Get: for whatever bytes and place it gives the spans, the place and the error that the plain function getT of this text gives; the spans lie in a row of the call's own; nothing that was there is written. -/
import Derived.Test.YtffnfjkjlmlonaaGreatDoorZB0
namespace Go.Proofs.YtffnfjkjlmlonaaGreatDoor
open Go.RowKit
theorem Rd.below {k : IntKind} {w w' : World} {a : Option Addr} {len cap : Nat} {zs : List Int} (h : Rd k w a len cap zs) {B : Nat} (hb : Below B w w') (hB : w.heap.size ≤ B) : Rd k w' a len cap zs := by
  refine ⟨h.hlen, h.hcap, h.hmax, fun i hi => ?_⟩
  obtain ⟨b, off, e, hc⟩ := h.cell i hi
  exact ⟨b, off, e, (hb.cell (p := ⟨b, off + i, none⟩) (by have := World.block_lt_of_cell? w _ hc; exact Nat.lt_of_lt_of_le this hB)).trans hc⟩
theorem getN_bd (bs : List Int) (at_ : Int) (h : (getN bs at_).2.2 = 0) : 0 ≤ (getN bs at_).1 ∧ (getN bs at_).1 ≤ 34359738368 ∧ 0 ≤ at_ ∧ at_ + 1 ≤ (getN bs at_).2.1 ∧ (getN bs at_).2.1 ≤ bs.length := by
  unfold getN at h ⊢
  by_cases h0 : at_ < 0 ∨ (bs.length : Int) < at_
  · rw [if_pos h0] at h; simp at h
  · rw [if_neg h0] at h ⊢
    simp only at h ⊢
    by_cases h1 : (wid 5 (bs.drop at_.toNat)).2 ≠ 0
    · rw [if_pos h1] at h; exact absurd h h1
    · rw [if_neg h1] at h ⊢
      have hb := wid_bd 5 (bs.drop at_.toNat) (by simpa using h1)
      rw [List.length_drop] at hb
      by_cases h2 : canonB ((bs.drop at_.toNat).take (wid 5 (bs.drop at_.toNat)).1.toNat) = true
      · rw [if_pos h2]
        have := valB_small ((bs.drop at_.toNat).take (wid 5 (bs.drop at_.toNat)).1.toNat) (by rw [List.length_take]; omega)
        refine ⟨by omega, by omega, by omega, by simp only; omega, by simp only; omega⟩
      · rw [if_neg h2] at h; simp at h
def endB (bs : List Int) (at_ : Int) : Bool := decide (0 ≤ at_ ∧ at_ < bs.length) && bs.getD at_.toNat 0 == 0
set_option maxHeartbeats 400000 in
theorem endsAt_any (a : Option Addr) (len cap : Nat) (bs : List Int) (at_ : Int) (w : World) (hr : Rd .u8 w a len cap bs) :
    Calls Tryz.prog 134 #[.slice a len cap, .int .i64 at_] w fun e w' => e = .returned (.bool (endB bs at_)) ∧ w' = w := by
  have HL := hid hr.hlen
  have hmax := hr.hmax
  have hcap := hr.hcap
  unfold maxLen at hmax
  by_cases h0 : 0 ≤ at_
  · by_cases h1 : at_ < (len : Int)
    · obtain ⟨n, rfl⟩ := Int.eq_ofNat_of_zero_le h0
      have hn : n < len := by omega
      obtain ⟨b, off, rfl, hc⟩ := hr.open (by omega)
      have hck := hc n hn
      obtain ⟨x, hx⟩ : ∃ x, bs.getD n 0 = x := ⟨_, rfl⟩
      have HF : Hid (endB bs (n : Int) = (x == 0)) := by
        show _ = _
        unfold endB; rw [HL.out]; simp only [Int.toNat_natCast, hx]; simp [hn]
      rw [hx] at hck
      clear hc hx hr
      go_enter Tryz.func134, Tryz.ntmps134
      go_wp2
      go_ret
      exact ⟨ret_bool HF.out.symm, rfl⟩
    · have h1' : decide (at_ < (len : Int)) = false := by simpa using h1
      have HF : Hid (endB bs at_ = false) := by show _ = _; unfold endB; rw [HL.out]; simp [h1]
      go_enter Tryz.func134, Tryz.ntmps134
      go_wp2
      go_ret
      exact ⟨ret_bool HF.out.symm, rfl⟩
  · have h0' : decide (0 ≤ at_) = false := by simpa using h0
    have HF : Hid (endB bs at_ = false) := by show _ = _; unfold endB; simp [h0]
    go_enter Tryz.func134, Tryz.ntmps134
    go_wp2
    go_ret
    exact ⟨ret_bool HF.out.symm, rfl⟩
/-- What table.getSpan gives: the span's Value and Len, the place behind it, the error. -/
def getSp (bs : List Int) (at_ before room : Int) : Int × Int × Int × Int :=
  let p := getN bs at_
  if p.2.2 ≠ 0 then (0, 0, 0, p.2.2) else
  if p.1 = 0 ∨ isV (before + zag p.1) = false then (0, 0, 0, 4) else
  let q := getN bs p.2.1
  if q.2.2 ≠ 0 then (0, 0, 0, q.2.2) else
  if q.1 = 0 ∨ room < q.1 then (0, 0, 0, 4) else (before + zag p.1, q.1, q.2.1, 0)
theorem ret_span {p : Int × Int × Int × Int} {a b c d : Int} (h : p = (a, b, c, d)) :
    Ending.returned (.tuple #[.agg #[.int .i64 a, .int .i64 b], .int .i64 c, .int .i64 d]) = .returned (.tuple #[.agg #[.int .i64 p.1, .int .i64 p.2.1], .int .i64 p.2.2.1, .int .i64 p.2.2.2]) := by rw [h]
theorem zag_bd (n : Int) (h1 : 0 ≤ n) (h2 : n ≤ 34359738368) : -34359738370 ≤ zag n ∧ zag n ≤ 34359738370 := by
  unfold zag; by_cases h : n % 2 = 0
  · rw [if_pos h]; omega
  · rw [if_neg h]; omega
set_option maxHeartbeats 1000000 in
set_option maxRecDepth 100000 in
theorem getSpan_any (a : Option Addr) (len cap : Nat) (bs : List Int) (at_ before room : Int) (w : World) (hr : Rd .u8 w a len cap bs) (hx : ∀ j, 0 ≤ bs.getD j 0 ∧ bs.getD j 0 ≤ 255)
    (hb1 : -1 ≤ before) (hb2 : before ≤ 9999) :
    Calls Tryz.prog 135 #[.slice a len cap, .int .i64 at_, .int .i64 before, .int .i64 room] w fun e w' =>
      e = .returned (.tuple #[.agg #[.int .i64 (getSp bs at_ before room).1, .int .i64 (getSp bs at_ before room).2.1], .int .i64 (getSp bs at_ before room).2.2.1, .int .i64 (getSp bs at_ before room).2.2.2]) ∧ Below w.heap.size w w' := by
  have hg : ∀ (W : World) (x : Int), Below w.heap.size w W → Calls Tryz.prog 78 #[.slice a len cap, .int .i64 x] W fun e w' => e = .returned (.tuple #[.int .i64 (getN bs x).1, .int .i64 (getN bs x).2.1, .int .i64 (getN bs x).2.2]) ∧ w' = W :=
    fun W x hb => get_any a len cap bs x W (hr.below hb (Nat.le_refl _)) hx
  obtain ⟨⟨n1, t1, e1⟩, hp⟩ : ∃ p, getN bs at_ = p := ⟨_, rfl⟩
  have hg1 := fun W => hg W at_
  rw [hp] at hg1
  by_cases he1 : e1 = 0
  · have hbd := getN_bd bs at_ (by rw [hp]; exact he1)
    rw [hp] at hbd
    simp only at hbd
    have hz := zag_bd n1 hbd.1 hbd.2.1
    have hn1 := hbd.1
    have hn2 := hbd.2.1
    have HT := hid (fun W => toSigned_any n1 W hn1 (by omega))
    subst he1
    by_cases hn0 : n1 = 0
    · have HF : Hid (getSp bs at_ before room = (0, 0, 0, 4)) := by show _ = _; unfold getSp; simp [hp, hn0]
      have HG := hid hg1
      clear hg hg1 hp hbd
      have hn0' : (n1 == 0) = true := by simpa using hn0
      clear hn0
      go_enter Tryz.func135, Tryz.ntmps135
      go_wp2_with (first | (go_at_call 78; refine (HG.out _ ?_).mono ?_; exact (Below.refl _ _).alloc (Nat.le_refl _) _; rintro e w' ⟨rfl, rfl⟩) | (go_at_call 185; refine (HT.out _).mono ?_; rintro e w' ⟨rfl, rfl⟩))
      exact bodyPost_ret (v := .tuple #[.agg #[.int .i64 0, .int .i64 0], .int .i64 0, .int .i64 4]) (by simp [results, Tryz.results135, go_sem]) rfl ⟨ret_span HF.out, (Below.refl _ _).alloc (Nat.le_refl _) _⟩
    · have hn0' : (n1 == 0) = false := by simpa using hn0
      obtain ⟨v, hv⟩ : ∃ v, v = before + zag n1 := ⟨_, rfl⟩
      have HV0 := fun W => isValue_any v W
      by_cases hiv : isV v = false
      · have HF : Hid (getSp bs at_ before room = (0, 0, 0, 4)) := by show _ = _; unfold getSp; simp [hp, ← hv, hiv]
        have HG := hid hg1
        rw [hiv] at HV0
        rw [hv] at HV0
        have HV := hid HV0
        clear hg hg1 hp hbd hn0 HV0 hiv hv
        go_enter Tryz.func135, Tryz.ntmps135
        go_wp2_with (first | (go_at_call 78; refine (HG.out _ ?_).mono ?_; exact (Below.refl _ _).alloc (Nat.le_refl _) _; rintro e w' ⟨rfl, rfl⟩) | (go_at_call 185; refine (HT.out _).mono ?_; rintro e w' ⟨rfl, rfl⟩) | (go_at_call 183; refine (HV.out _).mono ?_; rintro e w' ⟨rfl, rfl⟩))
        exact bodyPost_ret (v := .tuple #[.agg #[.int .i64 0, .int .i64 0], .int .i64 0, .int .i64 4]) (by simp [results, Tryz.results135, go_sem]) rfl ⟨ret_span HF.out, (Below.refl _ _).alloc (Nat.le_refl _) _⟩
      · have hiv' : isV v = true := by simpa using hiv
        obtain ⟨⟨n2, t2, e2⟩, hq⟩ : ∃ p, getN bs t1 = p := ⟨_, rfl⟩
        have hg2 := fun W => hg W t1
        rw [hq] at hg2
        have e3 : getSp bs at_ before room = if e2 ≠ 0 then (0, 0, 0, e2) else if n2 = 0 ∨ room < n2 then (0, 0, 0, 4) else (v, n2, t2, 0) := by
          unfold getSp; simp [hp, ← hv, hiv', hn0, hq]
        rw [hiv', hv] at HV0
        rw [hv] at e3
        have HV := hid HV0
        have HG1 := hid hg1
        have HG2 := hid hg2
        clear hg hg1 hg2 hp hbd hn0 HV0 hiv hiv' hq hv
        by_cases he2 : e2 = 0
        · subst he2
          by_cases hn2z : n2 = 0
          · have hn2' : (n2 == 0) = true := by simpa using hn2z
            have HF : Hid (getSp bs at_ before room = (0, 0, 0, 4)) := by show _ = _; rw [e3]; simp [hn2z]
            clear e3 hn2z
            go_enter Tryz.func135, Tryz.ntmps135
            go_wp2_with fail
            refine (HG1.out _ ((Below.refl _ _).alloc (Nat.le_refl _) _)).mono ?_
            rintro e w' ⟨rfl, rfl⟩
            go_wp2_with (first | (go_at_call 185; refine (HT.out _).mono ?_; rintro e w' ⟨rfl, rfl⟩) | (go_at_call 183; refine (HV.out _).mono ?_; rintro e w' ⟨rfl, rfl⟩))
            refine (HG2.out _ ((Below.refl _ _).alloc (Nat.le_refl _) _)).mono ?_
            rintro e w' ⟨rfl, rfl⟩
            go_wp2
            exact bodyPost_ret (v := .tuple #[.agg #[.int .i64 0, .int .i64 0], .int .i64 0, .int .i64 4]) (by simp [results, Tryz.results135, go_sem]) rfl ⟨ret_span HF.out, (Below.refl _ _).alloc (Nat.le_refl _) _⟩
          · have hn2' : (n2 == 0) = false := by simpa using hn2z
            by_cases hro : room < n2
            · have HF : Hid (getSp bs at_ before room = (0, 0, 0, 4)) := by show _ = _; rw [e3]; simp [hro]
              clear e3 hn2z
              go_enter Tryz.func135, Tryz.ntmps135
              go_wp2_with fail
              refine (HG1.out _ ((Below.refl _ _).alloc (Nat.le_refl _) _)).mono ?_
              rintro e w' ⟨rfl, rfl⟩
              go_wp2_with (first | (go_at_call 185; refine (HT.out _).mono ?_; rintro e w' ⟨rfl, rfl⟩) | (go_at_call 183; refine (HV.out _).mono ?_; rintro e w' ⟨rfl, rfl⟩))
              refine (HG2.out _ ((Below.refl _ _).alloc (Nat.le_refl _) _)).mono ?_
              rintro e w' ⟨rfl, rfl⟩
              go_wp2
              exact bodyPost_ret (v := .tuple #[.agg #[.int .i64 0, .int .i64 0], .int .i64 0, .int .i64 4]) (by simp [results, Tryz.results135, go_sem]) rfl ⟨ret_span HF.out, (Below.refl _ _).alloc (Nat.le_refl _) _⟩
            · have hro' : decide (room < n2) = false := by simpa using hro
              have HF : Hid (getSp bs at_ before room = (before + zag n1, n2, t2, 0)) := by show _ = _; rw [e3]; simp [hro, hn2z]
              clear e3 hn2z hro
              go_enter Tryz.func135, Tryz.ntmps135
              go_wp2_with fail
              refine (HG1.out _ ((Below.refl _ _).alloc (Nat.le_refl _) _)).mono ?_
              rintro e w' ⟨rfl, rfl⟩
              go_wp2_with (first | (go_at_call 185; refine (HT.out _).mono ?_; rintro e w' ⟨rfl, rfl⟩) | (go_at_call 183; refine (HV.out _).mono ?_; rintro e w' ⟨rfl, rfl⟩))
              refine (HG2.out _ ((Below.refl _ _).alloc (Nat.le_refl _) _)).mono ?_
              rintro e w' ⟨rfl, rfl⟩
              go_wp2
              exact bodyPost_ret (v := .tuple #[.agg #[.int .i64 (before + zag n1), .int .i64 n2], .int .i64 t2, .int .i64 0]) (by simp [results, Tryz.results135, go_sem]) rfl ⟨ret_span HF.out, (Below.refl _ _).alloc (Nat.le_refl _) _⟩
        · have he2' : (e2 != 0) = true := by simpa using he2
          have HF : Hid (getSp bs at_ before room = (0, 0, 0, e2)) := by show _ = _; rw [e3]; simp [he2]
          clear e3 he2
          go_enter Tryz.func135, Tryz.ntmps135
          go_wp2_with fail
          refine (HG1.out _ ((Below.refl _ _).alloc (Nat.le_refl _) _)).mono ?_
          rintro e w' ⟨rfl, rfl⟩
          go_wp2_with (first | (go_at_call 185; refine (HT.out _).mono ?_; rintro e w' ⟨rfl, rfl⟩) | (go_at_call 183; refine (HV.out _).mono ?_; rintro e w' ⟨rfl, rfl⟩))
          refine (HG2.out _ ((Below.refl _ _).alloc (Nat.le_refl _) _)).mono ?_
          rintro e w' ⟨rfl, rfl⟩
          go_wp2
          exact bodyPost_ret (v := .tuple #[.agg #[.int .i64 0, .int .i64 0], .int .i64 0, .int .i64 e2]) (by simp [results, Tryz.results135, go_sem]) rfl ⟨ret_span HF.out, (Below.refl _ _).alloc (Nat.le_refl _) _⟩
  · have he1' : (e1 != 0) = true := by simpa using he1
    have HF : Hid (getSp bs at_ before room = (0, 0, 0, e1)) := by show _ = _; unfold getSp; simp [hp, he1]
    have HG := hid hg1
    clear hg hg1 hp he1
    go_enter Tryz.func135, Tryz.ntmps135
    go_wp2_with (first | (go_at_call 78; refine (HG.out _ ?_).mono ?_; exact (Below.refl _ _).alloc (Nat.le_refl _) _; rintro e w' ⟨rfl, rfl⟩))
    exact bodyPost_ret (v := .tuple #[.agg #[.int .i64 0, .int .i64 0], .int .i64 0, .int .i64 e1]) (by simp [results, Tryz.results135, go_sem]) rfl ⟨ret_span HF.out, (Below.refl _ _).alloc (Nat.le_refl _) _⟩
end Go.Proofs.YtffnfjkjlmlonaaGreatDoor
namespace Go.Proofs.YtffnfjkjlmlonaaGreatDoor
open Go.RowKit
def flat (l : List (Int × Int)) : List Value := l.flatMap fun p => [.int .i64 p.1, .int .i64 p.2]
theorem flat_snoc (l : List (Int × Int)) (p : Int × Int) : flat (l ++ [p]) = flat l ++ [.int .i64 p.1, .int .i64 p.2] := by simp [flat]
theorem flat_len (l : List (Int × Int)) : (flat l).length = l.length * 2 := by
  induction l with
  | nil => rfl
  | cons p r ih => simp only [flat, List.flatMap_cons, List.length_append, List.length_cons, List.length_nil] at ih ⊢; omega
def getTF (bs : List Int) : Nat → List (Int × Int) → Int → Int → Int → List (Int × Int) × Int × Int
  | 0, _, _, _, _ => ([], 0, 4)
  | f + 1, acc, at_, before, room =>
    if acc ≠ [] ∧ endB bs at_ = true then (acc, at_ + 1, 0) else
    if (getSp bs at_ before room).2.2.2 ≠ 0 then ([], 0, (getSp bs at_ before room).2.2.2) else
    getTF bs f (acc ++ [((getSp bs at_ before room).1, (getSp bs at_ before room).2.1)]) (getSp bs at_ before room).2.2.1 (getSp bs at_ before room).1 (room - (getSp bs at_ before room).2.1)
theorem getTF_succ (bs : List Int) (f : Nat) (acc : List (Int × Int)) (at_ before room : Int) : getTF bs (f + 1) acc at_ before room =
    if acc ≠ [] ∧ endB bs at_ = true then (acc, at_ + 1, 0) else
    if (getSp bs at_ before room).2.2.2 ≠ 0 then ([], 0, (getSp bs at_ before room).2.2.2) else
    getTF bs f (acc ++ [((getSp bs at_ before room).1, (getSp bs at_ before room).2.1)]) (getSp bs at_ before room).2.2.1 (getSp bs at_ before room).1 (room - (getSp bs at_ before room).2.1) := rfl
def getT (bs : List Int) (at_ : Int) : List (Int × Int) × Int × Int :=
  if at_ < 0 ∨ (bs.length : Int) < at_ then ([], 0, 1) else getTF bs 1001 [] at_ (-1) 1000
theorem getSp_bd (bs : List Int) (at_ before room : Int) (h : (getSp bs at_ before room).2.2.2 = 0) :
    0 ≤ (getSp bs at_ before room).1 ∧ (getSp bs at_ before room).1 ≤ 9999 ∧ 1 ≤ (getSp bs at_ before room).2.1 ∧ (getSp bs at_ before room).2.1 ≤ room ∧
    at_ + 2 ≤ (getSp bs at_ before room).2.2.1 ∧ (getSp bs at_ before room).2.2.1 ≤ bs.length := by
  unfold getSp at h ⊢
  simp only at h ⊢
  by_cases h1 : (getN bs at_).2.2 ≠ 0
  · rw [if_pos h1] at h; exact absurd h h1
  · rw [if_neg h1] at h ⊢
    by_cases h2 : (getN bs at_).1 = 0 ∨ isV (before + zag (getN bs at_).1) = false
    · rw [if_pos h2] at h; simp at h
    · rw [if_neg h2] at h ⊢
      by_cases h3 : (getN bs (getN bs at_).2.1).2.2 ≠ 0
      · rw [if_pos h3] at h; exact absurd h h3
      · rw [if_neg h3] at h ⊢
        by_cases h4 : (getN bs (getN bs at_).2.1).1 = 0 ∨ room < (getN bs (getN bs at_).2.1).1
        · rw [if_pos h4] at h; simp at h
        · rw [if_neg h4]
          have b1 := getN_bd bs at_ (by simpa using h1)
          have b2 := getN_bd bs (getN bs at_).2.1 (by simpa using h3)
          have hv : isV (before + zag (getN bs at_).1) = true := by simpa using fun e => h2 (.inr e)
          unfold isV at hv
          have hv := of_decide_eq_true hv
          refine ⟨hv.1, hv.2, by simp only; omega, by simp only; omega, by simp only; omega, b2.2.2.2.2⟩
theorem owns_form {w : World} {base : Nat} {e : TypeId} {size : Nat} {v : Value} {n : Nat} {xs : List Value} (h : w.ownsRow base e size v n xs) : ∃ a cap, v = .slice a n cap ∧ n ≤ cap ∧ cap ≤ maxLen := by
  rcases h.2 with ⟨rfl, rfl⟩ | ⟨g, cap, cur, rfl, _, _, h1, h2, _⟩
  · exact ⟨none, 0, rfl, Nat.le_refl _, by unfold maxLen; omega⟩
  · exact ⟨_, cap, rfl, h1, h2⟩
theorem owns_below {w w' : World} {base : Nat} {e : TypeId} {size : Nat} {v : Value} {n : Nat} {xs : List Value} (h : w.ownsRow base e size v n xs) (hb : Below w.heap.size w w') : w'.ownsRow base e size v n xs := by
  refine ⟨h.1, ?_⟩
  rcases h.2 with hn | ⟨g, cap, cur, rfl, hg, hh, r⟩
  · exact .inl hn
  · exact .inr ⟨g, cap, cur, rfl, hg, (hb.block g (Array.getElem?_eq_some_iff.1 hh).1).trans hh, r⟩
theorem Tryz.infoSpan : (Tryz.prog.info? 109).map (fun i => (i.zero, i.size, i.bytes)) = some (some (.agg #[.int .i64 0, .int .i64 0]), 2, 16) := by kernel_rfl
/-- The relation of table.Get's loop. -/
def RelT (w : World) (bs : List Int) (at0 : Int) (at_ l before room : Value) (wr : World) : Prop :=
  ∃ (acc : List (Int × Int)) (f : Nat) (p b r : Int), at_ = .int .i64 p ∧ before = .int .i64 b ∧ room = .int .i64 r ∧
    getT bs at0 = getTF bs f acc p b r ∧ r.toNat < f ∧ 0 ≤ r ∧ (acc.length : Int) + r ≤ 1000 ∧ -1 ≤ b ∧ b ≤ 9999 ∧ 0 ≤ p ∧ p ≤ bs.length ∧
    wr.ownsRow w.heap.size 109 2 l acc.length (flat acc) ∧ Below w.heap.size w wr
set_option maxHeartbeats 1000000 in
set_option maxRecDepth 100000 in
theorem tget_any (a : Option Addr) (len cap : Nat) (bs : List Int) (at0 : Int) (w : World) (hr : Rd .u8 w a len cap bs) (hx : ∀ j, 0 ≤ bs.getD j 0 ∧ bs.getD j 0 ≤ 255) :
    Calls Tryz.prog 84 #[.slice a len cap, .int .i64 at0] w fun e w' =>
      ∃ v, e = .returned (.tuple #[v, .int .i64 (getT bs at0).2.1, .int .i64 (getT bs at0).2.2]) ∧
        w'.ownsRow w.heap.size 109 2 v (getT bs at0).1.length (flat (getT bs at0).1) ∧ Below w.heap.size w w' := by
  have HL := hid hr.hlen
  have hmax := hr.hmax
  have hcap := hr.hcap
  unfold maxLen at hmax
  by_cases h0 : at0 < 0
  · have HF : Hid (getT bs at0 = ([], 0, 1)) := by show _ = _; unfold getT; rw [if_pos (.inl h0)]
    go_enter Tryz.func84, Tryz.ntmps84
    go_wp2
    go_ret3
    rw [HF.out]
    exact ⟨_, rfl, World.ownsRow_nil _ _ _ _, Below.refl _ _⟩
  · have h0' : decide (at0 < 0) = false := by simpa using h0
    by_cases h1 : (len : Int) < at0
    · have HF : Hid (getT bs at0 = ([], 0, 1)) := by show _ = _; unfold getT; rw [if_pos (.inr (by rw [HL.out]; exact h1))]
      go_enter Tryz.func84, Tryz.ntmps84
      go_wp2
      go_ret3
      rw [HF.out]
      exact ⟨_, rfl, World.ownsRow_nil _ _ _ _, Below.refl _ _⟩
    · have h1' : decide ((len : Int) < at0) = false := by simpa using h1
      have HS : Hid (getT bs at0 = getTF bs 1001 [] at0 (-1) 1000) := by
        show _ = _; unfold getT; rw [if_neg (by rw [HL.out]; omega)]
      go_enter Tryz.func84, Tryz.ntmps84
      go_wp2
      go_loopw [1, 7, 8, 9] (fun p l b r wr => RelT w bs at0 p l b r wr) (fun _ _ _ r _ => (intOf r).toNat)
      case atStart => exact ⟨[], 1001, at0, -1, 1000, rfl, rfl, rfl, HS.out, by omega, by omega, by simp, by omega, by omega, by omega, by rw [HL.out]; omega, World.ownsRow_nil _ _ _ _, Below.refl _ _⟩
      case round =>
        clear HS h0 h0' h1 h1'
        obtain ⟨acc, f, p, b, r, rfl, rfl, rfl, hT, hrf, hr0, hacc, hb1, hb2, hp1, hp2, hown, hbel⟩ := hrel
        have HT := hid hT
        clear hT
        obtain ⟨la, lcap, rfl, hl1, hl2⟩ := owns_form hown
        have hrd := hr.below hbel (Nat.le_refl _)
        have HEND := hid (endsAt_any a len cap bs p wr hrd)
        have HSP := hid (getSpan_any a len cap bs p b r wr hrd hx hb1 hb2)
        have hrdW := hid hrd
        clear hr hrd
        obtain ⟨f, rfl⟩ : ∃ f', f = f' + 1 := ⟨f - 1, by omega⟩
        by_cases hend : acc ≠ [] ∧ endB bs p = true
        · have HF : Hid (getT bs at0 = (acc, p + 1, 0)) := by show _ = _; rw [HT.out, getTF_succ, if_pos hend]
          have hn : (0 : Int) < (acc.length : Int) := by have := List.length_pos_iff.2 hend.1; omega
          have he := hend.2
          have hp3 : p < (len : Int) := by
            unfold endB at he
            rw [Bool.and_eq_true] at he
            have := of_decide_eq_true he.1
            rw [HL.out] at this
            exact this.2
          rw [he] at HEND
          clear hend he HSP HT
          go_wp2_with (go_at_call 134; refine HEND.out.mono ?_; rintro e w' ⟨rfl, rfl⟩)
          go_ret3
          rw [HF.out]
          exact ⟨_, rfl, hown, hbel⟩
        · obtain ⟨⟨sv, sn, st, se⟩, hs⟩ : ∃ q, getSp bs p b r = q := ⟨_, rfl⟩
          rw [hs] at HSP
          have e1 : getT bs at0 = if se ≠ 0 then ([], 0, se) else getTF bs f (acc ++ [(sv, sn)]) st sv (r - sn) := by
            rw [HT.out, getTF_succ, if_neg hend, hs]
          by_cases hse : se = 0
          · have hbd := getSp_bd bs p b r (by rw [hs]; exact hse)
            rw [hs] at hbd
            simp only at hbd
            obtain ⟨d1, d2, d3, d4, d5, d6⟩ := hbd
            subst hse
            have HF : Hid (getT bs at0 = getTF bs f (acc ++ [(sv, sn)]) st sv (r - sn)) := by show _ = _; rw [e1]; simp
            clear e1 hs HT
            obtain ⟨i0, hi, hz0, hz1, hz2⟩ := info_parts Tryz.infoSpan
            have hp1' : -1 ≤ b := hb1
            clear hb1
            by_cases hacc0 : acc = []
            · subst hacc0
              clear hend HEND
              go_wp2_with (first | (go_at_call 135; refine HSP.out.mono ?_; rintro e w1 ⟨rfl, hb1⟩) | (at_builtin; refine wpList_append_own _ rfl (.tmp 44) (.tmp 46) 37 rfl w.heap.size 109 i0 (.agg #[.int .i64 0, .int .i64 0]) 2 16 Tryz.underlying37 hi hz0 hz1 hz2 rfl (by decide) _ _ _ rfl (((owns_below hown hb1).alloc _).alloc _) ⟨w1.heap.size + 1, 0, none⟩ 1 1 [.int .i64 sv, .int .i64 sn] rfl rfl ?c1 ?c2 ?c3 ?c4 ?c5 ?_))
              case c1 =>
                intro j u hj
                match j, hj with
                | 0, hj => simp at hj; subst hj; simp [Addr.add]
                | 1, hj => simp at hj; subst hj; simp [Addr.add]
              case c2 => intro u hu; simp at hu; rcases hu with rfl | rfl <;> rfl
              case c3 => unfold maxLen; omega
              case c4 => omega
              case c5 => have h1 := hbel.size; have h2 := hb1.size; simp; omega
              intro v' w2 hown' hgrow _
              have h1 := hbel.size
              have h2 := hb1.size
              have hb2' : Below w.heap.size w w2 := ((((hbel.trans (hb1.mono h1)).alloc (by omega) _).alloc (by simp; omega) _).grown hgrow (by simp; omega) (fun k hk => (hown.lt k hk).1))
              have hne : some w1.heap.size ≠ (Value.slice la 0 lcap).ownBlock := by
                intro h
                have := (hown.lt _ h.symm).2
                omega
              have hc0 : w2.cell? ⟨w1.heap.size, 0, none⟩ = some (.int .i64 sv) := hgrow.cell (a := ⟨w1.heap.size, 0, none⟩) (by simp) hne
              have hc1 : w2.cell? ⟨w1.heap.size, 1, none⟩ = some (.int .i64 sn) := hgrow.cell (a := ⟨w1.heap.size, 1, none⟩) (by simp) hne
              have HO := hid hown'
              clear hown' hgrow hown hb1 hbel hne
              go_wp2
              go_roundw
              case rel =>
                have HO2 := HO.out
                exact ⟨[] ++ [(sv, sn)], f, st, sv, r - sn, rfl, rfl, rfl, HF.out, by omega, by omega, by simp; omega, by omega, by omega, by omega, by omega, by rw [flat_snoc]; simpa using HO2, hb2'⟩
              case measure => simp [intOf]; omega
            · have hn : (0 : Int) < (acc.length : Int) := by have := List.length_pos_iff.2 hacc0; omega
              have he : endB bs p = false := by
                cases h : endB bs p with
                | true => exact absurd ⟨hacc0, h⟩ hend
                | false => rfl
              rw [he] at HEND
              clear hend he
              go_wp2_with (first | (go_at_call 134; refine HEND.out.mono ?_; rintro e w' ⟨rfl, rfl⟩) | (go_at_call 135; refine HSP.out.mono ?_; rintro e w1 ⟨rfl, hb1⟩) | (at_builtin; refine wpList_append_own _ rfl (.tmp 44) (.tmp 46) 37 rfl w.heap.size 109 i0 (.agg #[.int .i64 0, .int .i64 0]) 2 16 Tryz.underlying37 hi hz0 hz1 hz2 rfl (by decide) _ _ _ rfl (((owns_below hown hb1).alloc _).alloc _) ⟨w1.heap.size + 1, 0, none⟩ 1 1 [.int .i64 sv, .int .i64 sn] rfl rfl ?c1 ?c2 ?c3 ?c4 ?c5 ?_))
              case c1 =>
                intro j u hj
                match j, hj with
                | 0, hj => simp at hj; subst hj; simp [Addr.add]
                | 1, hj => simp at hj; subst hj; simp [Addr.add]
              case c2 => intro u hu; simp at hu; rcases hu with rfl | rfl <;> rfl
              case c3 => unfold maxLen; omega
              case c4 => omega
              case c5 => have h1 := hbel.size; have h2 := hb1.size; simp; omega
              intro v' w2 hown' hgrow _
              have h1 := hbel.size
              have h2 := hb1.size
              have hb2' : Below w.heap.size w w2 := ((((hbel.trans (hb1.mono h1)).alloc (by omega) _).alloc (by simp; omega) _).grown hgrow (by simp; omega) (fun k hk => (hown.lt k hk).1))
              have hne : some w1.heap.size ≠ (Value.slice la acc.length lcap).ownBlock := by
                intro h
                have := (hown.lt _ h.symm).2
                omega
              have hc0 : w2.cell? ⟨w1.heap.size, 0, none⟩ = some (.int .i64 sv) := hgrow.cell (a := ⟨w1.heap.size, 0, none⟩) (by simp) hne
              have hc1 : w2.cell? ⟨w1.heap.size, 1, none⟩ = some (.int .i64 sn) := hgrow.cell (a := ⟨w1.heap.size, 1, none⟩) (by simp) hne
              have HO := hid hown'
              clear hown' hgrow hown hb1 hbel hne
              go_wp2
              go_roundw
              case rel =>
                have HO2 := HO.out
                exact ⟨acc ++ [(sv, sn)], f, st, sv, r - sn, rfl, rfl, rfl, HF.out, by omega, by omega, by simp; omega, by omega, by omega, by omega, by omega, by rw [flat_snoc]; simpa using HO2, hb2'⟩
              case measure => simp [intOf]; omega
          · have HF : Hid (getT bs at0 = ([], 0, se)) := by show _ = _; rw [e1, if_pos hse]
            have hse' : (se != 0) = true := by simpa using hse
            clear e1 hs HT hse
            by_cases hacc0 : acc = []
            · subst hacc0
              clear hend HEND
              go_wp2_with (go_at_call 135; refine HSP.out.mono ?_; rintro e w1 ⟨rfl, hb1⟩)
              go_ret3
              rw [HF.out]
              exact ⟨_, rfl, World.ownsRow_nil _ _ _ _, hbel.trans ((hb1.mono hbel.size).alloc (Nat.le_trans hbel.size hb1.size) _)⟩
            · have hn : (0 : Int) < (acc.length : Int) := by have := List.length_pos_iff.2 hacc0; omega
              have he : endB bs p = false := by
                cases h : endB bs p with
                | true => exact absurd ⟨hacc0, h⟩ hend
                | false => rfl
              rw [he] at HEND
              clear hend he
              go_wp2_with (first | (go_at_call 134; refine HEND.out.mono ?_; rintro e w' ⟨rfl, rfl⟩) | (go_at_call 135; refine HSP.out.mono ?_; rintro e w1 ⟨rfl, hb1⟩))
              go_ret3
              rw [HF.out]
              exact ⟨_, rfl, World.ownsRow_nil _ _ _ _, hbel.trans ((hb1.mono hbel.size).alloc (Nat.le_trans hbel.size hb1.size) _)⟩
end Go.Proofs.YtffnfjkjlmlonaaGreatDoor
