/- Plain mathematics of rolled: the spans of some values make a table of just these values; no program is spoken of. -/
import Derived.Test.YtooinlilplecpaaM1
import Derived.Test.YtooinlilplecpaaP1
namespace Go.Proofs.Ytooinlilplecpaa

/-- The spans of some values make a table of just these values. -/
theorem roll_ok : ∀ (n : Nat) (vs : List Int), vs.length = n → (∀ x ∈ vs, isV x = true) → wfN (rollL vs) (-1) ∧ sumS (rollL vs) = n ∧ unroll (rollL vs) = vs := by
  intro n
  induction n with
  | zero =>
    intro vs h _
    have : vs = [] := List.eq_nil_of_length_eq_zero h
    subst this
    exact ⟨trivial, rfl, rfl⟩
  | succ n ih =>
    intro vs h hv
    obtain ⟨us, x, rfl⟩ : ∃ us x, vs = us ++ [x] := by
      have hne : vs ≠ [] := by intro e; simp [e] at h
      exact ⟨vs.dropLast, vs.getLast hne, (List.dropLast_concat_getLast hne).symm⟩
    have hl : us.length = n := by simpa using h
    have hx : isV x = true := hv x (by simp)
    have hx' := of_decide_eq_true hx
    obtain ⟨h1, h2, h3⟩ := ih us hl (fun y hy => hv y (by simp [hy]))
    rw [rollL_snoc]
    cases n with
    | zero =>
      have : us = [] := List.eq_nil_of_length_eq_zero hl
      subst this
      exact ⟨⟨hx, by show x ≠ -1; omega, by show (1 : Int) ≤ 1; omega, trivial⟩, rfl, rfl⟩
    | succ n =>
      obtain ⟨pre, m, e, m1, _, _⟩ := roll_last n us hl
      rw [e] at h1 h2 h3 ⊢
      by_cases hxy : us.getD n 0 = x
      · rw [hxy] at h1 h2 h3 ⊢
        rw [rollStep_same]
        rw [wfN_snoc] at h1 ⊢
        rw [sumS_snoc] at h2 ⊢
        rw [unroll_snoc] at h3 ⊢
        refine ⟨⟨h1.1, h1.2.1, h1.2.2.1, by show 1 ≤ m + 1; omega⟩, by simp only at h2 ⊢; omega, ?_⟩
        have e2 : (m + 1).toNat = m.toNat + 1 := by omega
        simp only [e2] at h3 ⊢
        rw [List.replicate_succ', ← List.append_assoc, h3]
      · rw [rollStep_other _ _ _ _ hxy]
        rw [wfN_snoc, sumS_snoc, unroll_snoc, lastV_snoc]
        refine ⟨⟨h1, hx, fun e => hxy e.symm, by show (1 : Int) ≤ 1; omega⟩, by simp only at h2 ⊢; omega, ?_⟩
        rw [h3]; rfl

theorem atS_unroll : ∀ (l : List (Int × Int)) (b pc : Int), wfN l b → 0 ≤ pc → atS l pc = if pc.toNat < (unroll l).length then ((unroll l).getD pc.toNat 0, 0) else (0, 1)
  | [], b, pc, _, h => by simp [atS, unroll]
  | p :: t, b, pc, hw, h => by
    obtain ⟨hv, hvb, hn, hw2⟩ := hw
    have e : unroll (p :: t) = List.replicate p.2.toNat p.1 ++ unroll t := by simp [unroll]
    unfold atS
    by_cases hp : pc < p.2
    · rw [if_pos hp, if_pos (by rw [e]; simp; omega), e]
      have : pc.toNat < p.2.toNat := by omega
      simp [List.getD, List.getElem?_append, this]
    · rw [if_neg hp, atS_unroll t p.1 (pc - p.2) hw2 (by omega), e]
      have e2 : (pc - p.2).toNat = pc.toNat - p.2.toNat := by omega
      rw [e2]
      have hlen : (List.replicate p.2.toNat p.1 ++ unroll t).length = p.2.toNat + (unroll t).length := by simp
      rw [hlen]
      have hge : p.2.toNat ≤ pc.toNat := by omega
      by_cases h3 : pc.toNat - p.2.toNat < (unroll t).length
      · rw [if_pos h3, if_pos (by omega)]
        have : ¬ pc.toNat < p.2.toNat := by omega
        simp [List.getD, List.getElem?_append, this]
      · rw [if_neg h3, if_neg (by omega)]

theorem roll_wfT (vs : List Int) (hv : ∀ x ∈ vs, isV x = true) (h1 : 1 ≤ vs.length) (h2 : vs.length ≤ 1000) : wfT (rollL vs) = true := by
  obtain ⟨a, b, c⟩ := roll_ok vs.length vs rfl hv
  rw [wfT_iff]
  refine ⟨⟨a, by omega⟩, fun e => ?_⟩
  rw [e] at b
  simp [sumS] at b
  omega
theorem atT_roll (vs : List Int) (hv : ∀ x ∈ vs, isV x = true) (h1 : 1 ≤ vs.length) (h2 : vs.length ≤ 1000) (pc : Int) (hp : 0 ≤ pc) :
    atT (rollL vs) pc = if pc.toNat < vs.length then (vs.getD pc.toNat 0, 0) else (0, 1) := by
  obtain ⟨a, b, c⟩ := roll_ok vs.length vs rfl hv
  unfold atT
  rw [if_neg (by rw [roll_wfT vs hv h1 h2]; simp), if_neg (by omega), atS_unroll _ (-1) pc a hp, c]
theorem atT_roll_neg (vs : List Int) (hv : ∀ x ∈ vs, isV x = true) (h1 : 1 ≤ vs.length) (h2 : vs.length ≤ 1000) (pc : Int) (hp : pc < 0) : atT (rollL vs) pc = (0, 1) := by
  unfold atT
  rw [if_neg (by rw [roll_wfT vs hv h1 h2]; simp), if_pos hp]
end Go.Proofs.Ytooinlilplecpaa
