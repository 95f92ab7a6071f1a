/- A known program that multiplies, as plain data, and its run; nothing is claimed of the program here. -/
import Derived.Test.YtooinlilplecpabQ2
import Derived.Test.YtooinlilplecpabD12
namespace Go.Proofs.Ytooinlilplecpab
open Go.RowKit

def timesP : List FnD := [
  ⟨⟨#[109, 97, 105, 110]⟩, ⟨#[109]⟩, 2, 3, [⟨5, 1, 2, 1, 0, [0, 1]⟩, ⟨6, 2, 2, 0, 0, []⟩]⟩,
  ⟨⟨#[109, 117, 108]⟩, ⟨#[109]⟩, 2, 4, [⟨0, 3, 3, 1, 0, []⟩, ⟨4, 4, 1, 3, 0, []⟩, ⟨6, 5, 2, 0, 0, []⟩, ⟨5, 6, 2, 2, 0, [2, 0]⟩, ⟨2, 7, 1, 1, 3, []⟩, ⟨4, 8, 3, 1, 0, []⟩, ⟨6, 9, 2, 0, 0, []⟩]⟩,
  ⟨⟨#[97, 100, 100]⟩, ⟨#[110]⟩, 2, 3, [⟨1, 1, 2, 2, 0, []⟩, ⟨1, 2, 2, 2, 1, []⟩, ⟨6, 3, 2, 0, 0, []⟩]⟩]


theorem times_chk : chk timesP = (0, 0, 0) := by decide +kernel

theorem runD_add (p : List FnD) (s : StandD) (m : Nat) : ∀ n, runD p s (m + n) = runD p (runD p s m) n
  | 0 => rfl
  | n + 1 => by show nextD p (runD p s (m + n)) = nextD p (runD p (runD p s m) n); rw [runD_add p s m n]
theorem runD_one (p : List FnD) (s : StandD) : runD p s 1 = nextD p s := rfl


def mulAt (a y b acc : Int) : StandD := ⟨0, 0, [⟨0, 0, [a, y, 0]⟩, ⟨1, 1, [a, b, acc, 1]⟩]⟩

theorem times_in (a b : Int) : runD timesP (begunD timesP [a, b]) 2 = mulAt a b b 0 := rfl
theorem times_out (a y acc : Int) : runD timesP (mulAt a y 0 acc) 3 = ⟨1, acc, []⟩ := rfl
theorem times_round (a y b acc : Int) (hb : b ≠ 0) : runD timesP (mulAt a y b acc) 7 = mulAt a y ((b - 1) % 1000) (((0 + acc) % 1000 + a) % 1000) := by
  have h1 : nextD timesP (mulAt a y b acc) = ⟨0, 0, [⟨0, 0, [a, y, 0]⟩, ⟨1, 3, [a, b, acc, 1]⟩]⟩ := by
    show (⟨0, 0, [⟨0, 0, [a, y, 0]⟩] ++ [⟨1, if b = 0 then 1 + 1 else 3, [a, b, acc, 1]⟩]⟩ : StandD) = _
    rw [if_neg hb]
    rfl
  have h2 : nextD timesP ⟨0, 0, [⟨0, 0, [a, y, 0]⟩, ⟨1, 3, [a, b, acc, 1]⟩]⟩ = ⟨0, 0, [⟨0, 0, [a, y, 0]⟩, ⟨1, 3, [a, b, acc, 1]⟩, ⟨2, 0, [acc, a, 0]⟩]⟩ := rfl
  have h3 : nextD timesP ⟨0, 0, [⟨0, 0, [a, y, 0]⟩, ⟨1, 3, [a, b, acc, 1]⟩, ⟨2, 0, [acc, a, 0]⟩]⟩ = ⟨0, 0, [⟨0, 0, [a, y, 0]⟩, ⟨1, 3, [a, b, acc, 1]⟩, ⟨2, 1, [acc, a, (0 + acc) % 1000]⟩]⟩ := rfl
  have h4 : ∀ z : Int, nextD timesP ⟨0, 0, [⟨0, 0, [a, y, 0]⟩, ⟨1, 3, [a, b, acc, 1]⟩, ⟨2, 1, [acc, a, z]⟩]⟩ = ⟨0, 0, [⟨0, 0, [a, y, 0]⟩, ⟨1, 3, [a, b, acc, 1]⟩, ⟨2, 2, [acc, a, (z + a) % 1000]⟩]⟩ := fun _ => rfl
  have h5 : ∀ z : Int, nextD timesP ⟨0, 0, [⟨0, 0, [a, y, 0]⟩, ⟨1, 3, [a, b, acc, 1]⟩, ⟨2, 2, [acc, a, z]⟩]⟩ = ⟨0, 0, [⟨0, 0, [a, y, 0]⟩, ⟨1, 4, [a, b, z, 1]⟩]⟩ := fun _ => rfl
  have h6 : ∀ z : Int, nextD timesP ⟨0, 0, [⟨0, 0, [a, y, 0]⟩, ⟨1, 4, [a, b, z, 1]⟩]⟩ = ⟨0, 0, [⟨0, 0, [a, y, 0]⟩, ⟨1, 5, [a, (b - 1) % 1000, z, 1]⟩]⟩ := fun _ => rfl
  have h7 : ∀ u z : Int, nextD timesP ⟨0, 0, [⟨0, 0, [a, y, 0]⟩, ⟨1, 5, [a, u, z, 1]⟩]⟩ = mulAt a y u z := fun _ _ => rfl
  show nextD timesP (nextD timesP (nextD timesP (nextD timesP (nextD timesP (nextD timesP (nextD timesP (mulAt a y b acc))))))) = _
  rw [h1, h2, h3, h4, h5, h6, h7]

theorem times_loop (a y : Int) (ha : 0 ≤ a ∧ a < 1000) : ∀ (b : Nat) (acc : Int), b ≤ 200 → 0 ≤ acc ∧ acc < 1000 → runD timesP (mulAt a y b acc) (7 * b) = mulAt a y 0 ((acc + a * b) % 1000)
  | 0, acc, _, h => by
    show mulAt a y 0 acc = _
    congr 1
    simp
    omega
  | b + 1, acc, hb, h => by
    rw [show 7 * (b + 1) = 7 + 7 * b by omega, runD_add, times_round a y _ acc (by omega)]
    have e1 : (((b + 1 : Nat) : Int) - 1) % 1000 = (b : Int) := by omega
    have e2 : ((0 + acc) % 1000 + a) % 1000 = (acc + a) % 1000 := by omega
    rw [e1, e2, times_loop a y ha b _ (by omega) (by omega)]
    congr 1
    have e3 : a * ((b + 1 : Nat) : Int) = a * b + a := by rw [Int.natCast_add, Int.mul_add]; simp
    rw [e3]
    omega

theorem times_run (a : Int) (b : Nat) (ha : 0 ≤ a ∧ a < 1000) (hb : b ≤ 200) : runD timesP (begunD timesP [a, b]) (7 * b + 5) = ⟨1, a * b % 1000, []⟩ := by
  rw [show 7 * b + 5 = 2 + (7 * b + 3) by omega, runD_add, times_in, runD_add, times_loop a b ha b 0 hb (by omega), times_out]
  congr 1
  omega

theorem times_last (a : Int) (b : Nat) (ha : 0 ≤ a ∧ a < 1000) (hb : b ≤ 200) : (runD timesP (begunD timesP [a, b]) (7 * b + 4)).status = 0 := by
  rw [show 7 * b + 4 = 2 + (7 * b + 2) by omega, runD_add, times_in, runD_add, times_loop a b ha b 0 hb (by omega)]
  rfl
theorem takenD_all {P : List FnD} {s : StandD} : ∀ n, (∀ j, j < n → (runD P s j).status = 0) → takenD P s n = n
  | 0, _ => rfl
  | n + 1, h => takenD_go (h n (by omega)) (takenD_all n fun j hj => h j (by omega))
theorem takenD_at {P : List FnD} {s : StandD} {n m : Nat} (h1 : (runD P s n).status = 0) (h2 : (runD P s (n + 1)).status ≠ 0) (hm : n + 1 ≤ m) : takenD P s m = n + 1 := by
  rw [takenD_stop h2 m hm]
  refine takenD_all _ fun j hj => ?_
  refine Decidable.byContradiction fun hne => ?_
  have := runD_stop hne n (by omega)
  rw [this] at h1
  exact hne h1
theorem times_taken (a : Int) (b : Nat) (ha : 0 ≤ a ∧ a < 1000) (hb : b ≤ 200) : takenD timesP (begunD timesP [a, b]) 2000 = 7 * b + 5 :=
  takenD_at (times_last a b ha hb) (by rw [show 7 * b + 4 + 1 = 7 * b + 5 from rfl, times_run a b ha hb]; show (1 : Int) ≠ 0; decide) (by omega)
theorem times_end (a : Int) (b : Nat) (ha : 0 ≤ a ∧ a < 1000) (hb : b ≤ 200) : runD timesP (begunD timesP [a, b]) 2000 = ⟨1, a * b % 1000, []⟩ := by
  rw [runD_stop (j := 7 * b + 5) (by rw [times_run a b ha hb]; show (1 : Int) ≠ 0; decide) 2000 (by omega), times_run a b ha hb]
theorem times_codes : ∀ k : Fin 31, (codesD timesP (k.val : Int)).isSome = true := by decide +kernel
end Go.Proofs.Ytooinlilplecpab
