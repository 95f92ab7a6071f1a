/- A known program whose function calls itself, as plain data, and its run; nothing is claimed of the program here. -/
import Derived.Test.YtooinlilplecpabQ2
import Derived.Test.YtooinlilplecpabV1
namespace Go.Proofs.Ytooinlilplecpab
open Go.RowKit

theorem runD_four (p : List FnD) (s : StandD) : runD p s 4 = nextD p (nextD p (nextD p (nextD p s))) := rfl

def downP : List FnD := [
  ⟨⟨#[109, 97, 105, 110]⟩, ⟨#[109]⟩, 1, 1, [⟨5, 10, 0, 1, 0, [0]⟩, ⟨6, 20, 0, 0, 0, []⟩]⟩,
  ⟨⟨#[114, 101, 99]⟩, ⟨#[114]⟩, 1, 2, [⟨4, 30, 0, 2, 0, []⟩, ⟨6, 40, 0, 0, 0, []⟩, ⟨0, 50, 1, 1, 0, []⟩, ⟨2, 60, 0, 0, 1, []⟩, ⟨5, 70, 1, 1, 0, [0]⟩, ⟨6, 80, 1, 0, 0, []⟩]⟩]

/-- The frames of k calls of itself, of n at first. -/
def downI (n : Int) : Nat → List LiveD
  | 0 => [⟨0, 0, [n]⟩]
  | k + 1 => downI n k ++ [⟨1, 4, [n - k - 1, 1]⟩]
theorem downI_len (n : Int) : ∀ k, (downI n k).length = k + 1
  | 0 => rfl
  | k + 1 => by rw [downI, List.length_append, downI_len n k]; rfl

theorem top_jump (ini : List LiveD) (v : Int) (hv : v ≠ 0) : nextD downP ⟨0, 0, ini ++ [⟨1, 0, [v, 0]⟩]⟩ = ⟨0, 0, ini ++ [⟨1, 2, [v, 0]⟩]⟩ := by
  unfold nextD
  rw [if_neg (fun h => h rfl), List.getLast?_concat]
  dsimp only
  rw [List.dropLast_concat]
  show (⟨0, 0, ini ++ [⟨1, if v = 0 then 0 + 1 else 2, [v, 0]⟩]⟩ : StandD) = _
  rw [if_neg hv]
theorem top_set (ini : List LiveD) (v : Int) : nextD downP ⟨0, 0, ini ++ [⟨1, 2, [v, 0]⟩]⟩ = ⟨0, 0, ini ++ [⟨1, 3, [v, 1]⟩]⟩ := by
  unfold nextD
  rw [if_neg (fun h => h rfl), List.getLast?_concat]
  dsimp only
  rw [List.dropLast_concat]
  rfl
theorem top_sub (ini : List LiveD) (v : Int) : nextD downP ⟨0, 0, ini ++ [⟨1, 3, [v, 1]⟩]⟩ = ⟨0, 0, ini ++ [⟨1, 4, [(v - 1) % 1000, 1]⟩]⟩ := by
  unfold nextD
  rw [if_neg (fun h => h rfl), List.getLast?_concat]
  dsimp only
  rw [List.dropLast_concat]
  rfl
theorem top_call (ini : List LiveD) (v : Int) : nextD downP ⟨0, 0, ini ++ [⟨1, 4, [v, 1]⟩]⟩ = if ini.length + 1 = 20 then ⟨3, 0, ini ++ [⟨1, 4, [v, 1]⟩]⟩ else ⟨0, 0, ini ++ [⟨1, 4, [v, 1]⟩] ++ [⟨1, 0, [v, 0]⟩]⟩ := by
  unfold nextD
  rw [if_neg (fun h => h rfl), List.getLast?_concat]
  dsimp only
  rw [List.dropLast_concat]
  rfl

theorem down_go (n : Int) (hn : 19 ≤ n ∧ n < 1000) : ∀ k : Nat, k ≤ 18 → runD downP (begunD downP [n]) (1 + 4 * k) = ⟨0, 0, downI n k ++ [⟨1, 0, [n - k, 0]⟩]⟩
  | 0, _ => by
    show nextD downP (begunD downP [n]) = _
    have : begunD downP [n] = ⟨0, 0, [⟨0, 0, [n]⟩]⟩ := rfl
    rw [this]
    show (⟨0, 0, [⟨0, 0, [n]⟩] ++ [⟨1, 0, [n, 0]⟩]⟩ : StandD) = _
    simp [downI]
  | k + 1, hk => by
    rw [show 1 + 4 * (k + 1) = (1 + 4 * k) + 4 by omega, runD_add, down_go n hn k (by omega)]
    rw [runD_four, top_jump _ _ (by omega), top_set, top_sub, top_call, if_neg (by rw [downI_len]; omega)]
    have e : (n - (k : Int) - 1) % 1000 = n - k - 1 := by omega
    rw [e]
    have e2 : n - ((k + 1 : Nat) : Int) = n - k - 1 := by omega
    rw [e2]
    rfl

theorem down_deep (n : Int) (hn : 19 ≤ n ∧ n < 1000) : runD downP (begunD downP [n]) 77 = ⟨3, 0, downI n 19⟩ := by
  rw [show 77 = (1 + 4 * 18) + 4 from rfl, runD_add, down_go n hn 18 (by omega)]
  rw [runD_four, top_jump _ _ (by omega), top_set, top_sub, top_call, if_pos (by rw [downI_len])]
  have e : (n - ((18 : Nat) : Int) - 1) % 1000 = n - ((18 : Nat) : Int) - 1 := by omega
  rw [e]
  rfl
theorem down_end (n : Int) (hn : 19 ≤ n ∧ n < 1000) (m : Nat) (hm : 77 ≤ m) : runD downP (begunD downP [n]) m = ⟨3, 0, downI n 19⟩ := by
  rw [runD_stop (by rw [down_deep n hn]; show (3 : Int) ≠ 0; decide) m hm, down_deep n hn]
theorem down_done : ∀ n : Fin 19, (runD downP (begunD downP [(n.val : Int)]) 200).status = 1 ∧ (runD downP (begunD downP [(n.val : Int)]) 200).value = 0 ∧ (runD downP (begunD downP [(n.val : Int)]) 200).live.isEmpty = true := by decide +kernel
theorem down_short (n : Nat) (hn : n ≤ 18) (m : Nat) (hm : 200 ≤ m) : runD downP (begunD downP [(n : Int)]) m = ⟨1, 0, []⟩ := by
  obtain ⟨h1, h2, h3⟩ := down_done ⟨n, by omega⟩
  dsimp only at h1 h2 h3
  rw [runD_stop (by rw [h1]; decide) m hm]
  generalize runD downP (begunD downP [(n : Int)]) 200 = s at *
  obtain ⟨a, b, c⟩ := s
  dsimp only at h1 h2 h3
  rw [h1, h2, List.isEmpty_iff.1 h3]
theorem down_chk : chk downP = (0, 0, 0) := by decide +kernel
theorem down_codes : ∀ k : Fin 31, (codesD downP (k.val : Int)).isSome = true := by decide +kernel
end Go.Proofs.Ytooinlilplecpab
