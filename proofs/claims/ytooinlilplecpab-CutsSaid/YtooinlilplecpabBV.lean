/- A known program that multiplies, as plain data, and its run; nothing is claimed of the program here. A known program whose function calls itself, as plain data, and its run; nothing is claimed of the program here. Contract of the law's own program that multiplies. -/
import Derived.Test.YtooinlilplecpabQ2
import Derived.Test.YtooinlilplecpabD12
namespace Go.Proofs.Ytooinlilplecpab
open Go.RowKit

def timesP : List FnD := [
  ⟨⟨#[109, 97, 105, 110]⟩, ⟨#[109]⟩, 2, 3, [⟨5, 1, 2, 1, 0, [0, 1]⟩, ⟨6, 2, 2, 0, 0, []⟩]⟩,
  ⟨⟨#[109, 117, 108]⟩, ⟨#[109]⟩, 2, 4, [⟨0, 3, 3, 1, 0, []⟩, ⟨4, 4, 1, 3, 0, []⟩, ⟨6, 5, 2, 0, 0, []⟩, ⟨5, 6, 2, 2, 0, [2, 0]⟩, ⟨2, 7, 1, 1, 3, []⟩, ⟨4, 8, 3, 1, 0, []⟩, ⟨6, 9, 2, 0, 0, []⟩]⟩,
  ⟨⟨#[97, 100, 100]⟩, ⟨#[110]⟩, 2, 3, [⟨1, 1, 2, 2, 0, []⟩, ⟨1, 2, 2, 2, 1, []⟩, ⟨6, 3, 2, 0, 0, []⟩]⟩]


theorem times_chk : chk timesP = (0, 0, 0) := by decide +kernel

theorem runD_add (p : List FnD) (s : StandD) (m : Nat) : ∀ n, runD p s (m + n) = runD p (runD p s m) n
  | 0 => rfl
  | n + 1 => by show nextD p (runD p s (m + n)) = nextD p (runD p (runD p s m) n); rw [runD_add p s m n]
theorem runD_one (p : List FnD) (s : StandD) : runD p s 1 = nextD p s := rfl


def mulAt (a y b acc : Int) : StandD := ⟨0, 0, [⟨0, 0, [a, y, 0]⟩, ⟨1, 1, [a, b, acc, 1]⟩]⟩

theorem times_in (a b : Int) : runD timesP (begunD timesP [a, b]) 2 = mulAt a b b 0 := rfl
theorem times_out (a y acc : Int) : runD timesP (mulAt a y 0 acc) 3 = ⟨1, acc, []⟩ := rfl
theorem times_round (a y b acc : Int) (hb : b ≠ 0) : runD timesP (mulAt a y b acc) 7 = mulAt a y ((b - 1) % 1000) (((0 + acc) % 1000 + a) % 1000) := by
  have h1 : nextD timesP (mulAt a y b acc) = ⟨0, 0, [⟨0, 0, [a, y, 0]⟩, ⟨1, 3, [a, b, acc, 1]⟩]⟩ := by
    show (⟨0, 0, [⟨0, 0, [a, y, 0]⟩] ++ [⟨1, if b = 0 then 1 + 1 else 3, [a, b, acc, 1]⟩]⟩ : StandD) = _
    rw [if_neg hb]
    rfl
  have h2 : nextD timesP ⟨0, 0, [⟨0, 0, [a, y, 0]⟩, ⟨1, 3, [a, b, acc, 1]⟩]⟩ = ⟨0, 0, [⟨0, 0, [a, y, 0]⟩, ⟨1, 3, [a, b, acc, 1]⟩, ⟨2, 0, [acc, a, 0]⟩]⟩ := rfl
  have h3 : nextD timesP ⟨0, 0, [⟨0, 0, [a, y, 0]⟩, ⟨1, 3, [a, b, acc, 1]⟩, ⟨2, 0, [acc, a, 0]⟩]⟩ = ⟨0, 0, [⟨0, 0, [a, y, 0]⟩, ⟨1, 3, [a, b, acc, 1]⟩, ⟨2, 1, [acc, a, (0 + acc) % 1000]⟩]⟩ := rfl
  have h4 : ∀ z : Int, nextD timesP ⟨0, 0, [⟨0, 0, [a, y, 0]⟩, ⟨1, 3, [a, b, acc, 1]⟩, ⟨2, 1, [acc, a, z]⟩]⟩ = ⟨0, 0, [⟨0, 0, [a, y, 0]⟩, ⟨1, 3, [a, b, acc, 1]⟩, ⟨2, 2, [acc, a, (z + a) % 1000]⟩]⟩ := fun _ => rfl
  have h5 : ∀ z : Int, nextD timesP ⟨0, 0, [⟨0, 0, [a, y, 0]⟩, ⟨1, 3, [a, b, acc, 1]⟩, ⟨2, 2, [acc, a, z]⟩]⟩ = ⟨0, 0, [⟨0, 0, [a, y, 0]⟩, ⟨1, 4, [a, b, z, 1]⟩]⟩ := fun _ => rfl
  have h6 : ∀ z : Int, nextD timesP ⟨0, 0, [⟨0, 0, [a, y, 0]⟩, ⟨1, 4, [a, b, z, 1]⟩]⟩ = ⟨0, 0, [⟨0, 0, [a, y, 0]⟩, ⟨1, 5, [a, (b - 1) % 1000, z, 1]⟩]⟩ := fun _ => rfl
  have h7 : ∀ u z : Int, nextD timesP ⟨0, 0, [⟨0, 0, [a, y, 0]⟩, ⟨1, 5, [a, u, z, 1]⟩]⟩ = mulAt a y u z := fun _ _ => rfl
  show nextD timesP (nextD timesP (nextD timesP (nextD timesP (nextD timesP (nextD timesP (nextD timesP (mulAt a y b acc))))))) = _
  rw [h1, h2, h3, h4, h5, h6, h7]

theorem times_loop (a y : Int) (ha : 0 ≤ a ∧ a < 1000) : ∀ (b : Nat) (acc : Int), b ≤ 200 → 0 ≤ acc ∧ acc < 1000 → runD timesP (mulAt a y b acc) (7 * b) = mulAt a y 0 ((acc + a * b) % 1000)
  | 0, acc, _, h => by
    show mulAt a y 0 acc = _
    congr 1
    simp
    omega
  | b + 1, acc, hb, h => by
    rw [show 7 * (b + 1) = 7 + 7 * b by omega, runD_add, times_round a y _ acc (by omega)]
    have e1 : (((b + 1 : Nat) : Int) - 1) % 1000 = (b : Int) := by omega
    have e2 : ((0 + acc) % 1000 + a) % 1000 = (acc + a) % 1000 := by omega
    rw [e1, e2, times_loop a y ha b _ (by omega) (by omega)]
    congr 1
    have e3 : a * ((b + 1 : Nat) : Int) = a * b + a := by rw [Int.natCast_add, Int.mul_add]; simp
    rw [e3]
    omega

theorem times_run (a : Int) (b : Nat) (ha : 0 ≤ a ∧ a < 1000) (hb : b ≤ 200) : runD timesP (begunD timesP [a, b]) (7 * b + 5) = ⟨1, a * b % 1000, []⟩ := by
  rw [show 7 * b + 5 = 2 + (7 * b + 3) by omega, runD_add, times_in, runD_add, times_loop a b ha b 0 hb (by omega), times_out]
  congr 1
  omega

theorem times_last (a : Int) (b : Nat) (ha : 0 ≤ a ∧ a < 1000) (hb : b ≤ 200) : (runD timesP (begunD timesP [a, b]) (7 * b + 4)).status = 0 := by
  rw [show 7 * b + 4 = 2 + (7 * b + 2) by omega, runD_add, times_in, runD_add, times_loop a b ha b 0 hb (by omega)]
  rfl
theorem takenD_all {P : List FnD} {s : StandD} : ∀ n, (∀ j, j < n → (runD P s j).status = 0) → takenD P s n = n
  | 0, _ => rfl
  | n + 1, h => takenD_go (h n (by omega)) (takenD_all n fun j hj => h j (by omega))
theorem takenD_at {P : List FnD} {s : StandD} {n m : Nat} (h1 : (runD P s n).status = 0) (h2 : (runD P s (n + 1)).status ≠ 0) (hm : n + 1 ≤ m) : takenD P s m = n + 1 := by
  rw [takenD_stop h2 m hm]
  refine takenD_all _ fun j hj => ?_
  refine Decidable.byContradiction fun hne => ?_
  have := runD_stop hne n (by omega)
  rw [this] at h1
  exact hne h1
theorem times_taken (a : Int) (b : Nat) (ha : 0 ≤ a ∧ a < 1000) (hb : b ≤ 200) : takenD timesP (begunD timesP [a, b]) 2000 = 7 * b + 5 :=
  takenD_at (times_last a b ha hb) (by rw [show 7 * b + 4 + 1 = 7 * b + 5 from rfl, times_run a b ha hb]; show (1 : Int) ≠ 0; decide) (by omega)
theorem times_end (a : Int) (b : Nat) (ha : 0 ≤ a ∧ a < 1000) (hb : b ≤ 200) : runD timesP (begunD timesP [a, b]) 2000 = ⟨1, a * b % 1000, []⟩ := by
  rw [runD_stop (j := 7 * b + 5) (by rw [times_run a b ha hb]; show (1 : Int) ≠ 0; decide) 2000 (by omega), times_run a b ha hb]
theorem times_codes : ∀ k : Fin 31, (codesD timesP (k.val : Int)).isSome = true := by decide +kernel
end Go.Proofs.Ytooinlilplecpab
namespace Go.Proofs.Ytooinlilplecpab
open Go.RowKit

theorem runD_four (p : List FnD) (s : StandD) : runD p s 4 = nextD p (nextD p (nextD p (nextD p s))) := rfl

def downP : List FnD := [
  ⟨⟨#[109, 97, 105, 110]⟩, ⟨#[109]⟩, 1, 1, [⟨5, 10, 0, 1, 0, [0]⟩, ⟨6, 20, 0, 0, 0, []⟩]⟩,
  ⟨⟨#[114, 101, 99]⟩, ⟨#[114]⟩, 1, 2, [⟨4, 30, 0, 2, 0, []⟩, ⟨6, 40, 0, 0, 0, []⟩, ⟨0, 50, 1, 1, 0, []⟩, ⟨2, 60, 0, 0, 1, []⟩, ⟨5, 70, 1, 1, 0, [0]⟩, ⟨6, 80, 1, 0, 0, []⟩]⟩]

/-- The frames of k calls of itself, of n at first. -/
def downI (n : Int) : Nat → List LiveD
  | 0 => [⟨0, 0, [n]⟩]
  | k + 1 => downI n k ++ [⟨1, 4, [n - k - 1, 1]⟩]
theorem downI_len (n : Int) : ∀ k, (downI n k).length = k + 1
  | 0 => rfl
  | k + 1 => by rw [downI, List.length_append, downI_len n k]; rfl

theorem top_jump (ini : List LiveD) (v : Int) (hv : v ≠ 0) : nextD downP ⟨0, 0, ini ++ [⟨1, 0, [v, 0]⟩]⟩ = ⟨0, 0, ini ++ [⟨1, 2, [v, 0]⟩]⟩ := by
  unfold nextD
  rw [if_neg (fun h => h rfl), List.getLast?_concat]
  dsimp only
  rw [List.dropLast_concat]
  show (⟨0, 0, ini ++ [⟨1, if v = 0 then 0 + 1 else 2, [v, 0]⟩]⟩ : StandD) = _
  rw [if_neg hv]
theorem top_set (ini : List LiveD) (v : Int) : nextD downP ⟨0, 0, ini ++ [⟨1, 2, [v, 0]⟩]⟩ = ⟨0, 0, ini ++ [⟨1, 3, [v, 1]⟩]⟩ := by
  unfold nextD
  rw [if_neg (fun h => h rfl), List.getLast?_concat]
  dsimp only
  rw [List.dropLast_concat]
  rfl
theorem top_sub (ini : List LiveD) (v : Int) : nextD downP ⟨0, 0, ini ++ [⟨1, 3, [v, 1]⟩]⟩ = ⟨0, 0, ini ++ [⟨1, 4, [(v - 1) % 1000, 1]⟩]⟩ := by
  unfold nextD
  rw [if_neg (fun h => h rfl), List.getLast?_concat]
  dsimp only
  rw [List.dropLast_concat]
  rfl
theorem top_call (ini : List LiveD) (v : Int) : nextD downP ⟨0, 0, ini ++ [⟨1, 4, [v, 1]⟩]⟩ = if ini.length + 1 = 20 then ⟨3, 0, ini ++ [⟨1, 4, [v, 1]⟩]⟩ else ⟨0, 0, ini ++ [⟨1, 4, [v, 1]⟩] ++ [⟨1, 0, [v, 0]⟩]⟩ := by
  unfold nextD
  rw [if_neg (fun h => h rfl), List.getLast?_concat]
  dsimp only
  rw [List.dropLast_concat]
  rfl

theorem down_go (n : Int) (hn : 19 ≤ n ∧ n < 1000) : ∀ k : Nat, k ≤ 18 → runD downP (begunD downP [n]) (1 + 4 * k) = ⟨0, 0, downI n k ++ [⟨1, 0, [n - k, 0]⟩]⟩
  | 0, _ => by
    show nextD downP (begunD downP [n]) = _
    have : begunD downP [n] = ⟨0, 0, [⟨0, 0, [n]⟩]⟩ := rfl
    rw [this]
    show (⟨0, 0, [⟨0, 0, [n]⟩] ++ [⟨1, 0, [n, 0]⟩]⟩ : StandD) = _
    simp [downI]
  | k + 1, hk => by
    rw [show 1 + 4 * (k + 1) = (1 + 4 * k) + 4 by omega, runD_add, down_go n hn k (by omega)]
    rw [runD_four, top_jump _ _ (by omega), top_set, top_sub, top_call, if_neg (by rw [downI_len]; omega)]
    have e : (n - (k : Int) - 1) % 1000 = n - k - 1 := by omega
    rw [e]
    have e2 : n - ((k + 1 : Nat) : Int) = n - k - 1 := by omega
    rw [e2]
    rfl

theorem down_deep (n : Int) (hn : 19 ≤ n ∧ n < 1000) : runD downP (begunD downP [n]) 77 = ⟨3, 0, downI n 19⟩ := by
  rw [show 77 = (1 + 4 * 18) + 4 from rfl, runD_add, down_go n hn 18 (by omega)]
  rw [runD_four, top_jump _ _ (by omega), top_set, top_sub, top_call, if_pos (by rw [downI_len])]
  have e : (n - ((18 : Nat) : Int) - 1) % 1000 = n - ((18 : Nat) : Int) - 1 := by omega
  rw [e]
  rfl
theorem down_end (n : Int) (hn : 19 ≤ n ∧ n < 1000) (m : Nat) (hm : 77 ≤ m) : runD downP (begunD downP [n]) m = ⟨3, 0, downI n 19⟩ := by
  rw [runD_stop (by rw [down_deep n hn]; show (3 : Int) ≠ 0; decide) m hm, down_deep n hn]
theorem down_done : ∀ n : Fin 19, (runD downP (begunD downP [(n.val : Int)]) 200).status = 1 ∧ (runD downP (begunD downP [(n.val : Int)]) 200).value = 0 ∧ (runD downP (begunD downP [(n.val : Int)]) 200).live.isEmpty = true := by decide +kernel
theorem down_short (n : Nat) (hn : n ≤ 18) (m : Nat) (hm : 200 ≤ m) : runD downP (begunD downP [(n : Int)]) m = ⟨1, 0, []⟩ := by
  obtain ⟨h1, h2, h3⟩ := down_done ⟨n, by omega⟩
  dsimp only at h1 h2 h3
  rw [runD_stop (by rw [h1]; decide) m hm]
  generalize runD downP (begunD downP [(n : Int)]) 200 = s at *
  obtain ⟨a, b, c⟩ := s
  dsimp only at h1 h2 h3
  rw [h1, h2, List.isEmpty_iff.1 h3]
theorem down_chk : chk downP = (0, 0, 0) := by decide +kernel
theorem down_codes : ∀ k : Fin 31, (codesD downP (k.val : Int)).isSome = true := by decide +kernel
end Go.Proofs.Ytooinlilplecpab
namespace Go.Proofs.Ytooinlilplecpab
open Go.RowKit

/-- A row of elements whose block is known whole. -/
theorem rdL_block {α : Type} {size : Nat} {R : World → List Value → α → Prop} {w : World} {b : Nat} {cur : Array Value} {t : TypeId} (hk : w.heap[b]? = some (.cells cur t (0, 0))) (l : List α) (css : List (List Value)) (hc : cur.toList = css.flatten) (hlen : css.length = l.length) (hs : ∀ c ∈ css, c.length = size) (hm : l.length ≤ maxLen)
    (hR : ∀ (i : Nat) (x : α) (c : List Value), l[i]? = some x → css[i]? = some c → R w c x) : RdL size R w (some ⟨b, 0, none⟩) l.length l.length l := by
  refine ⟨rfl, Nat.le_refl _, hm, fun i x hx => ?_⟩
  have hil := (List.getElem?_eq_some_iff.1 hx).1
  obtain ⟨c, hcx⟩ : ∃ c, css[i]? = some c := ⟨_, List.getElem?_eq_getElem (by omega)⟩
  have hcl := hs c (List.mem_of_getElem? hcx)
  refine ⟨b, 0, c, rfl, hcl, fun j v hv => ?_, hR i x c hx hcx⟩
  have hj : j < size := by have := (List.getElem?_eq_some_iff.1 hv).1; omega
  have hf := flatten_get size css i j hs (by omega) hj
  have hgd : css.getD i [] = c := by simp [List.getD, hcx]
  rw [hgd, hv, ← hc] at hf
  have hf2 : cur[i * size + j]? = some v := by rw [← hf]; simp
  simp [World.cell?, hk, hf2]
theorem rd_none (w : World) : Rd .i64 w none 0 0 [] := ⟨rfl, Nat.le_refl _, by unfold maxLen; omega, fun i h => by omega⟩
theorem rd_two {w : World} {b : Nat} {x y : Int} {t : TypeId} (hk : w.heap[b]? = some (.cells #[.int .i64 x, .int .i64 y] t (0, 0))) : Rd .i64 w (some ⟨b, 0, none⟩) 2 2 [x, y] := ⟨rfl, Nat.le_refl _, by unfold maxLen; omega, fun i hi => ⟨b, 0, rfl, by
  match i, hi with
  | 0, _ => simp [World.cell?, hk]
  | 1, _ => simp [World.cell?, hk]⟩⟩
theorem rd_one {w : World} {b : Nat} {x : Int} {t : TypeId} (hk : w.heap[b]? = some (.cells #[.int .i64 x] t (0, 0))) : Rd .i64 w (some ⟨b, 0, none⟩) 1 1 [x] := ⟨rfl, Nat.le_refl _, by unfold maxLen; omega, fun i hi => ⟨b, 0, rfl, by
  match i, hi with
  | 0, _ => simp [World.cell?, hk]⟩⟩
theorem op_none (w : World) (c l a b d : Int) : RdOp w [.int .i64 c, .int .i64 l, .int .i64 a, .int .i64 b, .int .i64 d, .slice none 0 0] ⟨c, l, a, b, d, []⟩ := ⟨none, 0, rfl, rd_none w⟩

theorem times_rd {w : World} {H1 H2 H4 H5 H7 H9 : Nat} {t1 t2 t4 t5 t7 t9 : TypeId}
    (k1 : w.heap[H1]? = some (.cells #[.int .i64 0, .int .i64 1] t1 (0, 0))) (k2 : w.heap[H2]? = some (.cells #[.int .i64 5, .int .i64 1, .int .i64 2, .int .i64 1, .int .i64 0, .slice (some ⟨H1, 0, none⟩) 2 2, .int .i64 6, .int .i64 2, .int .i64 2, .int .i64 0, .int .i64 0, .slice none 0 0] t2 (0, 0))) (k4 : w.heap[H4]? = some (.cells #[.int .i64 2, .int .i64 0] t4 (0, 0)))
    (k5 : w.heap[H5]? = some (.cells #[.int .i64 0, .int .i64 3, .int .i64 3, .int .i64 1, .int .i64 0, .slice none 0 0, .int .i64 4, .int .i64 4, .int .i64 1, .int .i64 3, .int .i64 0, .slice none 0 0, .int .i64 6, .int .i64 5, .int .i64 2, .int .i64 0, .int .i64 0, .slice none 0 0, .int .i64 5, .int .i64 6, .int .i64 2, .int .i64 2, .int .i64 0, .slice (some ⟨H4, 0, none⟩) 2 2, .int .i64 2, .int .i64 7, .int .i64 1, .int .i64 1, .int .i64 3, .slice none 0 0, .int .i64 4, .int .i64 8, .int .i64 3, .int .i64 1, .int .i64 0, .slice none 0 0, .int .i64 6, .int .i64 9, .int .i64 2, .int .i64 0, .int .i64 0, .slice none 0 0] t5 (0, 0))) (k7 : w.heap[H7]? = some (.cells #[.int .i64 1, .int .i64 1, .int .i64 2, .int .i64 2, .int .i64 0, .slice none 0 0, .int .i64 1, .int .i64 2, .int .i64 2, .int .i64 2, .int .i64 1, .slice none 0 0, .int .i64 6, .int .i64 3, .int .i64 2, .int .i64 0, .int .i64 0, .slice none 0 0] t7 (0, 0))) (k9 : w.heap[H9]? = some (.cells #[.string ⟨#[109, 97, 105, 110]⟩, .string ⟨#[109]⟩, .int .i64 2, .int .i64 3, .slice (some ⟨H2, 0, none⟩) 2 2, .string ⟨#[109, 117, 108]⟩, .string ⟨#[109]⟩, .int .i64 2, .int .i64 4, .slice (some ⟨H5, 0, none⟩) 7 7, .string ⟨#[97, 100, 100]⟩, .string ⟨#[110]⟩, .int .i64 2, .int .i64 3, .slice (some ⟨H7, 0, none⟩) 3 3] t9 (0, 0))) :
    RdP w (some ⟨H9, 0, none⟩) 3 3 timesP := by
  have b1 : RdL 6 RdOp w (some ⟨H2, 0, none⟩) 2 2 [⟨5, 1, 2, 1, 0, [0, 1]⟩, ⟨6, 2, 2, 0, 0, []⟩] := by
    refine rdL_block (α := OpD) (size := 6) (R := RdOp) k2 [⟨5, 1, 2, 1, 0, [0, 1]⟩, ⟨6, 2, 2, 0, 0, []⟩] [[.int .i64 5, .int .i64 1, .int .i64 2, .int .i64 1, .int .i64 0, .slice (some ⟨H1, 0, none⟩) 2 2], [.int .i64 6, .int .i64 2, .int .i64 2, .int .i64 0, .int .i64 0, .slice none 0 0]] rfl rfl (by intro c hc; simp at hc; rcases hc with rfl | rfl <;> rfl) (by simp [maxLen]) (fun i x c hx hc => ?_)
    match i, hx, hc with
    | 0, hx, hc => simp at hx hc; subst hx hc; exact ⟨_, _, rfl, rd_two k1⟩
    | 1, hx, hc => simp at hx hc; subst hx hc; exact op_none w _ _ _ _ _
    | i + 2, hx, _ => simp at hx
  have b2 : RdL 6 RdOp w (some ⟨H5, 0, none⟩) 7 7 [⟨0, 3, 3, 1, 0, []⟩, ⟨4, 4, 1, 3, 0, []⟩, ⟨6, 5, 2, 0, 0, []⟩, ⟨5, 6, 2, 2, 0, [2, 0]⟩, ⟨2, 7, 1, 1, 3, []⟩, ⟨4, 8, 3, 1, 0, []⟩, ⟨6, 9, 2, 0, 0, []⟩] := by
    refine rdL_block (α := OpD) (size := 6) (R := RdOp) k5 [⟨0, 3, 3, 1, 0, []⟩, ⟨4, 4, 1, 3, 0, []⟩, ⟨6, 5, 2, 0, 0, []⟩, ⟨5, 6, 2, 2, 0, [2, 0]⟩, ⟨2, 7, 1, 1, 3, []⟩, ⟨4, 8, 3, 1, 0, []⟩, ⟨6, 9, 2, 0, 0, []⟩] [[.int .i64 0, .int .i64 3, .int .i64 3, .int .i64 1, .int .i64 0, .slice none 0 0], [.int .i64 4, .int .i64 4, .int .i64 1, .int .i64 3, .int .i64 0, .slice none 0 0], [.int .i64 6, .int .i64 5, .int .i64 2, .int .i64 0, .int .i64 0, .slice none 0 0], [.int .i64 5, .int .i64 6, .int .i64 2, .int .i64 2, .int .i64 0, .slice (some ⟨H4, 0, none⟩) 2 2], [.int .i64 2, .int .i64 7, .int .i64 1, .int .i64 1, .int .i64 3, .slice none 0 0], [.int .i64 4, .int .i64 8, .int .i64 3, .int .i64 1, .int .i64 0, .slice none 0 0], [.int .i64 6, .int .i64 9, .int .i64 2, .int .i64 0, .int .i64 0, .slice none 0 0]] rfl rfl (by intro c hc; simp at hc; rcases hc with rfl | rfl | rfl | rfl | rfl | rfl | rfl <;> rfl) (by simp [maxLen]) (fun i x c hx hc => ?_)
    match i, hx, hc with
    | 0, hx, hc => simp at hx hc; subst hx hc; exact op_none w _ _ _ _ _
    | 1, hx, hc => simp at hx hc; subst hx hc; exact op_none w _ _ _ _ _
    | 2, hx, hc => simp at hx hc; subst hx hc; exact op_none w _ _ _ _ _
    | 3, hx, hc => simp at hx hc; subst hx hc; exact ⟨_, _, rfl, rd_two k4⟩
    | 4, hx, hc => simp at hx hc; subst hx hc; exact op_none w _ _ _ _ _
    | 5, hx, hc => simp at hx hc; subst hx hc; exact op_none w _ _ _ _ _
    | 6, hx, hc => simp at hx hc; subst hx hc; exact op_none w _ _ _ _ _
    | i + 7, hx, _ => simp at hx
  have b3 : RdL 6 RdOp w (some ⟨H7, 0, none⟩) 3 3 [⟨1, 1, 2, 2, 0, []⟩, ⟨1, 2, 2, 2, 1, []⟩, ⟨6, 3, 2, 0, 0, []⟩] := by
    refine rdL_block (α := OpD) (size := 6) (R := RdOp) k7 [⟨1, 1, 2, 2, 0, []⟩, ⟨1, 2, 2, 2, 1, []⟩, ⟨6, 3, 2, 0, 0, []⟩] [[.int .i64 1, .int .i64 1, .int .i64 2, .int .i64 2, .int .i64 0, .slice none 0 0], [.int .i64 1, .int .i64 2, .int .i64 2, .int .i64 2, .int .i64 1, .slice none 0 0], [.int .i64 6, .int .i64 3, .int .i64 2, .int .i64 0, .int .i64 0, .slice none 0 0]] rfl rfl (by intro c hc; simp at hc; rcases hc with rfl | rfl | rfl <;> rfl) (by simp [maxLen]) (fun i x c hx hc => ?_)
    match i, hx, hc with
    | 0, hx, hc => simp at hx hc; subst hx hc; exact op_none w _ _ _ _ _
    | 1, hx, hc => simp at hx hc; subst hx hc; exact op_none w _ _ _ _ _
    | 2, hx, hc => simp at hx hc; subst hx hc; exact op_none w _ _ _ _ _
    | i + 3, hx, _ => simp at hx
  refine rdL_block (α := FnD) (size := 5) (R := RdFn) k9 timesP [[.string ⟨#[109, 97, 105, 110]⟩, .string ⟨#[109]⟩, .int .i64 2, .int .i64 3, .slice (some ⟨H2, 0, none⟩) 2 2], [.string ⟨#[109, 117, 108]⟩, .string ⟨#[109]⟩, .int .i64 2, .int .i64 4, .slice (some ⟨H5, 0, none⟩) 7 7], [.string ⟨#[97, 100, 100]⟩, .string ⟨#[110]⟩, .int .i64 2, .int .i64 3, .slice (some ⟨H7, 0, none⟩) 3 3]] rfl rfl (by intro c hc; simp at hc; rcases hc with rfl | rfl | rfl <;> rfl) (by simp [maxLen, timesP]) (fun i x c hx hc => ?_)
  match i, hx, hc with
  | 0, hx, hc => simp [timesP] at hx hc; subst hx hc; exact ⟨_, _, rfl, b1, by unfold maxLen; decide, by unfold maxLen; decide⟩
  | 1, hx, hc => simp [timesP] at hx hc; subst hx hc; exact ⟨_, _, rfl, b2, by unfold maxLen; decide, by unfold maxLen; decide⟩
  | 2, hx, hc => simp [timesP] at hx hc; subst hx hc; exact ⟨_, _, rfl, b3, by unfold maxLen; decide, by unfold maxLen; decide⟩
  | i + 3, hx, _ => simp [timesP] at hx

set_option maxHeartbeats 4000000 in
set_option maxRecDepth 100000 in
theorem times_any (w : World) : Calls Try.prog 5 #[] w fun e w' => ∃ a cap, e = .returned (.agg #[.slice a 3 cap]) ∧ RdP w' a 3 cap timesP ∧ Below w.heap.size w w' := by
  go_enter Try.func5, Try.ntmps5
  go_wp2
  refine bodyPost_ret (v := .agg #[.slice (some ⟨w.heap.size + 1 + 1 + 1 + 1 + 1 + 1 + 1 + 1 + 1, 0, none⟩) 3 3]) (by simp [results, Try.results5, go_sem]) rfl ⟨_, _, rfl, ?_, ?_⟩
  · refine times_rd (t1 := 3) (t2 := 50) (t4 := 3) (t5 := 50) (t7 := 50) (t9 := 45) (H1 := w.heap.size + 1) (H2 := w.heap.size + 2) (H4 := w.heap.size + 4) (H5 := w.heap.size + 5) (H7 := w.heap.size + 7) (H9 := w.heap.size + 9) ?_ ?_ ?_ ?_ ?_ ?_
    · iterate 8 refine heap_at1 (by simp <;> omega) ?_
      exact heap_new_at (by simp)
    · iterate 7 refine heap_at1 (by simp <;> omega) ?_
      exact heap_new_at (by simp)
    · iterate 5 refine heap_at1 (by simp <;> omega) ?_
      exact heap_new_at (by simp)
    · iterate 4 refine heap_at1 (by simp <;> omega) ?_
      exact heap_new_at (by simp)
    · iterate 2 refine heap_at1 (by simp <;> omega) ?_
      exact heap_new_at (by simp)
    · exact heap_new_at (by simp)
  · exact ((((((((((Below.refl _ _).alloc (Nat.le_refl _) _).alloc (by simp) _).alloc (by simp; omega) _).alloc (by simp; omega) _).alloc (by simp; omega) _).alloc (by simp; omega) _).alloc (by simp; omega) _).alloc (by simp; omega) _).alloc (by simp; omega) _).alloc (by simp; omega) _
end Go.Proofs.Ytooinlilplecpab
