/- Plain mathematics of numbers and tables: what is written is read back, a part that is cut off ends too early, a table of values tells each value; no program is spoken of. Images as plain data, how they lie in memory, and what Decode reads of some bytes, as plain functions; nothing is claimed of the program here. -/
import Derived.Test.YtffnfjkjlmlonaaGreatDoorZ13
import Derived.Test.YtffnfjkjlmlonaaGreatDoorZ9
namespace Go.Proofs.YtffnfjkjlmlonaaGreatDoor

theorem numF_wid : ∀ (f : Nat) (n : Int) (post : List Int), 0 ≤ n → n < lim f → wid (f + 1) (numF f n ++ post) = (((numF f n).length : Int), 0)
  | 0, n, post, h0, h1 => by
    have : n < 128 := h1
    simp [numF, wid, this]
  | f + 1, n, post, h0, h1 => by
    rw [numF_succ]
    by_cases h : n < 128
    · rw [if_pos h]; simp [wid, h]
    · rw [if_neg h]
      have ih := numF_wid f (n / 128) post (by omega) (lim_step f n h1)
      have hb : ¬ (n % 128 + 128 < 128) := by omega
      show wid ((f + 1) + 1) ((n % 128 + 128) :: (numF f (n / 128) ++ post)) = _
      unfold wid
      rw [if_neg hb, ih]
      simp

theorem numF_wid_cut : ∀ (f : Nat) (n : Int) (j : Nat), 0 ≤ n → j < (numF f n).length → wid (f + 1) ((numF f n).take j) = (0, 2)
  | 0, n, j, h0, h1 => by
    have : j = 0 := by simp [numF] at h1; omega
    subst this; rfl
  | f + 1, n, j, h0, h1 => by
    rw [numF_succ] at h1 ⊢
    by_cases h : n < 128
    · rw [if_pos h] at h1 ⊢
      have : j = 0 := by simp at h1; omega
      subst this; rfl
    · rw [if_neg h] at h1 ⊢
      cases j with
      | zero => rfl
      | succ j =>
        have ih := numF_wid_cut f (n / 128) j (by omega) (by simpa using h1)
        have hb : ¬ (n % 128 + 128 < 128) := by omega
        rw [List.take_succ_cons]
        unfold wid
        rw [if_neg hb, ih]
        rfl

theorem numF_val : ∀ (f : Nat) (n : Int), 0 ≤ n → n < lim f → valB (numF f n) = n
  | 0, n, h0, h1 => by
    have : n < 128 := h1
    simp [numF, valB]; omega
  | f + 1, n, h0, h1 => by
    rw [numF_succ]
    by_cases h : n < 128
    · rw [if_pos h]; simp [valB]; omega
    · rw [if_neg h]
      have ih := numF_val f (n / 128) (by omega) (lim_step f n h1)
      show valB (numF f (n / 128)) * 128 + (n % 128 + 128) % 128 = n
      rw [ih]; omega

def lastD (l : List Int) : Int := l.getD (l.length - 1) 0
theorem lastD_cons (x : Int) (l : List Int) (h : 1 ≤ l.length) : lastD (x :: l) = lastD l := by
  unfold lastD
  have e : (x :: l).length - 1 = (l.length - 1) + 1 := by simp; omega
  rw [e]; rfl
theorem numF_last : ∀ (f : Nat) (n : Int), 0 ≤ n → n < lim f → (128 ≤ n → 1 ≤ lastD (numF f n)) ∧ ((numF f n).length = f + 1 → lastD (numF f n) * 128 ^ f ≤ n) ∧ (n < 128 → (numF f n).length = 1)
  | 0, n, h0, h1 => by
    have : n < 128 := h1
    refine ⟨fun h => by omega, fun _ => by simp [numF, lastD], fun _ => rfl⟩
  | f + 1, n, h0, h1 => by
    rw [numF_succ]
    by_cases h : n < 128
    · rw [if_pos h]; exact ⟨fun h => by omega, fun h => by simp at h, fun _ => rfl⟩
    · rw [if_neg h]
      have ih := numF_last f (n / 128) (by omega) (lim_step f n h1)
      have hl := (numF_len f (n / 128)).1
      rw [lastD_cons _ _ hl]
      refine ⟨fun _ => ?_, fun hL => ?_, fun h' => by omega⟩
      · by_cases h2 : 128 ≤ n / 128
        · exact ih.1 h2
        · rw [numF_small f (n / 128) (by omega)]; simp [lastD]; omega
      · have := ih.2.1 (by simpa using hL)
        rw [Int.pow_succ, ← Int.mul_assoc]
        omega

theorem numB_canon (n : Int) (h0 : 0 ≤ n) (h1 : n ≤ 2147483647) : canonB (numB n) = true := by
  have hl := numB_len n
  have := numF_last 4 n h0 (by simp [lim]; omega)
  have e : (numB n).getD ((numB n).length - 1) 0 = lastD (numF 4 n) := rfl
  unfold canonB
  rw [e]
  have h2 : (decide (1 < (numB n).length) && lastD (numF 4 n) == 0) = false := by
    by_cases hn : 128 ≤ n
    · have := this.1 hn
      have : (lastD (numF 4 n) == 0) = false := by simp; omega
      simp [this]
    · have : (numB n).length = 1 := this.2.2 (by omega)
      simp [this]
  have h3 : (decide ((numB n).length < 5) || decide (lastD (numF 4 n) ≤ 7)) = true := by
    by_cases h5 : (numB n).length < 5
    · simp [h5]
    · have h6 : (numF 4 n).length = 4 + 1 := by
        have : (numB n).length = (numF 4 n).length := rfl
        omega
      have := this.2.1 h6
      have e4 : (128 : Int) ^ 4 = 268435456 := by decide
      rw [e4] at this
      have : lastD (numF 4 n) ≤ 7 := by omega
      simp [this]
  have h4 : ((numB n).length == 0) = false := beq_eq_false_iff_ne.2 (by omega)
  rw [h2, h3, h4]; rfl

theorem getN_at (pre rest : List Int) : getN (pre ++ rest) (pre.length : Int) =
    if (wid 5 rest).2 ≠ 0 then (0, 0, (wid 5 rest).2) else
    if canonB (rest.take (wid 5 rest).1.toNat) then (valB (rest.take (wid 5 rest).1.toNat), (pre.length : Int) + (wid 5 rest).1, 0) else (0, 0, 3) := by
  unfold getN
  rw [if_neg (by rw [List.length_append]; omega)]
  simp

/-- A number that was written is read. -/
theorem getN_put (pre post : List Int) (n : Int) (h0 : 0 ≤ n) (h1 : n ≤ 2147483647) : getN (pre ++ (numB n ++ post)) (pre.length : Int) = (n, ((pre ++ numB n).length : Int), 0) := by
  have hw := numF_wid 4 n post h0 (by simp [lim]; omega)
  have hw : wid 5 (numB n ++ post) = (((numB n).length : Int), 0) := hw
  rw [getN_at, hw]
  have e : List.take (((numB n).length : Int)).toNat (numB n ++ post) = numB n := by simp
  simp only [e, numB_canon n h0 h1]
  have := numF_val 4 n h0 (by simp [lim]; omega)
  have : valB (numB n) = n := this
  simp [this]

/-- A number that is cut off ends too early. -/
theorem getN_cut (pre : List Int) (n : Int) (j : Nat) (h0 : 0 ≤ n) (hj : j < (numB n).length) : getN (pre ++ (numB n).take j) (pre.length : Int) = (0, 0, 2) := by
  have hw : wid 5 ((numB n).take j) = (0, 2) := numF_wid_cut 4 n j h0 hj
  rw [getN_at, hw]
  simp

theorem zag_zig (d : Int) : zag (zig d) = d := by
  unfold zig
  by_cases h : 0 ≤ d
  · rw [if_pos h]; unfold zag; rw [if_pos (by omega)]; omega
  · rw [if_neg h]; unfold zag; rw [if_neg (by omega)]; omega
theorem zig_ne (d : Int) (h : d ≠ 0) : zig d ≠ 0 := by
  unfold zig
  by_cases h2 : 0 ≤ d
  · rw [if_pos h2]; omega
  · rw [if_neg h2]; omega

theorem getSp_put (pre post : List Int) (v b n r : Int) (hv : isV v = true) (hb1 : -1 ≤ b) (hb2 : b ≤ 9999) (hvb : v ≠ b) (hn : 1 ≤ n) (hn2 : n ≤ 1000) (hr : n ≤ r) :
    getSp (pre ++ (numB (zig (v - b)) ++ (numB n ++ post))) (pre.length : Int) b r = (v, n, (((pre ++ numB (zig (v - b))) ++ numB n).length : Int), 0) := by
  have hv' := of_decide_eq_true hv
  have hz := zig_bd (v - b) (by omega) (by omega)
  have e1 := getN_put pre (numB n ++ post) (zig (v - b)) hz.1 (by omega)
  have e2 := getN_put (pre ++ numB (zig (v - b))) post n (by omega) (by omega)
  rw [List.append_assoc] at e2
  unfold getSp
  simp only [e1, e2, zag_zig]
  have e3 : b + (v - b) = v := by omega
  have hz2 := zig_ne (v - b) (by omega)
  rw [e3, hv]
  have h5 : ¬ (n = 0 ∨ r < n) := by omega
  simp [hz2, h5]

theorem getSp_cut1 (pre : List Int) (v b r : Int) (j : Nat) (hz : 0 ≤ zig (v - b)) (hj : j < (numB (zig (v - b))).length) :
    getSp (pre ++ (numB (zig (v - b))).take j) (pre.length : Int) b r = (0, 0, 0, 2) := by
  unfold getSp
  simp [getN_cut pre (zig (v - b)) j hz hj]

theorem getSp_cut2 (pre : List Int) (v b n r : Int) (j : Nat) (hv : isV v = true) (hb1 : -1 ≤ b) (hb2 : b ≤ 9999) (hvb : v ≠ b) (hn : 0 ≤ n) (hj : j < (numB n).length) :
    getSp (pre ++ (numB (zig (v - b)) ++ (numB n).take j)) (pre.length : Int) b r = (0, 0, 0, 2) := by
  have hv' := of_decide_eq_true hv
  have hz := zig_bd (v - b) (by omega) (by omega)
  have e1 := getN_put pre ((numB n).take j) (zig (v - b)) hz.1 (by omega)
  have e2 := getN_cut (pre ++ numB (zig (v - b))) n j hn hj
  rw [List.append_assoc] at e2
  unfold getSp
  simp only [e1, e2, zag_zig]
  have e3 : b + (v - b) = v := by omega
  have hz2 := zig_ne (v - b) (by omega)
  rw [e3, hv]
  simp [hz2]

/-- The first byte of a number that is not 0 is not 0. -/
theorem numB_head (n : Int) (h : n ≠ 0) (post : List Int) : ((numB n) ++ post).getD 0 0 ≠ 0 := by
  show ((numF 4 n) ++ post).getD 0 0 ≠ 0
  rw [numF_succ]
  by_cases h1 : n < 128
  · rw [if_pos h1]; simpa using h
  · rw [if_neg h1]; simp; omega

theorem endB_at (pre rest : List Int) : endB (pre ++ rest) (pre.length : Int) = (decide (0 < rest.length) && rest.getD 0 0 == 0) := by
  unfold endB
  have e : (pre ++ rest).getD ((pre.length : Int)).toNat 0 = rest.getD 0 0 := by
    rw [Int.toNat_natCast]
    simp only [List.getD]
    rw [List.getElem?_append_right (Nat.le_refl _), Nat.sub_self]
  rw [e, List.length_append]
  congr 1
  exact decide_eq_decide.2 ⟨fun h => by omega, fun h => ⟨by omega, by omega⟩⟩

def sumS : List (Int × Int) → Int
  | [] => 0
  | p :: t => p.2 + sumS t
def wfN : List (Int × Int) → Int → Prop
  | [], _ => True
  | p :: t, b => isV p.1 = true ∧ p.1 ≠ b ∧ 1 ≤ p.2 ∧ wfN t p.1
theorem wfN_sum : ∀ (l : List (Int × Int)) (b : Int), wfN l b → (l.length : Int) ≤ sumS l
  | [], _, _ => by simp [sumS]
  | p :: t, b, h => by have := wfN_sum t p.1 h.2.2.2; have := h.2.2.1; simp [sumS]; omega
theorem wfS_iff : ∀ (l : List (Int × Int)) (b r : Int), 0 ≤ r → (wfS l b r = true ↔ wfN l b ∧ sumS l ≤ r)
  | [], b, r, h => by simp [wfS, wfN, sumS, h]
  | p :: t, b, r, h => by
    unfold wfS
    by_cases h1 : isV p.1 = false ∨ p.1 = b
    · rw [if_pos h1]
      constructor
      · intro h; cases h
      · rintro ⟨⟨a, b', _⟩, _⟩
        rcases h1 with h1 | h1
        · rw [h1] at a; cases a
        · exact absurd h1 b'
    · rw [if_neg h1]
      have hv : isV p.1 = true := by simpa using fun e => h1 (.inl e)
      have hb : p.1 ≠ b := fun e => h1 (.inr e)
      by_cases h2 : p.2 < 1 ∨ r < p.2
      · rw [if_pos h2]
        constructor
        · intro h; cases h
        · rintro ⟨⟨_, _, c, d⟩, e⟩
          have := wfN_sum t p.1 d
          simp only [sumS] at e
          omega
      · rw [if_neg h2, wfS_iff t p.1 (r - p.2) (by omega)]
        simp only [wfN, sumS]
        constructor
        · rintro ⟨a, c⟩; exact ⟨⟨hv, hb, by omega, a⟩, by omega⟩
        · rintro ⟨⟨_, _, _, a⟩, c⟩; exact ⟨a, by omega⟩

theorem putS_len (l : List (Int × Int)) (b : Int) : 1 ≤ (putS l b).length := by
  cases l with
  | nil => simp [putS]
  | cons p t => have := numB_len (zig (p.1 - b)); simp [putS]; omega

/-- A table that was written is read back. -/
theorem getTF_put : ∀ (l : List (Int × Int)) (pre : List Int) (acc : List (Int × Int)) (b r : Int) (f : Nat), wfN l b → -1 ≤ b → b ≤ 9999 → sumS l ≤ r → r ≤ 1000 → r.toNat < f → (l = [] → acc ≠ []) →
    getTF (pre ++ putS l b) f acc (pre.length : Int) b r = (acc ++ l, ((pre ++ putS l b).length : Int), 0)
  | [], pre, acc, b, r, f, _, _, _, _, _, hf, ha => by
    obtain ⟨f, rfl⟩ : ∃ f', f = f' + 1 := ⟨f - 1, by omega⟩
    rw [getTF_succ]
    have he : endB (pre ++ putS [] b) (pre.length : Int) = true := by rw [endB_at]; rfl
    rw [if_pos ⟨ha rfl, he⟩]
    simp [putS]
  | p :: t, pre, acc, b, r, f, hw, hb1, hb2, hs, hr, hf, ha => by
    obtain ⟨f, rfl⟩ : ∃ f', f = f' + 1 := ⟨f - 1, by omega⟩
    obtain ⟨hv, hvb, hn, hw2⟩ := hw
    have hv' := of_decide_eq_true hv
    have hsum := wfN_sum t p.1 hw2
    simp only [sumS] at hs
    have hz := zig_bd (p.1 - b) (by omega) (by omega)
    have he : endB (pre ++ putS (p :: t) b) (pre.length : Int) = false := by
      rw [endB_at]
      have := numB_head (zig (p.1 - b)) (zig_ne _ (by omega)) (numB p.2 ++ putS t p.1)
      have h2 : ((putS (p :: t) b).getD 0 0 == 0) = false := by simpa [putS] using this
      rw [h2]; simp
    rw [getTF_succ, if_neg (by rw [he]; simp)]
    have hsp := getSp_put pre (putS t p.1) p.1 b p.2 r hv hb1 hb2 hvb hn (by omega) (by omega)
    have e : pre ++ putS (p :: t) b = pre ++ (numB (zig (p.1 - b)) ++ (numB p.2 ++ putS t p.1)) := rfl
    rw [e, hsp]
    simp only [ne_eq, not_true_eq_false, if_false]
    have ih := getTF_put t (pre ++ numB (zig (p.1 - b)) ++ numB p.2) (acc ++ [p]) p.1 (r - p.2) f hw2 (by omega) (by omega) (by omega) (by omega) (by omega) (fun _ => by simp)
    have e2 : pre ++ (numB (zig (p.1 - b)) ++ (numB p.2 ++ putS t p.1)) = pre ++ numB (zig (p.1 - b)) ++ numB p.2 ++ putS t p.1 := by simp
    rw [e2, ih]
    simp

/-- A table that is cut off ends too early. -/
theorem getTF_cut : ∀ (l : List (Int × Int)) (pre : List Int) (acc : List (Int × Int)) (b r : Int) (f j : Nat), wfN l b → -1 ≤ b → b ≤ 9999 → sumS l ≤ r → r ≤ 1000 → r.toNat < f → j < (putS l b).length →
    getTF (pre ++ (putS l b).take j) f acc (pre.length : Int) b r = ([], 0, 2)
  | [], pre, acc, b, r, f, j, _, _, _, _, _, hf, hj => by
    obtain ⟨f, rfl⟩ : ∃ f', f = f' + 1 := ⟨f - 1, by omega⟩
    have : j = 0 := by simp [putS] at hj; omega
    subst this
    have he : endB (pre ++ (putS [] b).take 0) (pre.length : Int) = false := by rw [endB_at]; rfl
    rw [getTF_succ, if_neg (by rw [he]; simp)]
    have hg : getN (pre ++ (putS [] b).take 0) (pre.length : Int) = (0, 0, 2) := by rw [getN_at]; rfl
    have hs : getSp (pre ++ (putS [] b).take 0) (pre.length : Int) b r = (0, 0, 0, 2) := by unfold getSp; simp only [hg]; rfl
    rw [hs]; rfl
  | p :: t, pre, acc, b, r, f, j, hw, hb1, hb2, hs, hr, hf, hj => by
    obtain ⟨f, rfl⟩ : ∃ f', f = f' + 1 := ⟨f - 1, by omega⟩
    obtain ⟨hv, hvb, hn, hw2⟩ := hw
    have hv' := of_decide_eq_true hv
    have hsum := wfN_sum t p.1 hw2
    simp only [sumS] at hs
    have hz := zig_bd (p.1 - b) (by omega) (by omega)
    have hzn := zig_ne (p.1 - b) (by omega)
    have e : putS (p :: t) b = numB (zig (p.1 - b)) ++ (numB p.2 ++ putS t p.1) := rfl
    have he : endB (pre ++ (putS (p :: t) b).take j) (pre.length : Int) = false := by
      rw [endB_at]
      cases j with
      | zero => rfl
      | succ j =>
        have := numB_head (zig (p.1 - b)) hzn (numB p.2 ++ putS t p.1)
        have h2 : (((putS (p :: t) b).take (j + 1)).getD 0 0 == 0) = false := by
          rw [e]
          have h3 : ((numB (zig (p.1 - b)) ++ (numB p.2 ++ putS t p.1)).take (j + 1)).getD 0 0 = (numB (zig (p.1 - b)) ++ (numB p.2 ++ putS t p.1)).getD 0 0 := by
            simp [List.getD]
          rw [h3]; simpa using this
        rw [h2]; simp
    rw [getTF_succ, if_neg (by rw [he]; simp)]
    obtain ⟨A, hA⟩ : ∃ A, A = numB (zig (p.1 - b)) := ⟨_, rfl⟩
    obtain ⟨B, hB⟩ : ∃ B, B = numB p.2 := ⟨_, rfl⟩
    by_cases h1 : j < A.length
    · have e1 : (putS (p :: t) b).take j = (numB (zig (p.1 - b))).take j := by
        rw [e, List.take_append_of_le_length (by rw [← hA]; omega)]
      rw [e1, getSp_cut1 pre p.1 b r j hz.1 (by rw [← hA]; exact h1)]
      rfl
    · by_cases h2 : j < A.length + B.length
      · have e1 : (putS (p :: t) b).take j = numB (zig (p.1 - b)) ++ (numB p.2).take (j - A.length) := by
          rw [e, List.take_append, List.take_of_length_le (by rw [← hA]; omega), ← hA, List.take_append_of_le_length (by rw [← hB]; omega)]
        rw [e1, getSp_cut2 pre p.1 b p.2 r (j - A.length) hv hb1 hb2 hvb (by omega) (by rw [← hB]; omega)]
        rfl
      · have e1 : (putS (p :: t) b).take j = numB (zig (p.1 - b)) ++ (numB p.2 ++ (putS t p.1).take (j - A.length - B.length)) := by
          rw [e, List.take_append, List.take_of_length_le (by rw [← hA]; omega), ← hA, List.take_append, List.take_of_length_le (l := numB p.2) (by rw [← hB]; omega), ← hB]
        have hsp := getSp_put pre ((putS t p.1).take (j - A.length - B.length)) p.1 b p.2 r hv hb1 hb2 hvb hn (by omega) (by omega)
        rw [e1, hsp]
        simp only [ne_eq, not_true_eq_false, if_false]
        have hj2 : j - A.length - B.length < (putS t p.1).length := by
          rw [e, List.length_append, List.length_append, ← hA, ← hB] at hj; omega
        have ih := getTF_cut t (pre ++ numB (zig (p.1 - b)) ++ numB p.2) (acc ++ [p]) p.1 (r - p.2) f (j - A.length - B.length) hw2 (by omega) (by omega) (by omega) (by omega) (by omega) hj2
        have e2 : pre ++ (numB (zig (p.1 - b)) ++ (numB p.2 ++ (putS t p.1).take (j - A.length - B.length))) = pre ++ numB (zig (p.1 - b)) ++ numB p.2 ++ (putS t p.1).take (j - A.length - B.length) := by simp
        rw [e2, ih]

theorem wfT_iff (l : List (Int × Int)) : wfT l = true ↔ (wfN l (-1) ∧ sumS l ≤ 1000) ∧ l ≠ [] := by
  unfold wfT
  rw [Bool.and_eq_true, wfS_iff l (-1) 1000 (by omega)]
  simp [List.length_pos_iff]

theorem getT_put (l : List (Int × Int)) (h : wfT l = true) : getT (putS l (-1)) 0 = (l, ((putS l (-1)).length : Int), 0) := by
  obtain ⟨⟨h1, h2⟩, h3⟩ := (wfT_iff l).1 h
  have := getTF_put l [] [] (-1) 1000 1001 h1 (by omega) (by omega) h2 (by omega) (by omega) (fun e => absurd e h3)
  unfold getT
  rw [if_neg (by omega)]
  simpa using this
theorem getT_cut (l : List (Int × Int)) (h : wfT l = true) (j : Nat) (hj : j < (putS l (-1)).length) : getT ((putS l (-1)).take j) 0 = ([], 0, 2) := by
  obtain ⟨⟨h1, h2⟩, h3⟩ := (wfT_iff l).1 h
  have := getTF_cut l [] [] (-1) 1000 1001 j h1 (by omega) (by omega) h2 (by omega) (by omega) hj
  unfold getT
  rw [if_neg (by omega)]
  simpa using this

theorem putS_last : ∀ (l : List (Int × Int)) (b : Int), ∃ pre, putS l b = pre ++ [0]
  | [], b => ⟨[], rfl⟩
  | p :: t, b => by
    obtain ⟨pre, e⟩ := putS_last t p.1
    exact ⟨numB (zig (p.1 - b)) ++ (numB p.2 ++ pre), by simp [putS, e]⟩

theorem numF_byte : ∀ (f : Nat) (n : Int), 0 ≤ n → n < lim f → ∀ x ∈ numF f n, 0 ≤ x ∧ x ≤ 255
  | 0, n, h0, h1, x, hx => by
    have : n < 128 := h1
    simp [numF] at hx; omega
  | f + 1, n, h0, h1, x, hx => by
    rw [numF_succ] at hx
    by_cases h : n < 128
    · rw [if_pos h] at hx; simp at hx; omega
    · rw [if_neg h] at hx
      rcases List.mem_cons.1 hx with rfl | hx
      · omega
      · exact numF_byte f (n / 128) (by omega) (lim_step f n h1) x hx
theorem putS_byte : ∀ (l : List (Int × Int)) (b : Int), wfN l b → -1 ≤ b → b ≤ 9999 → sumS l ≤ 1000 → ∀ x ∈ putS l b, 0 ≤ x ∧ x ≤ 255
  | [], b, _, _, _, _, x, hx => by simp [putS] at hx; omega
  | p :: t, b, hw, h1, h2, hs, x, hx => by
    obtain ⟨hv, hvb, hn, hw2⟩ := hw
    have hv' := of_decide_eq_true hv
    have hsum := wfN_sum t p.1 hw2
    simp only [sumS] at hs
    have hz := zig_bd (p.1 - b) (by omega) (by omega)
    simp only [putS, List.mem_append] at hx
    rcases hx with hx | hx | hx
    · exact numF_byte 4 _ hz.1 (by simp [lim]; omega) x hx
    · exact numF_byte 4 _ (by omega) (by simp [lim]; omega) x hx
    · exact putS_byte t p.1 hw2 (by omega) (by omega) (by omega) x hx
theorem getD_of_mem (l : List Int) (h : ∀ x ∈ l, 0 ≤ x ∧ x ≤ 255) : ∀ j, 0 ≤ l.getD j 0 ∧ l.getD j 0 ≤ 255 := by
  intro j
  by_cases hj : j < l.length
  · have := h l[j] (List.getElem_mem hj)
    simpa [List.getD, hj] using this
  · simp [List.getD, hj]

def unroll (l : List (Int × Int)) : List Int := l.flatMap fun p => List.replicate p.2.toNat p.1
theorem unroll_snoc (l : List (Int × Int)) (p : Int × Int) : unroll (l ++ [p]) = unroll l ++ List.replicate p.2.toNat p.1 := by simp [unroll]
theorem sumS_snoc (l : List (Int × Int)) (p : Int × Int) : sumS (l ++ [p]) = sumS l + p.2 := by
  induction l with
  | nil => simp [sumS]
  | cons q t ih => simp only [List.cons_append, sumS, ih]; omega
def lastV : List (Int × Int) → Int → Int
  | [], b => b
  | p :: t, _ => lastV t p.1
theorem lastV_snoc : ∀ (l : List (Int × Int)) (p : Int × Int) (b : Int), lastV (l ++ [p]) b = p.1
  | [], _, _ => rfl
  | _ :: t, p, _ => lastV_snoc t p _
theorem wfN_snoc : ∀ (l : List (Int × Int)) (p : Int × Int) (b : Int), wfN (l ++ [p]) b ↔ wfN l b ∧ isV p.1 = true ∧ p.1 ≠ lastV l b ∧ 1 ≤ p.2
  | [], p, b => by simp [wfN, lastV]
  | q :: t, p, b => by
    simp only [List.cons_append, wfN, lastV, wfN_snoc t p q.1]
    constructor
    · rintro ⟨a, b, c, d, e⟩; exact ⟨⟨a, b, c, d⟩, e⟩
    · rintro ⟨⟨a, b, c, d⟩, e⟩; exact ⟨a, b, c, d, e⟩

end Go.Proofs.YtffnfjkjlmlonaaGreatDoor
namespace Go.Proofs.YtffnfjkjlmlonaaGreatDoor
open Go.RowKit

structure EntD where
  name : ByteArray
  file : ByteArray
  lines : List (Int × Int)
  index : List (Int × Int)
  tree : List (Int × Int)

/-- Where a reader is: the place of the next item, the place behind it, the error, what was read, how many pcs are left. -/
structure RsD where
  at_ : Int
  to_ : Int
  e : Int
  names : List ByteArray
  files : List ByteArray
  room : Int

def rTake (s : RsD) (b : Bool) : RsD := if s.e ≠ 0 then s else if b = true then { s with at_ := s.to_ } else { s with e := 8 }
def rNum (bs : List Int) (s : RsD) : Int × RsD := if s.e ≠ 0 then (0, s) else ((getN bs s.at_).1, { s with to_ := (getN bs s.at_).2.1, e := (getN bs s.at_).2.2 })
def rTab (bs : List Int) (s : RsD) : List (Int × Int) × RsD := if s.e ≠ 0 then ([], s) else ((getT bs s.at_).1, { s with to_ := (getT bs s.at_).2.1, e := (getT bs s.at_).2.2 })
def rByt (bs : List Int) (s : RsD) (n : Int) : ByteArray × RsD :=
  if s.e ≠ 0 then (ByteArray.empty, s) else
  if (bs.length : Int) - s.at_ < n then (ByteArray.empty, { s with e := 2 }) else
  (strOfNums ((bs.drop s.at_.toNat).take n.toNat), { s with to_ := s.at_ + n })

/-- Where a text stands in a list. -/
def plc (s : ByteArray) : List ByteArray → Nat
  | [] => 0
  | x :: r => if eqB x s = true then 0 else plc s r + 1
def newB (s : ByteArray) (l : List ByteArray) : Bool := wordB s && plc s l == l.length

def rText (bs : List Int) (s : RsD) (l : List ByteArray) : ByteArray × RsD :=
  ((rByt bs (rTake (rNum bs s).2 (decide (1 ≤ (rNum bs s).1 ∧ (rNum bs s).1 ≤ 20))) (rNum bs s).1).1,
    rTake (rByt bs (rTake (rNum bs s).2 (decide (1 ≤ (rNum bs s).1 ∧ (rNum bs s).1 ≤ 20))) (rNum bs s).1).2 (newB (rByt bs (rTake (rNum bs s).2 (decide (1 ≤ (rNum bs s).1 ∧ (rNum bs s).1 ≤ 20))) (rNum bs s).1).1 l))

def rFile (bs : List Int) (s : RsD) : ByteArray × RsD :=
  if (rNum bs s).1 < (s.files.length : Int) then (s.files.getD (rNum bs s).1.toNat ByteArray.empty, rTake (rNum bs s).2 (decide ((rNum bs s).1 ≤ (s.files.length : Int)))) else
  ((rText bs (rTake (rNum bs s).2 (decide ((rNum bs s).1 ≤ (s.files.length : Int)))) s.files).1,
    { (rText bs (rTake (rNum bs s).2 (decide ((rNum bs s).1 ≤ (s.files.length : Int)))) s.files).2 with files := s.files ++ [(rText bs (rTake (rNum bs s).2 (decide ((rNum bs s).1 ≤ (s.files.length : Int)))) s.files).1] })

def mostT (l : List (Int × Int)) : Int := l.foldl (fun n p => if n < p.1 then p.1 else n) 0
def linesB (l : List (Int × Int)) (room : Int) : Bool := l.all (fun p => !(p.1 == 0)) && decide (sumS l ≤ room)
def pcB (pc before k : Int) (inst : List Int) : Bool := decide (before < pc ∧ pc < (inst.length : Int) - 1) && (decide (inst.getD pc.toNat 0 < k) && inst.getD (pc.toNat + 1) 0 == k)

def rNode (bs : List Int) (s : RsD) (inst : List Int) (funcs k before : Int) : (Int × Int) × RsD :=
  (((rNum bs s).1, (rNum bs (rTake (rNum bs s).2 (withB (rNum bs s).1 funcs))).1),
    rTake (rNum bs (rTake (rNum bs s).2 (withB (rNum bs s).1 funcs))).2 (pcB (rNum bs (rTake (rNum bs s).2 (withB (rNum bs s).1 funcs))).1 before k inst))
def rTreeF (bs : List Int) (inst : List Int) (funcs last : Int) : Nat → Int → Int → List (Int × Int) → RsD → List (Int × Int) × RsD
  | 0, _, _, l, s => (l, s)
  | f + 1, k, before, l, s => if k ≤ last ∧ s.e = 0 then rTreeF bs inst funcs last f (k + 1) (rNode bs s inst funcs k before).1.2 (l ++ [(rNode bs s inst funcs k before).1]) (rNode bs s inst funcs k before).2 else (l, s)
def rTree (bs : List Int) (s : RsD) (index : List (Int × Int)) (funcs : Int) : List (Int × Int) × RsD := rTreeF bs (unroll index) funcs (mostT index) (mostT index).toNat 1 (-1) [] s

def entA (bs : List Int) (s : RsD) : RsD := { (rText bs s s.names).2 with names := s.names ++ [(rText bs s s.names).1] }
def entB (bs : List Int) (s : RsD) : RsD := (rFile bs (entA bs s)).2
def entC (bs : List Int) (s : RsD) : List (Int × Int) × RsD := rTab bs (entB bs s)
def entD (bs : List Int) (s : RsD) : RsD := { rTake (entC bs s).2 (linesB (entC bs s).1 (entB bs s).room) with room := (entB bs s).room - sumS (entC bs s).1 }
def entE (bs : List Int) (s : RsD) : List (Int × Int) × RsD := rTab bs (entD bs s)
def entF (bs : List Int) (s : RsD) : RsD := rTake (entE bs s).2 (sumS (entE bs s).1 == sumS (entC bs s).1)
def rEntry (bs : List Int) (s : RsD) (funcs : Int) : EntD × RsD :=
  (⟨(rText bs s s.names).1, (rFile bs (entA bs s)).1, (entC bs s).1, (entE bs s).1, (rTree bs (entF bs s) (entE bs s).1 funcs).1⟩, (rTree bs (entF bs s) (entE bs s).1 funcs).2)

def rHeadF (bs : List Int) : Nat → List Int → RsD → RsD
  | _, [], s => { s with at_ := 3 }
  | k, c :: r, s => if bs.length ≤ k then { s with e := 2 } else if bs.getD k 0 ≠ c then { s with e := 8 } else rHeadF bs (k + 1) r s
def rHead (bs : List Int) (s : RsD) : RsD := rHeadF bs 0 [85, 70, 1] s

def rEnts (bs : List Int) (n : Int) : Nat → List EntD → RsD → List EntD × RsD
  | 0, l, s => (l, s)
  | f + 1, l, s => if s.e = 0 then rEnts bs n f (l ++ [(rEntry bs s n).1]) (rEntry bs s n).2 else (l, s)
def rEnd (bs : List Int) (s : RsD) : RsD := if s.e = 0 ∧ s.at_ < (bs.length : Int) then { s with e := 8 } else s
def rBeg : RsD := ⟨0, 0, 0, [], [], 1000⟩
def rCnt (bs : List Int) : Int × RsD := ((rNum bs (rHead bs rBeg)).1, rTake (rNum bs (rHead bs rBeg)).2 (decide (1 ≤ (rNum bs (rHead bs rBeg)).1 ∧ (rNum bs (rHead bs rBeg)).1 ≤ 12)))
def rAll (bs : List Int) : List EntD × RsD := ((rEnts bs (rCnt bs).1 (rCnt bs).1.toNat [] (rCnt bs).2).1, rEnd bs (rEnts bs (rCnt bs).1 (rCnt bs).1.toNat [] (rCnt bs).2).2)
/-- What Decode answers: the functions, the error, the place. -/
def decI (bs : List Int) : List EntD × Int × Int := if (rAll bs).2.e ≠ 0 then ([], (rAll bs).2.e, (rAll bs).2.at_) else ((rAll bs).1, 0, 0)

/-- How an entry lies, only read. -/
def RdEnt (w : World) (cs : List Value) (x : EntD) : Prop :=
  ∃ la lcap xa xcap ta tcap, cs = [.string x.name, .string x.file, .slice la x.lines.length lcap, .slice xa x.index.length xcap, .slice ta x.tree.length tcap] ∧
    RdS w la x.lines.length lcap x.lines ∧ RdS w xa x.index.length xcap x.index ∧ RdS w ta x.tree.length tcap x.tree ∧ x.name.size ≤ maxLen ∧ x.file.size ≤ maxLen
def RdI (w : World) (a : Option Addr) (len cap : Nat) (l : List EntD) : Prop := RdL 5 RdEnt w a len cap l
theorem RdEnt.below {w w' : World} {cs : List Value} {x : EntD} (h : RdEnt w cs x) (hb : Below w.heap.size w w') : RdEnt w' cs x := by
  obtain ⟨la, lcap, xa, xcap, ta, tcap, e, h1, h2, h3, h4, h5⟩ := h
  exact ⟨la, lcap, xa, xcap, ta, tcap, e, h1.below hb (Nat.le_refl _), h2.below hb (Nat.le_refl _), h3.below hb (Nat.le_refl _), h4, h5⟩
theorem RdI.below {w w' : World} {a : Option Addr} {len cap : Nat} {l : List EntD} (h : RdI w a len cap l) (hb : Below w.heap.size w w') : RdI w' a len cap l :=
  RdL.below h hb (fun _ _ h => h.below hb)
end Go.Proofs.YtffnfjkjlmlonaaGreatDoor
