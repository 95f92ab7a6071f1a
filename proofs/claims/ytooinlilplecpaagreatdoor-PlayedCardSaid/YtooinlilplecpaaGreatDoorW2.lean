/- Contracts of number.width, number.canonical and number.value: for whatever bytes they give what the plain functions of this text give, the world being left as it was. -/
import Derived.Test.YtooinlilplecpaaGreatDoorW1
namespace Go.Proofs.YtooinlilplecpaaGreatDoor
open Go.RowKit

/-- A slice that is only read: of 'len' numbers 'zs', which lie in the first 'len' cells. -/
structure Rd (k : IntKind) (w : World) (a : Option Addr) (len cap : Nat) (zs : List Int) : Prop where
  hlen : zs.length = len
  hcap : len ≤ cap
  hmax : cap ≤ maxLen
  cell : ∀ i, i < len → ∃ b off, a = some ⟨b, off, none⟩ ∧ w.cell? ⟨b, off + i, none⟩ = some (.int k (zs.getD i 0))

theorem Rd.open {k : IntKind} {w : World} {a : Option Addr} {len cap : Nat} {zs : List Int} (h : Rd k w a len cap zs) (hp : 0 < len) :
    ∃ b off, a = some ⟨b, off, none⟩ ∧ ∀ i, i < len → w.cell? ⟨b, off + i, none⟩ = some (.int k (zs.getD i 0)) := by
  obtain ⟨b, off, rfl, _⟩ := h.cell 0 hp
  refine ⟨b, off, rfl, fun i hi => ?_⟩
  obtain ⟨b', off', e, hc⟩ := h.cell i hi
  cases e
  exact hc

def wid : Nat → List Int → Int × Int
  | 0, _ => (0, 3)
  | _ + 1, [] => (0, 2)
  | f + 1, b :: r => if b < 128 then (1, 0) else if (wid f r).2 = 0 then ((wid f r).1 + 1, 0) else (0, (wid f r).2)

/-- Behind k bytes that are all 128 or more. -/
theorem wid_skip : ∀ (k f : Nat) (bs : List Int), k ≤ bs.length → (∀ j, j < k → ¬ bs.getD j 0 < 128) →
    wid (k + f) bs = if (wid f (bs.drop k)).2 = 0 then ((wid f (bs.drop k)).1 + k, 0) else (0, (wid f (bs.drop k)).2)
  | 0, f, bs, _, _ => by
    have e : bs.drop 0 = bs := rfl
    have z : 0 + f = f := by omega
    rw [e, z]
    by_cases h : (wid f bs).2 = 0
    · rw [if_pos h]; exact Prod.ext (by simp) h
    · rw [if_neg h]
      refine Prod.ext ?_ rfl
      cases f with
      | zero => rfl
      | succ f => cases bs with
        | nil => rfl
        | cons b r =>
          unfold wid at h ⊢
          by_cases hb : b < 128
          · simp [hb] at h
          · by_cases h2 : (wid f r).2 = 0 <;> simp [hb, h2] at h ⊢
  | k + 1, f, [], h, _ => by simp at h
  | k + 1, f, b :: r, h, hj => by
    have hb : ¬ b < 128 := by have := hj 0 (by omega); simpa using this
    have ih := wid_skip k f r (by simpa using h) (fun j hjk => by have := hj (j + 1) (by omega); simpa using this)
    have e : k + 1 + f = (k + f) + 1 := by omega
    rw [e]
    show (if b < 128 then _ else _) = _
    rw [if_neg hb, ih]
    simp only [List.drop_succ_cons]
    by_cases h2 : (wid f (List.drop k r)).2 = 0
    · simp [h2]; omega
    · simp [h2]

theorem wid_five (bs : List Int) (h : 5 ≤ bs.length) (hj : ∀ j, j < 5 → ¬ bs.getD j 0 < 128) : wid 5 bs = (0, 3) := by
  have := wid_skip 5 0 bs h hj; simpa [wid] using this
theorem wid_short (k : Nat) (bs : List Int) (hk : k < 5) (h : bs.length = k) (hj : ∀ j, j < k → ¬ bs.getD j 0 < 128) : wid 5 bs = (0, 2) := by
  obtain ⟨f, hf⟩ : ∃ f, 5 = k + (f + 1) := ⟨4 - k, by omega⟩
  have := wid_skip k (f + 1) bs (by omega) hj
  rw [hf, this, List.drop_of_length_le (by omega)]; simp [wid]
theorem wid_at (k : Nat) (bs : List Int) (hk : k < 5) (h : k < bs.length) (hj : ∀ j, j < k → ¬ bs.getD j 0 < 128) (hb : bs.getD k 0 < 128) : wid 5 bs = ((k : Int) + 1, 0) := by
  obtain ⟨f, hf⟩ : ∃ f, 5 = k + (f + 1) := ⟨4 - k, by omega⟩
  have := wid_skip k (f + 1) bs (by omega) hj
  have e : bs.drop k = bs.getD k 0 :: bs.drop (k + 1) := by
    rw [List.drop_eq_getElem_cons h]; simp [List.getD, h]
  rw [hf, this, e]
  unfold wid
  rw [if_pos hb]; simp; omega

theorem ret_two {k l : IntKind} {a b : Int} {p : Int × Int} (h : p = (a, b)) : Ending.returned (.tuple #[.int k a, .int l b]) = .returned (.tuple #[.int k p.1, .int l p.2]) := by rw [h]

set_option maxHeartbeats 400000 in
theorem width_any (a : Option Addr) (len cap : Nat) (bs : List Int) (w : World) (hr : Rd .u8 w a len cap bs) :
    Calls Tryz.prog 134 #[.slice a len cap] w fun e w' => e = .returned (.tuple #[.int .i64 (wid 5 bs).1, .int .i64 (wid 5 bs).2]) ∧ w' = w := by
  have hl := hr.hlen
  have hmax := hr.hmax
  have hcap := hr.hcap
  unfold maxLen at hmax
  have HL : Hid (bs.length = len) := hl
  clear hl
  go_enter Tryz.func134, Tryz.ntmps134
  go_wp2
  go_loop [4] (fun i => ∃ k : Nat, k ≤ 5 ∧ k ≤ len ∧ i = .int .i64 k ∧ ∀ j, j < k → ¬ bs.getD j 0 < 128) (fun i => 5 - (intOf i).toNat)
  case atStart => exact ⟨0, by omega, by omega, rfl, fun j hj => by omega⟩
  case round =>
    obtain ⟨k, hk, hkl, rfl, hj⟩ := hrel
    have HJ : Hid (∀ j, j < k → ¬ bs.getD j 0 < 128) := hj
    clear hj
    by_cases h5 : k < 5
    · by_cases hlt : k < len
      · obtain ⟨b, off, rfl, hc⟩ := hr.open (by omega)
        have hck := hc k hlt
        clear hc hr
        obtain ⟨x, hx⟩ : ∃ x, x = bs.getD k 0 := ⟨_, rfl⟩
        rw [← hx] at hck
        have HX : Hid (x = bs.getD k 0) := hx
        clear hx
        by_cases hb : x < 128
        · have HF : Hid (wid 5 bs = ((k : Int) + 1, 0)) := wid_at k bs h5 (by rw [HL.out]; exact hlt) HJ.out (by rw [← HX.out]; exact hb)
          go_wp2
          go_ret2
          exact ⟨ret_two HF.out, rfl⟩
        · go_wp2
          go_round
          case rel => exact ⟨k + 1, by omega, by omega, by go_num, fun j hjk => by
            by_cases e : j = k
            · subst e; rw [← HX.out]; exact hb
            · exact HJ.out j (by omega)⟩
          case measure => simp [intOf]; omega
      · have HF : Hid (wid 5 bs = (0, 2)) := wid_short k bs h5 (by rw [HL.out]; omega) HJ.out
        go_wp2
        go_ret2
        exact ⟨ret_two HF.out, rfl⟩
    · have h5' : k = 5 := by omega
      subst h5'
      have HF : Hid (wid 5 bs = (0, 3)) := wid_five bs (by rw [HL.out]; omega) HJ.out
      go_wp2
      go_ret2
      exact ⟨ret_two HF.out, rfl⟩

def canonB (bs : List Int) : Bool := !(bs.length == 0) && !(decide (1 < bs.length) && bs.getD (bs.length - 1) 0 == 0) && (decide (bs.length < 5) || decide (bs.getD (bs.length - 1) 0 ≤ 7))

set_option maxHeartbeats 400000 in
theorem canonical_any (a : Option Addr) (len cap : Nat) (bs : List Int) (w : World) (hr : Rd .u8 w a len cap bs) (hp : 0 < len) :
    Calls Tryz.prog 135 #[.slice a len cap] w fun e w' => e = .returned (.bool (canonB bs)) ∧ w' = w := by
  have hl := hr.hlen
  have hmax := hr.hmax
  have hcap := hr.hcap
  unfold maxLen at hmax
  have hcan : canonB bs = (!(decide (1 < len) && bs.getD (len - 1) 0 == 0) && (decide (len < 5) || decide (bs.getD (len - 1) 0 ≤ 7))) := by
    have hz : (len == 0) = false := by simp; omega
    unfold canonB; rw [hl, hz]; rfl
  have HC : Hid _ := hcan
  clear hcan
  obtain ⟨b, off, rfl, hc⟩ := hr.open hp
  have hck := hc (len - 1) (by omega)
  clear hc
  have hne : ((len : Int) == 0) = false := by simp; omega
  have hsub : ((len : Int) - 1).toNat = len - 1 := by omega
  obtain ⟨x, hx⟩ : ∃ x, x = bs.getD (len - 1) 0 := ⟨_, rfl⟩
  rw [← hx] at hck HC
  clear hx hl hr
  by_cases h1 : 1 < len
  · have h1' : (1 : Int) < (len : Int) := by omega
    by_cases hx0 : x = 0
    · have hxb : (x == 0) = true := by simp [hx0]
      have HF : Hid (canonB bs = false) := by show _ = _; rw [HC.out]; simp [h1, hx0]
      clear hx0 HC
      go_enter Tryz.func135, Tryz.ntmps135
      go_wp2
      go_ret
      exact ⟨ret_bool HF.out.symm, rfl⟩
    · have hxb : (x == 0) = false := by simp [hx0]
      by_cases h5 : len < 5
      · have HF : Hid (canonB bs = true) := by show _ = _; rw [HC.out]; simp [hx0, h5]
        have h5' : (len : Int) < 5 := by omega
        clear hx0 HC
        go_enter Tryz.func135, Tryz.ntmps135
        go_wp2
        go_ret
        exact ⟨ret_bool HF.out.symm, rfl⟩
      · have HF : Hid (canonB bs = decide (x ≤ 7)) := by show _ = _; rw [HC.out]; simp [hx0, h5]
        have h5' : decide ((len : Int) < 5) = false := by simp; omega
        clear hx0 HC
        go_enter Tryz.func135, Tryz.ntmps135
        go_wp2
        go_ret
        exact ⟨ret_bool HF.out.symm, rfl⟩
  · have h1' : decide ((1 : Int) < (len : Int)) = false := by simp; omega
    have h5' : (len : Int) < 5 := by omega
    have HF : Hid (canonB bs = true) := by show _ = _; rw [HC.out]; simp [h1]; omega
    clear HC
    go_enter Tryz.func135, Tryz.ntmps135
    go_wp2
    go_ret
    exact ⟨ret_bool HF.out.symm, rfl⟩

def valB : List Int → Int
  | [] => 0
  | b :: r => valB r * 128 + b % 128

theorem valB_drop (bs : List Int) (k : Nat) (h : k < bs.length) : valB (bs.drop k) = valB (bs.drop (k + 1)) * 128 + bs.getD k 0 % 128 := by
  rw [List.drop_eq_getElem_cons h]; simp [valB, List.getD, h]
theorem valB_range : ∀ (bs : List Int), 0 ≤ valB bs ∧ valB bs < 128 ^ bs.length
  | [] => by simp [valB]
  | b :: r => by
    have ih := valB_range r
    have h1 := Int.emod_nonneg b (show (128 : Int) ≠ 0 by decide)
    have h2 := Int.emod_lt_of_pos b (show (0 : Int) < 128 by decide)
    have e : (128 : Int) ^ (b :: r).length = 128 ^ r.length * 128 := by simp [Int.pow_succ]
    rw [e]; unfold valB; omega
theorem valB_small (bs : List Int) (h : bs.length ≤ 5) : 0 ≤ valB bs ∧ valB bs < 34359738368 := by
  have := valB_range bs
  have h2 : (128 : Int) ^ bs.length ≤ 128 ^ 5 := by
    have : ∀ n : Nat, n ≤ 5 → (128 : Int) ^ n ≤ 128 ^ 5 := by
      intro n hn
      match n, hn with
      | 0, _ => decide
      | 1, _ => decide
      | 2, _ => decide
      | 3, _ => decide
      | 4, _ => decide
      | 5, _ => decide
    exact this _ h
  have e : (128 : Int) ^ 5 = 34359738368 := by decide
  omega

set_option maxHeartbeats 400000 in
theorem value_any (a : Option Addr) (len cap : Nat) (bs : List Int) (w : World) (hr : Rd .u8 w a len cap bs) (h5 : len ≤ 5) (hx : ∀ j, 0 ≤ bs.getD j 0 ∧ bs.getD j 0 ≤ 255) :
    Calls Tryz.prog 136 #[.slice a len cap] w fun e w' => e = .returned (.int .i64 (valB bs)) ∧ w' = w := by
  have HL : Hid (bs.length = len) := hr.hlen
  have hmax := hr.hmax
  have hcap := hr.hcap
  unfold maxLen at hmax
  go_enter Tryz.func136, Tryz.ntmps136
  go_wp2
  go_loop [3, 4] (fun n i => ∃ k : Nat, k ≤ len ∧ i = .int .i64 ((k : Int) - 1) ∧ n = .int .i64 (valB (bs.drop k))) (fun _ i => (intOf i + 1).toNat)
  case atStart => exact ⟨len, by omega, rfl, by rw [List.drop_of_length_le (by rw [HL.out]; omega)]; rfl⟩
  case round =>
    obtain ⟨k, hk, rfl, rfl⟩ := hrel
    cases k with
    | zero =>
      have e1 : ((0 : Nat) : Int) - 1 = -1 := by omega
      rw [e1]
      go_wp2
      go_ret
      exact ⟨rfl, rfl⟩
    | succ k =>
      have e1 : ((k + 1 : Nat) : Int) - 1 = (k : Int) := by omega
      rw [e1]
      obtain ⟨b, off, rfl, hc⟩ := hr.open (by omega)
      have hck := hc k (by omega)
      clear hc
      have hs := valB_small (bs.drop (k + 1)) (by rw [List.length_drop, HL.out]; omega)
      obtain ⟨q, hq⟩ : ∃ q, q = valB (bs.drop (k + 1)) := ⟨_, rfl⟩
      have HS : Hid (valB (bs.drop k) = q * 128 + bs.getD k 0 % 128) := by show _ = _; rw [valB_drop bs k (by rw [HL.out]; omega), hq]
      rw [← hq] at hs ⊢
      clear hq
      have hxk := hx k
      obtain ⟨x, hxx⟩ : ∃ x, x = bs.getD k 0 := ⟨_, rfl⟩
      rw [← hxx] at hck hxk HS
      clear hxx hx
      go_wp2
      go_round
      case rel => exact ⟨k, by omega, by go_num, by rw [HS.out]⟩
      case measure => simp [intOf]
end Go.Proofs.YtooinlilplecpaaGreatDoor
