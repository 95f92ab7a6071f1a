/- Contracts of the small functions of numbers and tables that only compute: what each gives back for whatever integers in its range, the world being left as it was. Contracts of number.width, number.canonical and number.value: for whatever bytes they give what the plain functions of this text give, the world being left as it was. Contracts of number.Get, table.endsAt and table.getSpan: for whatever bytes and place they give what the plain functions of this text give; nothing that was there is written. -/
import Derived.Test.YtffnfjkjlmlonaaGreatDoorRows
import Derived.WalkKit
import Derived.WalkSpells
import Derived.WalkLawsBesides
namespace Go.Proofs.YtffnfjkjlmlonaaGreatDoor
open Go.RowKit
theorem hid {p : Prop} (h : p) : Hid p := h
theorem ret_int {k : IntKind} {a b : Int} (h : a = b) : Ending.returned (.int k a) = .returned (.int k b) := by rw [h]
theorem ret_bool {a b : Bool} (h : a = b) : Ending.returned (.bool a) = .returned (.bool b) := by rw [h]
def isV (v : Int) : Bool := decide (0 ≤ v ∧ v ≤ 9999)
set_option maxHeartbeats 400000 in
theorem isValue_any (v : Int) (w : World) :
    Calls Tryz.prog 183 #[.int .i64 v] w fun e w' => e = .returned (.bool (isV v)) ∧ w' = w := by
  by_cases h : 0 ≤ v
  · have e1 : isV v = decide (v ≤ 9999) := by simp [isV, h]
    have E : Hid (isV v = decide (v ≤ 9999)) := e1
    clear e1
    go_enter Tryz.func183, Tryz.ntmps183
    go_wp2
    go_ret
    exact ⟨ret_bool E.out.symm, rfl⟩
  · have e1 : isV v = false := by simp [isV, h]
    have E : Hid (isV v = false) := e1
    have hf : decide (0 ≤ v) = false := by simpa using h
    clear e1
    go_enter Tryz.func183, Tryz.ntmps183
    go_wp2
    go_ret
    exact ⟨ret_bool E.out.symm, rfl⟩
def zig (d : Int) : Int := if 0 ≤ d then 2 * d else -2 * d - 1
def zag (n : Int) : Int := if n % 2 = 0 then n / 2 else -(n / 2) - 1
set_option maxHeartbeats 400000 in
theorem toSigned_any (n : Int) (w : World) (h1 : 0 ≤ n) (h2 : n ≤ 1099511627776) :
    Calls Tryz.prog 185 #[.int .i64 n] w fun e w' => e = .returned (.int .i64 (zag n)) ∧ w' = w := by
  by_cases h : n % 2 = 0
  · have E : Hid (zag n = n / 2) := by unfold zag; exact if_pos h
    have hb : (n % 2 == 0) = true := by simp [h]
    clear h
    go_enter Tryz.func185, Tryz.ntmps185
    go_wp2
    go_ret
    exact ⟨ret_int E.out.symm, rfl⟩
  · have E : Hid (zag n = -(n / 2) - 1) := by unfold zag; exact if_neg h
    have hb : (n % 2 == 0) = false := by simp [h]
    clear h
    go_enter Tryz.func185, Tryz.ntmps185
    go_wp2
    go_ret
    exact ⟨ret_int E.out.symm, rfl⟩
end Go.Proofs.YtffnfjkjlmlonaaGreatDoor
namespace Go.Proofs.YtffnfjkjlmlonaaGreatDoor
open Go.RowKit
/-- A slice that is only read: of 'len' numbers 'zs', which lie in the first 'len' cells. -/
structure Rd (k : IntKind) (w : World) (a : Option Addr) (len cap : Nat) (zs : List Int) : Prop where
  hlen : zs.length = len
  hcap : len ≤ cap
  hmax : cap ≤ maxLen
  cell : ∀ i, i < len → ∃ b off, a = some ⟨b, off, none⟩ ∧ w.cell? ⟨b, off + i, none⟩ = some (.int k (zs.getD i 0))
theorem Rd.open {k : IntKind} {w : World} {a : Option Addr} {len cap : Nat} {zs : List Int} (h : Rd k w a len cap zs) (hp : 0 < len) :
    ∃ b off, a = some ⟨b, off, none⟩ ∧ ∀ i, i < len → w.cell? ⟨b, off + i, none⟩ = some (.int k (zs.getD i 0)) := by
  obtain ⟨b, off, rfl, _⟩ := h.cell 0 hp
  refine ⟨b, off, rfl, fun i hi => ?_⟩
  obtain ⟨b', off', e, hc⟩ := h.cell i hi
  cases e
  exact hc
def wid : Nat → List Int → Int × Int
  | 0, _ => (0, 3)
  | _ + 1, [] => (0, 2)
  | f + 1, b :: r => if b < 128 then (1, 0) else if (wid f r).2 = 0 then ((wid f r).1 + 1, 0) else (0, (wid f r).2)
/-- Behind k bytes that are all 128 or more. -/
theorem wid_skip : ∀ (k f : Nat) (bs : List Int), k ≤ bs.length → (∀ j, j < k → ¬ bs.getD j 0 < 128) →
    wid (k + f) bs = if (wid f (bs.drop k)).2 = 0 then ((wid f (bs.drop k)).1 + k, 0) else (0, (wid f (bs.drop k)).2)
  | 0, f, bs, _, _ => by
    have e : bs.drop 0 = bs := rfl
    have z : 0 + f = f := by omega
    rw [e, z]
    by_cases h : (wid f bs).2 = 0
    · rw [if_pos h]; exact Prod.ext (by simp) h
    · rw [if_neg h]
      refine Prod.ext ?_ rfl
      cases f with
      | zero => rfl
      | succ f => cases bs with
        | nil => rfl
        | cons b r =>
          unfold wid at h ⊢
          by_cases hb : b < 128
          · simp [hb] at h
          · by_cases h2 : (wid f r).2 = 0 <;> simp [hb, h2] at h ⊢
  | k + 1, f, [], h, _ => by simp at h
  | k + 1, f, b :: r, h, hj => by
    have hb : ¬ b < 128 := by have := hj 0 (by omega); simpa using this
    have ih := wid_skip k f r (by simpa using h) (fun j hjk => by have := hj (j + 1) (by omega); simpa using this)
    have e : k + 1 + f = (k + f) + 1 := by omega
    rw [e]
    show (if b < 128 then _ else _) = _
    rw [if_neg hb, ih]
    simp only [List.drop_succ_cons]
    by_cases h2 : (wid f (List.drop k r)).2 = 0
    · simp [h2]; omega
    · simp [h2]
theorem wid_five (bs : List Int) (h : 5 ≤ bs.length) (hj : ∀ j, j < 5 → ¬ bs.getD j 0 < 128) : wid 5 bs = (0, 3) := by
  have := wid_skip 5 0 bs h hj; simpa [wid] using this
theorem wid_short (k : Nat) (bs : List Int) (hk : k < 5) (h : bs.length = k) (hj : ∀ j, j < k → ¬ bs.getD j 0 < 128) : wid 5 bs = (0, 2) := by
  obtain ⟨f, hf⟩ : ∃ f, 5 = k + (f + 1) := ⟨4 - k, by omega⟩
  have := wid_skip k (f + 1) bs (by omega) hj
  rw [hf, this, List.drop_of_length_le (by omega)]; simp [wid]
theorem wid_at (k : Nat) (bs : List Int) (hk : k < 5) (h : k < bs.length) (hj : ∀ j, j < k → ¬ bs.getD j 0 < 128) (hb : bs.getD k 0 < 128) : wid 5 bs = ((k : Int) + 1, 0) := by
  obtain ⟨f, hf⟩ : ∃ f, 5 = k + (f + 1) := ⟨4 - k, by omega⟩
  have := wid_skip k (f + 1) bs (by omega) hj
  have e : bs.drop k = bs.getD k 0 :: bs.drop (k + 1) := by
    rw [List.drop_eq_getElem_cons h]; simp [List.getD, h]
  rw [hf, this, e]
  unfold wid
  rw [if_pos hb]; simp; omega
theorem ret_two {k l : IntKind} {a b : Int} {p : Int × Int} (h : p = (a, b)) : Ending.returned (.tuple #[.int k a, .int l b]) = .returned (.tuple #[.int k p.1, .int l p.2]) := by rw [h]
set_option maxHeartbeats 400000 in
theorem width_any (a : Option Addr) (len cap : Nat) (bs : List Int) (w : World) (hr : Rd .u8 w a len cap bs) :
    Calls Tryz.prog 129 #[.slice a len cap] w fun e w' => e = .returned (.tuple #[.int .i64 (wid 5 bs).1, .int .i64 (wid 5 bs).2]) ∧ w' = w := by
  have hl := hr.hlen
  have hmax := hr.hmax
  have hcap := hr.hcap
  unfold maxLen at hmax
  have HL : Hid (bs.length = len) := hl
  clear hl
  go_enter Tryz.func129, Tryz.ntmps129
  go_wp2
  go_loop [4] (fun i => ∃ k : Nat, k ≤ 5 ∧ k ≤ len ∧ i = .int .i64 k ∧ ∀ j, j < k → ¬ bs.getD j 0 < 128) (fun i => 5 - (intOf i).toNat)
  case atStart => exact ⟨0, by omega, by omega, rfl, fun j hj => by omega⟩
  case round =>
    obtain ⟨k, hk, hkl, rfl, hj⟩ := hrel
    have HJ : Hid (∀ j, j < k → ¬ bs.getD j 0 < 128) := hj
    clear hj
    by_cases h5 : k < 5
    · by_cases hlt : k < len
      · obtain ⟨b, off, rfl, hc⟩ := hr.open (by omega)
        have hck := hc k hlt
        clear hc hr
        obtain ⟨x, hx⟩ : ∃ x, x = bs.getD k 0 := ⟨_, rfl⟩
        rw [← hx] at hck
        have HX : Hid (x = bs.getD k 0) := hx
        clear hx
        by_cases hb : x < 128
        · have HF : Hid (wid 5 bs = ((k : Int) + 1, 0)) := wid_at k bs h5 (by rw [HL.out]; exact hlt) HJ.out (by rw [← HX.out]; exact hb)
          go_wp2
          go_ret2
          exact ⟨ret_two HF.out, rfl⟩
        · go_wp2
          go_round
          case rel => exact ⟨k + 1, by omega, by omega, by go_num, fun j hjk => by
            by_cases e : j = k
            · subst e; rw [← HX.out]; exact hb
            · exact HJ.out j (by omega)⟩
          case measure => simp [intOf]; omega
      · have HF : Hid (wid 5 bs = (0, 2)) := wid_short k bs h5 (by rw [HL.out]; omega) HJ.out
        go_wp2
        go_ret2
        exact ⟨ret_two HF.out, rfl⟩
    · have h5' : k = 5 := by omega
      subst h5'
      have HF : Hid (wid 5 bs = (0, 3)) := wid_five bs (by rw [HL.out]; omega) HJ.out
      go_wp2
      go_ret2
      exact ⟨ret_two HF.out, rfl⟩
def canonB (bs : List Int) : Bool := !(bs.length == 0) && !(decide (1 < bs.length) && bs.getD (bs.length - 1) 0 == 0) && (decide (bs.length < 5) || decide (bs.getD (bs.length - 1) 0 ≤ 7))
set_option maxHeartbeats 400000 in
theorem canonical_any (a : Option Addr) (len cap : Nat) (bs : List Int) (w : World) (hr : Rd .u8 w a len cap bs) (hp : 0 < len) :
    Calls Tryz.prog 130 #[.slice a len cap] w fun e w' => e = .returned (.bool (canonB bs)) ∧ w' = w := by
  have hl := hr.hlen
  have hmax := hr.hmax
  have hcap := hr.hcap
  unfold maxLen at hmax
  have hcan : canonB bs = (!(decide (1 < len) && bs.getD (len - 1) 0 == 0) && (decide (len < 5) || decide (bs.getD (len - 1) 0 ≤ 7))) := by
    have hz : (len == 0) = false := by simp; omega
    unfold canonB; rw [hl, hz]; rfl
  have HC : Hid _ := hcan
  clear hcan
  obtain ⟨b, off, rfl, hc⟩ := hr.open hp
  have hck := hc (len - 1) (by omega)
  clear hc
  have hne : ((len : Int) == 0) = false := by simp; omega
  have hsub : ((len : Int) - 1).toNat = len - 1 := by omega
  obtain ⟨x, hx⟩ : ∃ x, x = bs.getD (len - 1) 0 := ⟨_, rfl⟩
  rw [← hx] at hck HC
  clear hx hl hr
  by_cases h1 : 1 < len
  · have h1' : (1 : Int) < (len : Int) := by omega
    by_cases hx0 : x = 0
    · have hxb : (x == 0) = true := by simp [hx0]
      have HF : Hid (canonB bs = false) := by show _ = _; rw [HC.out]; simp [h1, hx0]
      clear hx0 HC
      go_enter Tryz.func130, Tryz.ntmps130
      go_wp2
      go_ret
      exact ⟨ret_bool HF.out.symm, rfl⟩
    · have hxb : (x == 0) = false := by simp [hx0]
      by_cases h5 : len < 5
      · have HF : Hid (canonB bs = true) := by show _ = _; rw [HC.out]; simp [hx0, h5]
        have h5' : (len : Int) < 5 := by omega
        clear hx0 HC
        go_enter Tryz.func130, Tryz.ntmps130
        go_wp2
        go_ret
        exact ⟨ret_bool HF.out.symm, rfl⟩
      · have HF : Hid (canonB bs = decide (x ≤ 7)) := by show _ = _; rw [HC.out]; simp [hx0, h5]
        have h5' : decide ((len : Int) < 5) = false := by simp; omega
        clear hx0 HC
        go_enter Tryz.func130, Tryz.ntmps130
        go_wp2
        go_ret
        exact ⟨ret_bool HF.out.symm, rfl⟩
  · have h1' : decide ((1 : Int) < (len : Int)) = false := by simp; omega
    have h5' : (len : Int) < 5 := by omega
    have HF : Hid (canonB bs = true) := by show _ = _; rw [HC.out]; simp [h1]; omega
    clear HC
    go_enter Tryz.func130, Tryz.ntmps130
    go_wp2
    go_ret
    exact ⟨ret_bool HF.out.symm, rfl⟩
def valB : List Int → Int
  | [] => 0
  | b :: r => valB r * 128 + b % 128
theorem valB_drop (bs : List Int) (k : Nat) (h : k < bs.length) : valB (bs.drop k) = valB (bs.drop (k + 1)) * 128 + bs.getD k 0 % 128 := by
  rw [List.drop_eq_getElem_cons h]; simp [valB, List.getD, h]
theorem valB_range : ∀ (bs : List Int), 0 ≤ valB bs ∧ valB bs < 128 ^ bs.length
  | [] => by simp [valB]
  | b :: r => by
    have ih := valB_range r
    have h1 := Int.emod_nonneg b (show (128 : Int) ≠ 0 by decide)
    have h2 := Int.emod_lt_of_pos b (show (0 : Int) < 128 by decide)
    have e : (128 : Int) ^ (b :: r).length = 128 ^ r.length * 128 := by simp [Int.pow_succ]
    rw [e]; unfold valB; omega
theorem valB_small (bs : List Int) (h : bs.length ≤ 5) : 0 ≤ valB bs ∧ valB bs < 34359738368 := by
  have := valB_range bs
  have h2 : (128 : Int) ^ bs.length ≤ 128 ^ 5 := by
    have : ∀ n : Nat, n ≤ 5 → (128 : Int) ^ n ≤ 128 ^ 5 := by
      intro n hn
      match n, hn with
      | 0, _ => decide
      | 1, _ => decide
      | 2, _ => decide
      | 3, _ => decide
      | 4, _ => decide
      | 5, _ => decide
    exact this _ h
  have e : (128 : Int) ^ 5 = 34359738368 := by decide
  omega
set_option maxHeartbeats 400000 in
theorem value_any (a : Option Addr) (len cap : Nat) (bs : List Int) (w : World) (hr : Rd .u8 w a len cap bs) (h5 : len ≤ 5) (hx : ∀ j, 0 ≤ bs.getD j 0 ∧ bs.getD j 0 ≤ 255) :
    Calls Tryz.prog 131 #[.slice a len cap] w fun e w' => e = .returned (.int .i64 (valB bs)) ∧ w' = w := by
  have HL : Hid (bs.length = len) := hr.hlen
  have hmax := hr.hmax
  have hcap := hr.hcap
  unfold maxLen at hmax
  go_enter Tryz.func131, Tryz.ntmps131
  go_wp2
  go_loop [3, 4] (fun n i => ∃ k : Nat, k ≤ len ∧ i = .int .i64 ((k : Int) - 1) ∧ n = .int .i64 (valB (bs.drop k))) (fun _ i => (intOf i + 1).toNat)
  case atStart => exact ⟨len, by omega, rfl, by rw [List.drop_of_length_le (by rw [HL.out]; omega)]; rfl⟩
  case round =>
    obtain ⟨k, hk, rfl, rfl⟩ := hrel
    cases k with
    | zero =>
      have e1 : ((0 : Nat) : Int) - 1 = -1 := by omega
      rw [e1]
      go_wp2
      go_ret
      exact ⟨rfl, rfl⟩
    | succ k =>
      have e1 : ((k + 1 : Nat) : Int) - 1 = (k : Int) := by omega
      rw [e1]
      obtain ⟨b, off, rfl, hc⟩ := hr.open (by omega)
      have hck := hc k (by omega)
      clear hc
      have hs := valB_small (bs.drop (k + 1)) (by rw [List.length_drop, HL.out]; omega)
      obtain ⟨q, hq⟩ : ∃ q, q = valB (bs.drop (k + 1)) := ⟨_, rfl⟩
      have HS : Hid (valB (bs.drop k) = q * 128 + bs.getD k 0 % 128) := by show _ = _; rw [valB_drop bs k (by rw [HL.out]; omega), hq]
      rw [← hq] at hs ⊢
      clear hq
      have hxk := hx k
      obtain ⟨x, hxx⟩ : ∃ x, x = bs.getD k 0 := ⟨_, rfl⟩
      rw [← hxx] at hck hxk HS
      clear hxx hx
      go_wp2
      go_round
      case rel => exact ⟨k, by omega, by go_num, by rw [HS.out]⟩
      case measure => simp [intOf]
end Go.Proofs.YtffnfjkjlmlonaaGreatDoor
namespace Go.Proofs.YtffnfjkjlmlonaaGreatDoor
open Go.RowKit
/-- 'b[l:h]' of a slice that is only read. -/
theorem Rd.cut {k : IntKind} {w : World} {a : Option Addr} {len cap : Nat} {zs : List Int} (h : Rd k w a len cap zs) (l : Nat) (hl : l ≤ len) :
    Rd k w (if cap = l then a else a.map (·.add (l * 1))) (len - l) (cap - l) (zs.drop l) := by
  refine ⟨by rw [List.length_drop, h.hlen], by have := h.hcap; omega, by have := h.hmax; omega, fun i hi => ?_⟩
  obtain ⟨b, off, rfl, hc⟩ := h.cell (l + i) (by omega)
  have hne : cap ≠ l := by have := h.hcap; omega
  refine ⟨b, off + l, by rw [if_neg hne]; simp [Addr.add], ?_⟩
  rw [show off + l + i = off + (l + i) by omega, hc]
  simp [List.getD]
theorem Rd.head {k : IntKind} {w : World} {a : Option Addr} {len cap : Nat} {zs : List Int} (h : Rd k w a len cap zs) (n : Nat) (hn : n ≤ len) :
    Rd k w a n cap (zs.take n) := by
  refine ⟨by rw [List.length_take, h.hlen]; omega, by have := h.hcap; omega, h.hmax, fun i hi => ?_⟩
  obtain ⟨b, off, e, hc⟩ := h.cell i (by omega)
  refine ⟨b, off, e, ?_⟩
  rw [hc]
  simp [List.getD, hi]
/-- What number.Get gives: the number, the place behind it, the error. -/
def getN (bs : List Int) (at_ : Int) : Int × Int × Int :=
  if at_ < 0 ∨ (bs.length : Int) < at_ then (0, 0, 1) else
  let r := bs.drop at_.toNat
  if (wid 5 r).2 ≠ 0 then (0, 0, (wid 5 r).2) else
  if canonB (r.take (wid 5 r).1.toNat) then (valB (r.take (wid 5 r).1.toNat), at_ + (wid 5 r).1, 0) else (0, 0, 3)
theorem ret_three {p : Int × Int × Int} {a b c : Int} (h : p = (a, b, c)) : Ending.returned (.tuple #[.int .i64 a, .int .i64 b, .int .i64 c]) = .returned (.tuple #[.int .i64 p.1, .int .i64 p.2.1, .int .i64 p.2.2]) := by rw [h]
theorem wid_bd : ∀ (f : Nat) (bs : List Int), (wid f bs).2 = 0 → 1 ≤ (wid f bs).1 ∧ (wid f bs).1 ≤ f ∧ (wid f bs).1 ≤ bs.length
  | 0, _, h => by simp [wid] at h
  | f + 1, [], h => by simp [wid] at h
  | f + 1, b :: r, h => by
    unfold wid at h ⊢
    by_cases hb : b < 128
    · simp [hb]; omega
    · by_cases h2 : (wid f r).2 = 0
      · have := wid_bd f r h2
        simp [hb, h2]; omega
      · simp [hb, h2] at h
theorem byte_drop (bs : List Int) (hx : ∀ j, 0 ≤ bs.getD j 0 ∧ bs.getD j 0 ≤ 255) (n m : Nat) : ∀ j, 0 ≤ ((bs.drop n).take m).getD j 0 ∧ ((bs.drop n).take m).getD j 0 ≤ 255 := by
  intro j
  by_cases h : j < m
  · have := hx (n + j)
    simpa [List.getD, List.getElem?_take, h] using this
  · simp [List.getD, List.getElem?_take, h]
set_option maxHeartbeats 400000 in
theorem get_any (a : Option Addr) (len cap : Nat) (bs : List Int) (at_ : Int) (w : World) (hr : Rd .u8 w a len cap bs) (hx : ∀ j, 0 ≤ bs.getD j 0 ∧ bs.getD j 0 ≤ 255) :
    Calls Tryz.prog 78 #[.slice a len cap, .int .i64 at_] w fun e w' => e = .returned (.tuple #[.int .i64 (getN bs at_).1, .int .i64 (getN bs at_).2.1, .int .i64 (getN bs at_).2.2]) ∧ w' = w := by
  have HL : Hid (bs.length = len) := hr.hlen
  have hmax := hr.hmax
  have hcap := hr.hcap
  unfold maxLen at hmax
  by_cases h0 : at_ < 0
  · have HF : Hid (getN bs at_ = (0, 0, 1)) := by show _ = _; unfold getN; rw [if_pos (.inl h0)]
    go_enter Tryz.func78, Tryz.ntmps78
    go_wp2
    go_ret3
    exact ⟨ret_three HF.out, rfl⟩
  · by_cases h1 : (len : Int) < at_
    · have HF : Hid (getN bs at_ = (0, 0, 1)) := by show _ = _; unfold getN; rw [if_pos (.inr (by rw [HL.out]; exact h1))]
      have h0' : decide (at_ < 0) = false := by simpa using h0
      go_enter Tryz.func78, Tryz.ntmps78
      go_wp2
      go_ret3
      exact ⟨ret_three HF.out, rfl⟩
    · have h0' : decide (at_ < 0) = false := by simpa using h0
      obtain ⟨n, rfl⟩ := Int.eq_ofNat_of_zero_le (show 0 ≤ at_ by omega)
      have hn : n ≤ len := by omega
      have hr0 := hr.cut n hn
      have h1' : decide ((len : Int) < (n : Int)) = false := by simp; omega
      have e0 : getN bs (n : Int) = if (wid 5 (bs.drop n)).2 ≠ 0 then (0, 0, (wid 5 (bs.drop n)).2) else if canonB ((bs.drop n).take (wid 5 (bs.drop n)).1.toNat) then (valB ((bs.drop n).take (wid 5 (bs.drop n)).1.toNat), (n : Int) + (wid 5 (bs.drop n)).1, 0) else (0, 0, 3) := by
        unfold getN
        rw [if_neg (by rw [HL.out]; omega)]
        rfl
      by_cases hcn : cap = n
      · subst hcn
        have hln : len = cap := by omega
        subst hln
        have e1 : bs.drop len = [] := List.drop_of_length_le (by rw [HL.out]; omega)
        have HF : Hid (getN bs (len : Int) = (0, 0, 2)) := by show _ = _; rw [e0, e1]; simp [wid]
        have hw0 := width_any a 0 0 [] w ⟨rfl, Nat.le_refl _, by unfold maxLen; omega, fun i hi => by omega⟩
        have HW := hid hw0
        clear hw0 e0 e1 hr0
        go_enter Tryz.func78, Tryz.ntmps78
        go_wp2_with (go_at_call 129; refine HW.out.mono ?_; rintro e w' ⟨rfl, rfl⟩; simp only [wid])
        go_ret3
        exact ⟨ret_three HF.out, rfl⟩
      · rw [if_neg hcn] at hr0
        simp only [Nat.mul_one] at hr0
        obtain ⟨r, hrd⟩ : ∃ r, r = bs.drop n := ⟨_, rfl⟩
        rw [← hrd] at e0 hr0
        obtain ⟨⟨s, er⟩, hw⟩ : ∃ p, wid 5 r = p := ⟨_, rfl⟩
        have hwc := width_any _ _ _ _ w hr0
        rw [hw] at hwc e0
        have hcn' : ¬ n = cap := by omega
        by_cases her : er = 0
        · have hbd := wid_bd 5 r (by rw [hw]; exact her)
          rw [hw, hr0.hlen] at hbd
          subst her
          obtain ⟨m, rfl⟩ := Int.eq_ofNat_of_zero_le (show 0 ≤ s by have := hbd.1; simp at this; omega)
          have hm1 : 1 ≤ m := by have := hbd.1; simp at this; omega
          have hm2 : m ≤ 5 := by have := hbd.2.1; simp at this; omega
          have hm3 : m ≤ len - n := by have := hbd.2.2; simp at this; omega
          have hro := hr0.head m hm3
          have HW := hid hwc
          have HC := hid (canonical_any _ _ _ _ w hro (by omega))
          have HV := hid (value_any _ _ _ _ w hro hm2 (by rw [hrd]; exact byte_drop bs hx n m))
          have e2 : getN bs (n : Int) = if canonB (r.take m) then (valB (r.take m), (n : Int) + m, 0) else (0, 0, 3) := by rw [e0]; simp
          clear e0 hr0 hwc hw hrd hbd hro hx
          have hm4 : m ≤ cap - n := by omega
          obtain ⟨cb, hcb⟩ : ∃ cb, canonB (r.take m) = cb := ⟨_, rfl⟩
          rw [hcb] at HC e2
          cases cb with
          | true =>
            have HF : Hid (getN bs (n : Int) = (valB (r.take m), (n : Int) + m, 0)) := by show _ = _; rw [e2]; simp
            clear e2 hcb
            obtain ⟨vv, hvv⟩ : ∃ vv, valB (r.take m) = vv := ⟨_, rfl⟩
            rw [hvv] at HV HF
            clear hvv
            go_enter Tryz.func78, Tryz.ntmps78
            go_wp2_with (first | (go_at_call 129; refine HW.out.mono ?_; rintro e w' ⟨rfl, rfl⟩) | (go_at_call 130; refine HC.out.mono ?_; rintro e w' ⟨rfl, rfl⟩) | (go_at_call 131; refine HV.out.mono ?_; rintro e w' ⟨rfl, rfl⟩))
            go_ret3
            exact ⟨ret_three HF.out, rfl⟩
          | false =>
            have HF : Hid (getN bs (n : Int) = (0, 0, 3)) := by show _ = _; rw [e2]; simp
            clear e2 hcb HV
            go_enter Tryz.func78, Tryz.ntmps78
            go_wp2_with (first | (go_at_call 129; refine HW.out.mono ?_; rintro e w' ⟨rfl, rfl⟩) | (go_at_call 130; refine HC.out.mono ?_; rintro e w' ⟨rfl, rfl⟩))
            go_ret3
            exact ⟨ret_three HF.out, rfl⟩
        · have HF : Hid (getN bs (n : Int) = (0, 0, er)) := by show _ = _; rw [e0, if_pos her]
          have HW := hid hwc
          have herb : (er != 0) = true := by simpa using her
          clear e0 hr0 hwc hw hrd her
          go_enter Tryz.func78, Tryz.ntmps78
          go_wp2_with (go_at_call 129; refine HW.out.mono ?_; rintro e w' ⟨rfl, rfl⟩)
          go_ret3
          exact ⟨ret_three HF.out, rfl⟩
end Go.Proofs.YtffnfjkjlmlonaaGreatDoor
