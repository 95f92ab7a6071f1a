/- Contracts of the small functions of numbers and tables that only compute: what each gives back for whatever integers in its range, the world being left as it was. Contracts of number.width, number.canonical and number.value: for whatever bytes they give what the plain functions of this text give, the world being left as it was. Contracts of number.Get, table.endsAt and table.getSpan: for whatever bytes and place they give what the plain functions of this text give; nothing that was there is written. Contracts of table.endsAt and table.getSpan: for whatever bytes and place they give what the plain functions of this text give; nothing that was there is written. The contract of table.Get: for whatever bytes and place it gives the spans, the place and the error that the plain function getT of this text gives; the spans lie in a row of the call's own; nothing that was there is written. Contracts of number.Bytes, table.WellFormed and table.At: they give what the plain functions of this text give; nothing that was there is written. -/
import Derived.Test.YtooinlilplecpabRows
import Derived.WalkKit
import Derived.WalkSpells
import Derived.WalkLawsBesides
namespace Go.Proofs.Ytooinlilplecpab
open Go.RowKit

theorem hid {p : Prop} (h : p) : Hid p := h
theorem ret_int {k : IntKind} {a b : Int} (h : a = b) : Ending.returned (.int k a) = .returned (.int k b) := by rw [h]
theorem ret_bool {a b : Bool} (h : a = b) : Ending.returned (.bool a) = .returned (.bool b) := by rw [h]

def isV (v : Int) : Bool := decide (0 ≤ v ∧ v ≤ 9999)

def zig (d : Int) : Int := if 0 ≤ d then 2 * d else -2 * d - 1
def zag (n : Int) : Int := if n % 2 = 0 then n / 2 else -(n / 2) - 1

end Go.Proofs.Ytooinlilplecpab
namespace Go.Proofs.Ytooinlilplecpab
open Go.RowKit

/-- A slice that is only read: of 'len' numbers 'zs', which lie in the first 'len' cells. -/
structure Rd (k : IntKind) (w : World) (a : Option Addr) (len cap : Nat) (zs : List Int) : Prop where
  hlen : zs.length = len
  hcap : len ≤ cap
  hmax : cap ≤ maxLen
  cell : ∀ i, i < len → ∃ b off, a = some ⟨b, off, none⟩ ∧ w.cell? ⟨b, off + i, none⟩ = some (.int k (zs.getD i 0))

theorem Rd.open {k : IntKind} {w : World} {a : Option Addr} {len cap : Nat} {zs : List Int} (h : Rd k w a len cap zs) (hp : 0 < len) :
    ∃ b off, a = some ⟨b, off, none⟩ ∧ ∀ i, i < len → w.cell? ⟨b, off + i, none⟩ = some (.int k (zs.getD i 0)) := by
  obtain ⟨b, off, rfl, _⟩ := h.cell 0 hp
  refine ⟨b, off, rfl, fun i hi => ?_⟩
  obtain ⟨b', off', e, hc⟩ := h.cell i hi
  cases e
  exact hc

def wid : Nat → List Int → Int × Int
  | 0, _ => (0, 3)
  | _ + 1, [] => (0, 2)
  | f + 1, b :: r => if b < 128 then (1, 0) else if (wid f r).2 = 0 then ((wid f r).1 + 1, 0) else (0, (wid f r).2)

/-- Behind k bytes that are all 128 or more. -/
theorem wid_skip : ∀ (k f : Nat) (bs : List Int), k ≤ bs.length → (∀ j, j < k → ¬ bs.getD j 0 < 128) →
    wid (k + f) bs = if (wid f (bs.drop k)).2 = 0 then ((wid f (bs.drop k)).1 + k, 0) else (0, (wid f (bs.drop k)).2)
  | 0, f, bs, _, _ => by
    have e : bs.drop 0 = bs := rfl
    have z : 0 + f = f := by omega
    rw [e, z]
    by_cases h : (wid f bs).2 = 0
    · rw [if_pos h]; exact Prod.ext (by simp) h
    · rw [if_neg h]
      refine Prod.ext ?_ rfl
      cases f with
      | zero => rfl
      | succ f => cases bs with
        | nil => rfl
        | cons b r =>
          unfold wid at h ⊢
          by_cases hb : b < 128
          · simp [hb] at h
          · by_cases h2 : (wid f r).2 = 0 <;> simp [hb, h2] at h ⊢
  | k + 1, f, [], h, _ => by simp at h
  | k + 1, f, b :: r, h, hj => by
    have hb : ¬ b < 128 := by have := hj 0 (by omega); simpa using this
    have ih := wid_skip k f r (by simpa using h) (fun j hjk => by have := hj (j + 1) (by omega); simpa using this)
    have e : k + 1 + f = (k + f) + 1 := by omega
    rw [e]
    show (if b < 128 then _ else _) = _
    rw [if_neg hb, ih]
    simp only [List.drop_succ_cons]
    by_cases h2 : (wid f (List.drop k r)).2 = 0
    · simp [h2]; omega
    · simp [h2]

theorem wid_five (bs : List Int) (h : 5 ≤ bs.length) (hj : ∀ j, j < 5 → ¬ bs.getD j 0 < 128) : wid 5 bs = (0, 3) := by
  have := wid_skip 5 0 bs h hj; simpa [wid] using this
theorem wid_short (k : Nat) (bs : List Int) (hk : k < 5) (h : bs.length = k) (hj : ∀ j, j < k → ¬ bs.getD j 0 < 128) : wid 5 bs = (0, 2) := by
  obtain ⟨f, hf⟩ : ∃ f, 5 = k + (f + 1) := ⟨4 - k, by omega⟩
  have := wid_skip k (f + 1) bs (by omega) hj
  rw [hf, this, List.drop_of_length_le (by omega)]; simp [wid]
theorem wid_at (k : Nat) (bs : List Int) (hk : k < 5) (h : k < bs.length) (hj : ∀ j, j < k → ¬ bs.getD j 0 < 128) (hb : bs.getD k 0 < 128) : wid 5 bs = ((k : Int) + 1, 0) := by
  obtain ⟨f, hf⟩ : ∃ f, 5 = k + (f + 1) := ⟨4 - k, by omega⟩
  have := wid_skip k (f + 1) bs (by omega) hj
  have e : bs.drop k = bs.getD k 0 :: bs.drop (k + 1) := by
    rw [List.drop_eq_getElem_cons h]; simp [List.getD, h]
  rw [hf, this, e]
  unfold wid
  rw [if_pos hb]; simp; omega

theorem ret_two {k l : IntKind} {a b : Int} {p : Int × Int} (h : p = (a, b)) : Ending.returned (.tuple #[.int k a, .int l b]) = .returned (.tuple #[.int k p.1, .int l p.2]) := by rw [h]

def canonB (bs : List Int) : Bool := !(bs.length == 0) && !(decide (1 < bs.length) && bs.getD (bs.length - 1) 0 == 0) && (decide (bs.length < 5) || decide (bs.getD (bs.length - 1) 0 ≤ 7))

def valB : List Int → Int
  | [] => 0
  | b :: r => valB r * 128 + b % 128

theorem valB_drop (bs : List Int) (k : Nat) (h : k < bs.length) : valB (bs.drop k) = valB (bs.drop (k + 1)) * 128 + bs.getD k 0 % 128 := by
  rw [List.drop_eq_getElem_cons h]; simp [valB, List.getD, h]
theorem valB_range : ∀ (bs : List Int), 0 ≤ valB bs ∧ valB bs < 128 ^ bs.length
  | [] => by simp [valB]
  | b :: r => by
    have ih := valB_range r
    have h1 := Int.emod_nonneg b (show (128 : Int) ≠ 0 by decide)
    have h2 := Int.emod_lt_of_pos b (show (0 : Int) < 128 by decide)
    have e : (128 : Int) ^ (b :: r).length = 128 ^ r.length * 128 := by simp [Int.pow_succ]
    rw [e]; unfold valB; omega
theorem valB_small (bs : List Int) (h : bs.length ≤ 5) : 0 ≤ valB bs ∧ valB bs < 34359738368 := by
  have := valB_range bs
  have h2 : (128 : Int) ^ bs.length ≤ 128 ^ 5 := by
    have : ∀ n : Nat, n ≤ 5 → (128 : Int) ^ n ≤ 128 ^ 5 := by
      intro n hn
      match n, hn with
      | 0, _ => decide
      | 1, _ => decide
      | 2, _ => decide
      | 3, _ => decide
      | 4, _ => decide
      | 5, _ => decide
    exact this _ h
  have e : (128 : Int) ^ 5 = 34359738368 := by decide
  omega

end Go.Proofs.Ytooinlilplecpab
namespace Go.Proofs.Ytooinlilplecpab
open Go.RowKit

/-- 'b[l:h]' of a slice that is only read. -/
theorem Rd.cut {k : IntKind} {w : World} {a : Option Addr} {len cap : Nat} {zs : List Int} (h : Rd k w a len cap zs) (l : Nat) (hl : l ≤ len) :
    Rd k w (if cap = l then a else a.map (·.add (l * 1))) (len - l) (cap - l) (zs.drop l) := by
  refine ⟨by rw [List.length_drop, h.hlen], by have := h.hcap; omega, by have := h.hmax; omega, fun i hi => ?_⟩
  obtain ⟨b, off, rfl, hc⟩ := h.cell (l + i) (by omega)
  have hne : cap ≠ l := by have := h.hcap; omega
  refine ⟨b, off + l, by rw [if_neg hne]; simp [Addr.add], ?_⟩
  rw [show off + l + i = off + (l + i) by omega, hc]
  simp [List.getD]

theorem Rd.head {k : IntKind} {w : World} {a : Option Addr} {len cap : Nat} {zs : List Int} (h : Rd k w a len cap zs) (n : Nat) (hn : n ≤ len) :
    Rd k w a n cap (zs.take n) := by
  refine ⟨by rw [List.length_take, h.hlen]; omega, by have := h.hcap; omega, h.hmax, fun i hi => ?_⟩
  obtain ⟨b, off, e, hc⟩ := h.cell i (by omega)
  refine ⟨b, off, e, ?_⟩
  rw [hc]
  simp [List.getD, hi]

/-- What number.Get gives: the number, the place behind it, the error. -/
def getN (bs : List Int) (at_ : Int) : Int × Int × Int :=
  if at_ < 0 ∨ (bs.length : Int) < at_ then (0, 0, 1) else
  let r := bs.drop at_.toNat
  if (wid 5 r).2 ≠ 0 then (0, 0, (wid 5 r).2) else
  if canonB (r.take (wid 5 r).1.toNat) then (valB (r.take (wid 5 r).1.toNat), at_ + (wid 5 r).1, 0) else (0, 0, 3)

theorem ret_three {p : Int × Int × Int} {a b c : Int} (h : p = (a, b, c)) : Ending.returned (.tuple #[.int .i64 a, .int .i64 b, .int .i64 c]) = .returned (.tuple #[.int .i64 p.1, .int .i64 p.2.1, .int .i64 p.2.2]) := by rw [h]

theorem wid_bd : ∀ (f : Nat) (bs : List Int), (wid f bs).2 = 0 → 1 ≤ (wid f bs).1 ∧ (wid f bs).1 ≤ f ∧ (wid f bs).1 ≤ bs.length
  | 0, _, h => by simp [wid] at h
  | f + 1, [], h => by simp [wid] at h
  | f + 1, b :: r, h => by
    unfold wid at h ⊢
    by_cases hb : b < 128
    · simp [hb]; omega
    · by_cases h2 : (wid f r).2 = 0
      · have := wid_bd f r h2
        simp [hb, h2]; omega
      · simp [hb, h2] at h

theorem byte_drop (bs : List Int) (hx : ∀ j, 0 ≤ bs.getD j 0 ∧ bs.getD j 0 ≤ 255) (n m : Nat) : ∀ j, 0 ≤ ((bs.drop n).take m).getD j 0 ∧ ((bs.drop n).take m).getD j 0 ≤ 255 := by
  intro j
  by_cases h : j < m
  · have := hx (n + j)
    simpa [List.getD, List.getElem?_take, h] using this
  · simp [List.getD, List.getElem?_take, h]

end Go.Proofs.Ytooinlilplecpab
namespace Go.Proofs.Ytooinlilplecpab
open Go.RowKit

theorem Rd.below {k : IntKind} {w w' : World} {a : Option Addr} {len cap : Nat} {zs : List Int} (h : Rd k w a len cap zs) {B : Nat} (hb : Below B w w') (hB : w.heap.size ≤ B) : Rd k w' a len cap zs := by
  refine ⟨h.hlen, h.hcap, h.hmax, fun i hi => ?_⟩
  obtain ⟨b, off, e, hc⟩ := h.cell i hi
  exact ⟨b, off, e, (hb.cell (p := ⟨b, off + i, none⟩) (by have := World.block_lt_of_cell? w _ hc; exact Nat.lt_of_lt_of_le this hB)).trans hc⟩

theorem getN_bd (bs : List Int) (at_ : Int) (h : (getN bs at_).2.2 = 0) : 0 ≤ (getN bs at_).1 ∧ (getN bs at_).1 ≤ 34359738368 ∧ 0 ≤ at_ ∧ at_ + 1 ≤ (getN bs at_).2.1 ∧ (getN bs at_).2.1 ≤ bs.length := by
  unfold getN at h ⊢
  by_cases h0 : at_ < 0 ∨ (bs.length : Int) < at_
  · rw [if_pos h0] at h; simp at h
  · rw [if_neg h0] at h ⊢
    simp only at h ⊢
    by_cases h1 : (wid 5 (bs.drop at_.toNat)).2 ≠ 0
    · rw [if_pos h1] at h; exact absurd h h1
    · rw [if_neg h1] at h ⊢
      have hb := wid_bd 5 (bs.drop at_.toNat) (by simpa using h1)
      rw [List.length_drop] at hb
      by_cases h2 : canonB ((bs.drop at_.toNat).take (wid 5 (bs.drop at_.toNat)).1.toNat) = true
      · rw [if_pos h2]
        have := valB_small ((bs.drop at_.toNat).take (wid 5 (bs.drop at_.toNat)).1.toNat) (by rw [List.length_take]; omega)
        refine ⟨by omega, by omega, by omega, by simp only; omega, by simp only; omega⟩
      · rw [if_neg h2] at h; simp at h

def endB (bs : List Int) (at_ : Int) : Bool := decide (0 ≤ at_ ∧ at_ < bs.length) && bs.getD at_.toNat 0 == 0

/-- What table.getSpan gives: the span's Value and Len, the place behind it, the error. -/
def getSp (bs : List Int) (at_ before room : Int) : Int × Int × Int × Int :=
  let p := getN bs at_
  if p.2.2 ≠ 0 then (0, 0, 0, p.2.2) else
  if p.1 = 0 ∨ isV (before + zag p.1) = false then (0, 0, 0, 4) else
  let q := getN bs p.2.1
  if q.2.2 ≠ 0 then (0, 0, 0, q.2.2) else
  if q.1 = 0 ∨ room < q.1 then (0, 0, 0, 4) else (before + zag p.1, q.1, q.2.1, 0)

theorem ret_span {p : Int × Int × Int × Int} {a b c d : Int} (h : p = (a, b, c, d)) :
    Ending.returned (.tuple #[.agg #[.int .i64 a, .int .i64 b], .int .i64 c, .int .i64 d]) = .returned (.tuple #[.agg #[.int .i64 p.1, .int .i64 p.2.1], .int .i64 p.2.2.1, .int .i64 p.2.2.2]) := by rw [h]

theorem zag_bd (n : Int) (h1 : 0 ≤ n) (h2 : n ≤ 34359738368) : -34359738370 ≤ zag n ∧ zag n ≤ 34359738370 := by
  unfold zag; by_cases h : n % 2 = 0
  · rw [if_pos h]; omega
  · rw [if_neg h]; omega

end Go.Proofs.Ytooinlilplecpab
namespace Go.Proofs.Ytooinlilplecpab
open Go.RowKit

def flat (l : List (Int × Int)) : List Value := l.flatMap fun p => [.int .i64 p.1, .int .i64 p.2]
theorem flat_snoc (l : List (Int × Int)) (p : Int × Int) : flat (l ++ [p]) = flat l ++ [.int .i64 p.1, .int .i64 p.2] := by simp [flat]
theorem flat_len (l : List (Int × Int)) : (flat l).length = l.length * 2 := by
  induction l with
  | nil => rfl
  | cons p r ih => simp only [flat, List.flatMap_cons, List.length_append, List.length_cons, List.length_nil] at ih ⊢; omega

def getTF (bs : List Int) : Nat → List (Int × Int) → Int → Int → Int → List (Int × Int) × Int × Int
  | 0, _, _, _, _ => ([], 0, 4)
  | f + 1, acc, at_, before, room =>
    if acc ≠ [] ∧ endB bs at_ = true then (acc, at_ + 1, 0) else
    if (getSp bs at_ before room).2.2.2 ≠ 0 then ([], 0, (getSp bs at_ before room).2.2.2) else
    getTF bs f (acc ++ [((getSp bs at_ before room).1, (getSp bs at_ before room).2.1)]) (getSp bs at_ before room).2.2.1 (getSp bs at_ before room).1 (room - (getSp bs at_ before room).2.1)

theorem getTF_succ (bs : List Int) (f : Nat) (acc : List (Int × Int)) (at_ before room : Int) : getTF bs (f + 1) acc at_ before room =
    if acc ≠ [] ∧ endB bs at_ = true then (acc, at_ + 1, 0) else
    if (getSp bs at_ before room).2.2.2 ≠ 0 then ([], 0, (getSp bs at_ before room).2.2.2) else
    getTF bs f (acc ++ [((getSp bs at_ before room).1, (getSp bs at_ before room).2.1)]) (getSp bs at_ before room).2.2.1 (getSp bs at_ before room).1 (room - (getSp bs at_ before room).2.1) := rfl

def getT (bs : List Int) (at_ : Int) : List (Int × Int) × Int × Int :=
  if at_ < 0 ∨ (bs.length : Int) < at_ then ([], 0, 1) else getTF bs 1001 [] at_ (-1) 1000

theorem getSp_bd (bs : List Int) (at_ before room : Int) (h : (getSp bs at_ before room).2.2.2 = 0) :
    0 ≤ (getSp bs at_ before room).1 ∧ (getSp bs at_ before room).1 ≤ 9999 ∧ 1 ≤ (getSp bs at_ before room).2.1 ∧ (getSp bs at_ before room).2.1 ≤ room ∧
    at_ + 2 ≤ (getSp bs at_ before room).2.2.1 ∧ (getSp bs at_ before room).2.2.1 ≤ bs.length := by
  unfold getSp at h ⊢
  simp only at h ⊢
  by_cases h1 : (getN bs at_).2.2 ≠ 0
  · rw [if_pos h1] at h; exact absurd h h1
  · rw [if_neg h1] at h ⊢
    by_cases h2 : (getN bs at_).1 = 0 ∨ isV (before + zag (getN bs at_).1) = false
    · rw [if_pos h2] at h; simp at h
    · rw [if_neg h2] at h ⊢
      by_cases h3 : (getN bs (getN bs at_).2.1).2.2 ≠ 0
      · rw [if_pos h3] at h; exact absurd h h3
      · rw [if_neg h3] at h ⊢
        by_cases h4 : (getN bs (getN bs at_).2.1).1 = 0 ∨ room < (getN bs (getN bs at_).2.1).1
        · rw [if_pos h4] at h; simp at h
        · rw [if_neg h4]
          have b1 := getN_bd bs at_ (by simpa using h1)
          have b2 := getN_bd bs (getN bs at_).2.1 (by simpa using h3)
          have hv : isV (before + zag (getN bs at_).1) = true := by simpa using fun e => h2 (.inr e)
          unfold isV at hv
          have hv := of_decide_eq_true hv
          refine ⟨hv.1, hv.2, by simp only; omega, by simp only; omega, by simp only; omega, b2.2.2.2.2⟩

theorem owns_form {w : World} {base : Nat} {e : TypeId} {size : Nat} {v : Value} {n : Nat} {xs : List Value} (h : w.ownsRow base e size v n xs) : ∃ a cap, v = .slice a n cap ∧ n ≤ cap ∧ cap ≤ maxLen := by
  rcases h.2 with ⟨rfl, rfl⟩ | ⟨g, cap, cur, rfl, _, _, h1, h2, _⟩
  · exact ⟨none, 0, rfl, Nat.le_refl _, by unfold maxLen; omega⟩
  · exact ⟨_, cap, rfl, h1, h2⟩

theorem owns_below {w w' : World} {base : Nat} {e : TypeId} {size : Nat} {v : Value} {n : Nat} {xs : List Value} (h : w.ownsRow base e size v n xs) (hb : Below w.heap.size w w') : w'.ownsRow base e size v n xs := by
  refine ⟨h.1, ?_⟩
  rcases h.2 with hn | ⟨g, cap, cur, rfl, hg, hh, r⟩
  · exact .inl hn
  · exact .inr ⟨g, cap, cur, rfl, hg, (hb.block g (Array.getElem?_eq_some_iff.1 hh).1).trans hh, r⟩

theorem ret_table {v : Value} {p : List (Int × Int) × Int × Int} {a b : Int} (h : p.2 = (a, b)) :
    Ending.returned (.tuple #[v, .int .i64 a, .int .i64 b]) = .returned (.tuple #[v, .int .i64 p.2.1, .int .i64 p.2.2]) := by rw [h]

end Go.Proofs.Ytooinlilplecpab
namespace Go.Proofs.Ytooinlilplecpab
open Go.RowKit

def numF : Nat → Int → List Int
  | 0, n => [n]
  | f + 1, n => if n < 128 then [n] else (n % 128 + 128) :: numF f (n / 128)
def numB (n : Int) : List Int := numF 4 n
theorem numF_succ (f : Nat) (n : Int) : numF (f + 1) n = if n < 128 then [n] else (n % 128 + 128) :: numF f (n / 128) := rfl
theorem numF_small (f : Nat) (n : Int) (h : n < 128) : numF f n = [n] := by
  cases f with
  | zero => rfl
  | succ f => rw [numF_succ, if_pos h]
theorem numF_len : ∀ (f : Nat) (n : Int), 1 ≤ (numF f n).length ∧ (numF f n).length ≤ f + 1
  | 0, _ => by simp [numF]
  | f + 1, n => by
    rw [numF_succ]
    by_cases h : n < 128
    · rw [if_pos h]; simp
    · rw [if_neg h]; have := numF_len f (n / 128); simp; omega
theorem numB_len (n : Int) : 1 ≤ (numB n).length ∧ (numB n).length ≤ 5 := numF_len 4 n

def u8s (l : List Int) : List Value := l.map (Value.int .u8)
theorem u8s_snoc (l : List Int) (x : Int) : u8s (l ++ [x]) = u8s l ++ [.int .u8 x] := by simp [u8s]
theorem u8s_append (l m : List Int) : u8s (l ++ m) = u8s l ++ u8s m := by simp [u8s]
theorem u8s_len (l : List Int) : (u8s l).length = l.length := by simp [u8s]

theorem Try.infoByte : (Try.prog.info? 5).map (fun i => (i.zero, i.size, i.bytes)) = some (some (.int .u8 0), 1, 1) := by kernel_rfl

def lim : Nat → Int
  | 0 => 128
  | f + 1 => 128 * lim f
theorem lim_step (f : Nat) (m : Int) (h : m < lim (f + 1)) : m / 128 < lim f := by
  have e : lim (f + 1) = 128 * lim f := rfl
  rw [e] at h; omega

/-- The relation of number.Bytes's loop. -/
def RelB (w : World) (n : Int) (m l : Value) (wr : World) : Prop :=
  ∃ (pre : List Int) (f : Nat) (x : Int), m = .int .i64 x ∧ 0 ≤ x ∧ x ≤ 2147483647 ∧ numB n = pre ++ numF f x ∧ x < lim f ∧ pre.length + f = 4 ∧
    wr.ownsRow w.heap.size 5 1 l pre.length (u8s pre) ∧ Below w.heap.size w wr

/-- A slice of spans that is only read. -/
structure RdS (w : World) (a : Option Addr) (len cap : Nat) (l : List (Int × Int)) : Prop where
  hlen : l.length = len
  hcap : len ≤ cap
  hmax : cap ≤ maxLen
  cell : ∀ i, i < len → ∃ b off, a = some ⟨b, off, none⟩ ∧ w.cell? ⟨b, off + i * 2, none⟩ = some (.int .i64 (l.getD i (0, 0)).1) ∧ w.cell? ⟨b, off + i * 2 + 1, none⟩ = some (.int .i64 (l.getD i (0, 0)).2)

theorem RdS.open {w : World} {a : Option Addr} {len cap : Nat} {l : List (Int × Int)} (h : RdS w a len cap l) (hp : 0 < len) :
    ∃ b off, a = some ⟨b, off, none⟩ ∧ ∀ i, i < len → w.cell? ⟨b, off + i * 2, none⟩ = some (.int .i64 (l.getD i (0, 0)).1) ∧ w.cell? ⟨b, off + i * 2 + 1, none⟩ = some (.int .i64 (l.getD i (0, 0)).2) := by
  obtain ⟨b, off, rfl, _⟩ := h.cell 0 hp
  refine ⟨b, off, rfl, fun i hi => ?_⟩
  obtain ⟨b', off', e, hc⟩ := h.cell i hi
  cases e
  exact hc

theorem RdS.below {w w' : World} {a : Option Addr} {len cap : Nat} {l : List (Int × Int)} (h : RdS w a len cap l) {B : Nat} (hb : Below B w w') (hB : w.heap.size ≤ B) : RdS w' a len cap l := by
  refine ⟨h.hlen, h.hcap, h.hmax, fun i hi => ?_⟩
  obtain ⟨b, off, e, hc, hd⟩ := h.cell i hi
  exact ⟨b, off, e, (hb.cell (p := ⟨b, off + i * 2, none⟩) (by have := World.block_lt_of_cell? w _ hc; exact Nat.lt_of_lt_of_le this hB)).trans hc,
    (hb.cell (p := ⟨b, off + i * 2 + 1, none⟩) (by have := World.block_lt_of_cell? w _ hd; exact Nat.lt_of_lt_of_le this hB)).trans hd⟩

def wfS : List (Int × Int) → Int → Int → Bool
  | [], _, _ => true
  | p :: r, before, room => if isV p.1 = false ∨ p.1 = before then false else if p.2 < 1 ∨ room < p.2 then false else wfS r p.1 (room - p.2)
def wfT (l : List (Int × Int)) : Bool := wfS l (-1) 1000 && decide (0 < l.length)

theorem wfS_drop (l : List (Int × Int)) (k : Nat) (b r : Int) (h : k < l.length) :
    wfS (l.drop k) b r = if isV (l.getD k (0, 0)).1 = false ∨ (l.getD k (0, 0)).1 = b then false else if (l.getD k (0, 0)).2 < 1 ∨ r < (l.getD k (0, 0)).2 then false else wfS (l.drop (k + 1)) (l.getD k (0, 0)).1 (r - (l.getD k (0, 0)).2) := by
  have e : l.drop k = l.getD k (0, 0) :: l.drop (k + 1) := by
    rw [List.drop_eq_getElem_cons h]; simp [List.getD, h]
  rw [e]; rfl

/-- The relation of table.WellFormed's loop. -/
def RelW (w : World) (l : List (Int × Int)) (before room i : Value) (wr : World) : Prop :=
  ∃ (k : Nat) (b r : Int), before = .int .i64 b ∧ room = .int .i64 r ∧ i = .int .i64 k ∧ k ≤ l.length ∧ 0 ≤ r ∧ r ≤ 1000 ∧ wfS l (-1) 1000 = wfS (l.drop k) b r ∧ Below w.heap.size w wr

end Go.Proofs.Ytooinlilplecpab
