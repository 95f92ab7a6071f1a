/- Mathematics of the bytes of numbers and tables: what is read as a number or as a table is written as just the bytes that were read. Mathematics of images: what the plain reader takes for an image is well-formed, and is written as just the bytes that were read; what it refuses has one of four errors, at a place of the list or at its end. -/
import Derived.Test.YtffnfjkjlmlonaaGreatDoorZ14
namespace Go.Proofs.YtffnfjkjlmlonaaGreatDoor
open Go.RowKit

/-- From the place a to the place b stand the bytes x. -/
def Eats (bs : List Int) (a : Int) (x : List Int) (b : Int) : Prop := 0 ≤ a ∧ b = a + x.length ∧ b ≤ bs.length ∧ bs.drop a.toNat = x ++ bs.drop b.toNat

theorem Eats.trans {bs x y : List Int} {a b c : Int} (h : Eats bs a x b) (h' : Eats bs b y c) : Eats bs a (x ++ y) c := by
  obtain ⟨h1, h2, h3, h4⟩ := h
  obtain ⟨g1, g2, g3, g4⟩ := h'
  exact ⟨h1, by rw [List.length_append]; omega, g3, by rw [h4, g4, List.append_assoc]⟩
theorem Eats.nil {bs : List Int} {a : Int} (h0 : 0 ≤ a) (h1 : a ≤ bs.length) : Eats bs a [] a := ⟨h0, by simp, h1, rfl⟩
theorem Eats.of_take {bs x : List Int} {a : Int} (h0 : 0 ≤ a) (h1 : a + x.length ≤ bs.length) (h : (bs.drop a.toNat).take x.length = x) : Eats bs a x (a + x.length) := by
  refine ⟨h0, rfl, h1, ?_⟩
  have e : (a + (x.length : Int)).toNat = a.toNat + x.length := by omega
  rw [e, ← List.drop_drop]
  conv => lhs; rw [← List.take_append_drop x.length (bs.drop a.toNat), h]

theorem wid_form : ∀ (f : Nat) (bs : List Int) (k : Nat), wid f bs = ((k : Int), 0) → ∃ x b, x.length + 1 = k ∧ bs.take k = x ++ [b] ∧ b < 128 ∧ (∀ y ∈ x, ¬ y < 128) ∧ k ≤ f ∧ k ≤ bs.length
  | 0, _, _, h => by simp [wid] at h
  | f + 1, [], _, h => by simp [wid] at h
  | f + 1, b :: r, k, h => by
    unfold wid at h
    by_cases hb : b < 128
    · rw [if_pos hb] at h
      have : k = 1 := by simp at h; omega
      subst this
      exact ⟨[], b, rfl, rfl, hb, by simp, by omega, by simp⟩
    · rw [if_neg hb] at h
      by_cases h2 : (wid f r).2 = 0
      · rw [if_pos h2] at h
        have hk : (wid f r).1 + 1 = (k : Int) := by simpa using h
        have hbd := wid_bd f r h2
        obtain ⟨m, hm⟩ := Int.eq_ofNat_of_zero_le (show 0 ≤ (wid f r).1 by omega)
        obtain ⟨x, c, e1, e2, e3, e4, e5, e6⟩ := wid_form f r m (Prod.ext hm h2)
        have hkm : k = m + 1 := by omega
        subst hkm
        refine ⟨b :: x, c, by simp; omega, by rw [List.take_succ_cons, e2]; rfl, e3, ?_, by omega, by simp; omega⟩
        intro y hy
        rcases List.mem_cons.1 hy with rfl | hy
        · exact hb
        · exact e4 y hy
      · rw [if_neg h2] at h
        simp at h
        exact absurd h.2 h2

theorem numF_of : ∀ (f : Nat) (x : List Int) (b : Int), x.length ≤ f → 0 ≤ b → b < 128 → (∀ y ∈ x, 128 ≤ y ∧ y ≤ 255) → (x ≠ [] → b ≠ 0) → numF f (valB (x ++ [b])) = x ++ [b] ∧ (b ≠ 0 → 1 ≤ valB (x ++ [b]))
  | f, [], b, _, h0, h1, _, _ => by
    have e : valB ([] ++ [b]) = b := by simp [valB]; omega
    rw [e]
    exact ⟨numF_small f b h1, fun h => by omega⟩
  | 0, y :: x, b, h, _, _, _, _ => by simp at h
  | f + 1, y :: x, b, h, h0, h1, hy, hb => by
    have hb0 : b ≠ 0 := hb (by simp)
    obtain ⟨ih1, ih2⟩ := numF_of f x b (by simpa using h) h0 h1 (fun z hz => hy z (List.mem_cons_of_mem _ hz)) (fun _ => hb0)
    have hv := ih2 hb0
    have hyb := hy y (List.mem_cons_self ..)
    have e : valB (y :: x ++ [b]) = valB (x ++ [b]) * 128 + y % 128 := rfl
    have hm : y % 128 = y - 128 := by omega
    rw [e, numF_succ, if_neg (by omega)]
    have e1 : (valB (x ++ [b]) * 128 + y % 128) % 128 + 128 = y := by omega
    have e2 : (valB (x ++ [b]) * 128 + y % 128) / 128 = valB (x ++ [b]) := by omega
    rw [e1, e2, ih1]
    exact ⟨rfl, fun _ => by omega⟩

theorem valB_top : ∀ (x : List Int) (b : Int), 0 ≤ b → b < 128 → valB (x ++ [b]) < (b + 1) * 128 ^ x.length
  | [], b, h0, h1 => by simp [valB]; omega
  | y :: x, b, h0, h1 => by
    have ih := valB_top x b h0 h1
    have e : valB (y :: x ++ [b]) = valB (x ++ [b]) * 128 + y % 128 := rfl
    have h2 := Int.emod_lt_of_pos y (show (0 : Int) < 128 by decide)
    have e3 : (b + 1) * 128 ^ (y :: x).length = ((b + 1) * 128 ^ x.length) * 128 := by rw [List.length_cons, Int.pow_succ, Int.mul_assoc]
    rw [e, e3]
    omega

theorem getN_inv (bs : List Int) (hx : ∀ j, 0 ≤ bs.getD j 0 ∧ bs.getD j 0 ≤ 255) (at_ : Int) (h : (getN bs at_).2.2 = 0) :
    Eats bs at_ (numB (getN bs at_).1) (getN bs at_).2.1 ∧ 0 ≤ (getN bs at_).1 ∧ (getN bs at_).1 ≤ 2147483647 := by
  have hbd := getN_bd bs at_ h
  unfold getN at h hbd ⊢
  by_cases h0 : at_ < 0 ∨ (bs.length : Int) < at_
  · rw [if_pos h0] at h; simp at h
  · rw [if_neg h0] at h hbd ⊢
    simp only at h hbd ⊢
    obtain ⟨r, hr⟩ : ∃ r, r = bs.drop at_.toNat := ⟨_, rfl⟩
    rw [← hr] at h hbd ⊢
    by_cases h1 : (wid 5 r).2 ≠ 0
    · rw [if_pos h1] at h; exact absurd h h1
    · rw [if_neg h1] at h hbd ⊢
      by_cases h2 : canonB (r.take (wid 5 r).1.toNat) = true
      · rw [if_pos h2] at hbd ⊢
        simp only at hbd ⊢
        have hw2 : (wid 5 r).2 = 0 := by simpa using h1
        have hwb := wid_bd 5 r hw2
        obtain ⟨k, hk⟩ := Int.eq_ofNat_of_zero_le (show 0 ≤ (wid 5 r).1 by omega)
        obtain ⟨x, b, e1, e2, e3, e4, e5, e6⟩ := wid_form 5 r k (Prod.ext hk hw2)
        have hkn : (wid 5 r).1.toNat = k := by omega
        rw [hkn] at h2 hbd ⊢
        rw [e2] at h2 hbd ⊢
        have hmem : ∀ y ∈ x ++ [b], 0 ≤ y ∧ y ≤ 255 := by
          intro y hy
          rw [← e2] at hy
          obtain ⟨i, hi, rfl⟩ := List.getElem_of_mem hy
          have hi' : i < k := by rw [List.length_take] at hi; omega
          have := hx (at_.toNat + i)
          have e7 : (r.take k)[i] = bs.getD (at_.toNat + i) 0 := by
            have hlt : at_.toNat + i < bs.length := by rw [hr, List.length_drop] at e6; omega
            subst hr
            simp [List.getD, hlt]
          rw [e7]; exact this
        have hb0 := (hmem b (by simp)).1
        have hl : (x ++ [b]).length = k := by simp; omega
        have hlast : (x ++ [b]).getD ((x ++ [b]).length - 1) 0 = b := by simp [List.getD]
        unfold canonB at h2
        rw [hlast] at h2
        simp at h2
        have hnum : numF 4 (valB (x ++ [b])) = x ++ [b] := (numF_of 4 x b (by omega) hb0 e3 (fun y hy => ⟨by have := e4 y hy; omega, (hmem y (by simp [hy])).2⟩) (fun hne hbz => by
          have h3 := h2.1
          rcases h3 with h3 | h3
          · exact hne h3
          · exact h3 hbz)).1
        have hnB : numB (valB (x ++ [b])) = x ++ [b] := hnum
        rw [hnB]
        refine ⟨?_, hbd.1, ?_⟩
        · have := Eats.of_take (bs := bs) (x := x ++ [b]) (a := at_) (by omega) (by rw [hl]; omega) (by rw [hl, ← hr]; exact e2)
          rw [hl] at this
          rw [hk]
          exact this
        · have ht := valB_top x b hb0 e3
          have hxl : x.length ≤ 4 := by omega
          have hcase : ∀ n : Nat, n ≤ 4 → x.length = n → valB (x ++ [b]) ≤ 2147483647 := by
            intro n hn hxn
            rw [hxn] at ht
            match n, hn, hxn with
            | 0, _, _ => simp at ht; omega
            | 1, _, _ => simp at ht; omega
            | 2, _, _ => simp at ht; omega
            | 3, _, _ => simp at ht; omega
            | 4, _, hxn =>
              have h4 := h2.2
              simp at ht
              rcases h4 with h4 | h4 <;> omega
          exact hcase x.length hxl rfl
      · rw [if_neg h2] at h; simp at h

theorem zig_zag (n : Int) (h : 0 ≤ n) : zig (zag n) = n := by
  unfold zag
  split
  · unfold zig; split <;> omega
  · unfold zig; split <;> omega

theorem getSp_inv (bs : List Int) (hx : ∀ j, 0 ≤ bs.getD j 0 ∧ bs.getD j 0 ≤ 255) (at_ b r : Int) (h : (getSp bs at_ b r).2.2.2 = 0) :
    Eats bs at_ (numB (zig ((getSp bs at_ b r).1 - b)) ++ numB (getSp bs at_ b r).2.1) (getSp bs at_ b r).2.2.1 ∧ isV (getSp bs at_ b r).1 = true ∧ (getSp bs at_ b r).1 ≠ b ∧ 1 ≤ (getSp bs at_ b r).2.1 ∧ (getSp bs at_ b r).2.1 ≤ r := by
  unfold getSp at h ⊢
  simp only at h ⊢
  by_cases h1 : (getN bs at_).2.2 ≠ 0
  · rw [if_pos h1] at h; exact absurd h h1
  · rw [if_neg h1] at h ⊢
    by_cases h2 : (getN bs at_).1 = 0 ∨ isV (b + zag (getN bs at_).1) = false
    · rw [if_pos h2] at h; simp at h
    · rw [if_neg h2] at h ⊢
      by_cases h3 : (getN bs (getN bs at_).2.1).2.2 ≠ 0
      · rw [if_pos h3] at h; exact absurd h h3
      · rw [if_neg h3] at h ⊢
        by_cases h4 : (getN bs (getN bs at_).2.1).1 = 0 ∨ r < (getN bs (getN bs at_).2.1).1
        · rw [if_pos h4] at h; simp at h
        · rw [if_neg h4]
          obtain ⟨g1, g2, g3⟩ := getN_inv bs hx at_ (by simpa using h1)
          obtain ⟨k1, k2, k3⟩ := getN_inv bs hx _ (by simpa using h3)
          simp only
          have e : b + zag (getN bs at_).1 - b = zag (getN bs at_).1 := by omega
          rw [e, zig_zag _ g2]
          refine ⟨g1.trans k1, by simpa using fun e => h2 (.inr e), ?_, by omega, by omega⟩
          intro hz
          have : zag (getN bs at_).1 = 0 := by omega
          have h5 := zig_zag _ g2
          rw [this] at h5
          simp [zig] at h5
          exact h2 (.inl h5.symm)

theorem getTF_inv (bs : List Int) (hx : ∀ j, 0 ≤ bs.getD j 0 ∧ bs.getD j 0 ≤ 255) : ∀ (f : Nat) (acc : List (Int × Int)) (at_ b r : Int), 0 ≤ at_ → at_ ≤ bs.length → 0 ≤ r → (getTF bs f acc at_ b r).2.2 = 0 →
    ∃ l, (getTF bs f acc at_ b r).1 = acc ++ l ∧ Eats bs at_ (putS l b) (getTF bs f acc at_ b r).2.1 ∧ wfN l b ∧ sumS l ≤ r ∧ acc ++ l ≠ []
  | 0, acc, at_, b, r, _, _, _, h => by simp [getTF] at h
  | f + 1, acc, at_, b, r, h0, h1, hr, h => by
    rw [getTF_succ] at h ⊢
    by_cases he : acc ≠ [] ∧ endB bs at_ = true
    · rw [if_pos he]
      refine ⟨[], by simp, ?_, trivial, by simpa [sumS] using hr, by simpa using he.1⟩
      have hb := he.2
      unfold endB at hb
      rw [Bool.and_eq_true] at hb
      obtain ⟨hb1, hb2⟩ := hb
      have hb1 := of_decide_eq_true hb1
      have hlt : at_.toNat < bs.length := by omega
      have hz : bs.getD at_.toNat 0 = 0 := by simpa using hb2
      show Eats bs at_ [0] (at_ + 1)
      have := Eats.of_take (bs := bs) (x := [0]) (a := at_) h0 (by simp; omega) (by
        rw [List.drop_eq_getElem_cons hlt]
        simp [List.getD, hlt] at hz
        simp [hz])
      simpa using this
    · rw [if_neg he] at h ⊢
      by_cases hs : (getSp bs at_ b r).2.2.2 ≠ 0
      · rw [if_pos hs] at h; exact absurd h hs
      · rw [if_neg hs] at h ⊢
        have hs0 : (getSp bs at_ b r).2.2.2 = 0 := by simpa using hs
        obtain ⟨g1, g2, g3, g4, g5⟩ := getSp_inv bs hx at_ b r hs0
        obtain ⟨l, e1, e2, e3, e4, e5⟩ := getTF_inv bs hx f _ (getSp bs at_ b r).2.2.1 (getSp bs at_ b r).1 (r - (getSp bs at_ b r).2.1) (by have := g1.2.1; have := g1.1; omega) g1.2.2.1 (by omega) h
        refine ⟨((getSp bs at_ b r).1, (getSp bs at_ b r).2.1) :: l, by rw [e1]; simp, ?_, ⟨g2, g3, g4, e3⟩, by simp only [sumS]; omega, by simp⟩
        have := g1.trans e2
        simpa [putS] using this

theorem getT_inv (bs : List Int) (hx : ∀ j, 0 ≤ bs.getD j 0 ∧ bs.getD j 0 ≤ 255) (at_ : Int) (h : (getT bs at_).2.2 = 0) : Eats bs at_ (putS (getT bs at_).1 (-1)) (getT bs at_).2.1 ∧ wfT (getT bs at_).1 = true := by
  unfold getT at h ⊢
  by_cases h0 : at_ < 0 ∨ (bs.length : Int) < at_
  · rw [if_pos h0] at h; simp at h
  · rw [if_neg h0] at h ⊢
    obtain ⟨l, e1, e2, e3, e4, e5⟩ := getTF_inv bs hx 1001 [] at_ (-1) 1000 (by omega) (by omega) (by omega) h
    have e : ([] : List (Int × Int)) ++ l = l := rfl
    rw [e] at e1 e5
    rw [e1]
    exact ⟨e2, (wfT_iff l).2 ⟨⟨e3, e4⟩, e5⟩⟩
end Go.Proofs.YtffnfjkjlmlonaaGreatDoor
namespace Go.Proofs.YtffnfjkjlmlonaaGreatDoor
open Go.RowKit

def textB (s : ByteArray) : List Int := numB s.size ++ byteL s
def nodesB (l : List (Int × Int)) : List Int := l.flatMap fun p => numB p.1 ++ numB p.2
def fileB (s : ByteArray) (files : List ByteArray) : List Int := numB (plc s files) ++ (if plc s files = files.length then textB s else [])
def filesD (s : ByteArray) (files : List ByteArray) : List ByteArray := if plc s files = files.length then files ++ [s] else files
def entB' (x : EntD) (files : List ByteArray) : List Int := textB x.name ++ (fileB x.file files ++ (putS x.lines (-1) ++ (putS x.index (-1) ++ nodesB x.tree)))
def encF : List EntD → List ByteArray → List Int
  | [], _ => []
  | x :: r, files => entB' x files ++ encF r (filesD x.file files)
/-- The bytes of an image. -/
def encI (l : List EntD) : List Int := [85, 70, 1] ++ (numB l.length ++ encF l [])

def treeOk (funcs : Int) (inst : List Int) : List (Int × Int) → Int → Int → Bool
  | [], _, _ => true
  | p :: r, k, before => (withB p.1 funcs && pcB p.2 before k inst) && treeOk funcs inst r (k + 1) p.2
def entOk (n : Int) (x : EntD) (names : List ByteArray) (room : Int) : Bool :=
  (newB x.name names && wordB x.file) && (((wfT x.lines && wfT x.index) && (linesB x.lines room && sumS x.index == sumS x.lines)) && ((x.tree.length : Int) == mostT x.index && treeOk n (unroll x.index) x.tree 1 (-1)))
def wfIF (n : Int) : List EntD → List ByteArray → Int → Bool
  | [], _, _ => true
  | x :: r, names, room => entOk n x names room && wfIF n r (names ++ [x.name]) (room - sumS x.lines)
/-- Is an image well-formed? -/
def wfI (l : List EntD) : Bool := decide (1 ≤ l.length ∧ l.length ≤ 12) && wfIF l.length l [] 1000

theorem rTake_ok {s : RsD} {b : Bool} (h : (rTake s b).e = 0) : s.e = 0 ∧ b = true ∧ rTake s b = { s with at_ := s.to_ } := by
  unfold rTake at h ⊢
  by_cases h0 : s.e ≠ 0
  · rw [if_pos h0] at h; exact absurd h h0
  · rw [if_neg h0] at h ⊢
    by_cases hb : b = true
    · rw [if_pos hb]; exact ⟨by simpa using h0, hb, rfl⟩
    · rw [if_neg hb] at h; simp at h

theorem rNum_ok {bs : List Int} (hx : ∀ j, 0 ≤ bs.getD j 0 ∧ bs.getD j 0 ≤ 255) {s : RsD} (h : (rNum bs s).2.e = 0) :
    s.e = 0 ∧ 0 ≤ (rNum bs s).1 ∧ (rNum bs s).1 ≤ 2147483647 ∧ ∃ t, (rNum bs s).2 = { s with to_ := t } ∧ Eats bs s.at_ (numB (rNum bs s).1) t := by
  unfold rNum at h ⊢
  by_cases h0 : s.e ≠ 0
  · rw [if_pos h0] at h; exact absurd h h0
  · rw [if_neg h0] at h ⊢
    simp only at h ⊢
    obtain ⟨g1, g2, g3⟩ := getN_inv bs hx s.at_ h
    refine ⟨by simpa using h0, g2, g3, _, ?_, g1⟩
    have : s.e = 0 := by simpa using h0
    rw [h, this]

theorem rTab_ok {bs : List Int} (hx : ∀ j, 0 ≤ bs.getD j 0 ∧ bs.getD j 0 ≤ 255) {s : RsD} (h : (rTab bs s).2.e = 0) :
    s.e = 0 ∧ wfT (rTab bs s).1 = true ∧ ∃ t, (rTab bs s).2 = { s with to_ := t } ∧ Eats bs s.at_ (putS (rTab bs s).1 (-1)) t := by
  unfold rTab at h ⊢
  by_cases h0 : s.e ≠ 0
  · rw [if_pos h0] at h; exact absurd h h0
  · rw [if_neg h0] at h ⊢
    simp only at h ⊢
    obtain ⟨g1, g2⟩ := getT_inv bs hx s.at_ h
    refine ⟨by simpa using h0, g2, _, ?_, g1⟩
    have : s.e = 0 := by simpa using h0
    rw [h, this]

theorem byteL_str (xs : List Int) (h : ∀ x ∈ xs, 0 ≤ x ∧ x ≤ 255) : byteL (strOfNums xs) = xs := by
  unfold byteL
  rw [strOfNums_data, List.map_map]
  conv => rhs; rw [← List.map_id xs]
  refine List.map_congr_left fun x hx => ?_
  have := h x hx
  simp
  omega

theorem rByt_ok {bs : List Int} (hx : ∀ j, 0 ≤ bs.getD j 0 ∧ bs.getD j 0 ≤ 255) {s : RsD} {n : Int} (hn : 0 ≤ n) (h0 : 0 ≤ s.at_) (h : (rByt bs s n).2.e = 0) :
    s.e = 0 ∧ (rByt bs s n).2 = { s with to_ := s.at_ + n } ∧ Eats bs s.at_ (byteL (rByt bs s n).1) (s.at_ + n) ∧ ((rByt bs s n).1.size : Int) = n := by
  unfold rByt at h ⊢
  by_cases he : s.e ≠ 0
  · rw [if_pos he] at h; exact absurd h he
  · rw [if_neg he] at h ⊢
    by_cases hl : (bs.length : Int) - s.at_ < n
    · rw [if_pos hl] at h; simp at h
    · rw [if_neg hl]
      simp only
      have hlen : ((bs.drop s.at_.toNat).take n.toNat).length = n.toNat := by rw [List.length_take, List.length_drop]; omega
      have hby : ∀ x ∈ (bs.drop s.at_.toNat).take n.toNat, 0 ≤ x ∧ x ≤ 255 := by
        intro y hy
        obtain ⟨i, hi, rfl⟩ := List.getElem_of_mem hy
        rw [hlen] at hi
        have hlt : s.at_.toNat + i < bs.length := by omega
        have := hx (s.at_.toNat + i)
        simpa [List.getD, hlt] using this
      rw [byteL_str _ hby, strOfNums_size, hlen]
      refine ⟨by simpa using he, trivial, ?_, by omega⟩
      have := Eats.of_take (bs := bs) (x := (bs.drop s.at_.toNat).take n.toNat) (a := s.at_) h0 (by rw [hlen]; omega) (by rw [hlen])
      rw [hlen] at this
      have e : s.at_ + (n.toNat : Int) = s.at_ + n := by omega
      rwa [e] at this

theorem rText_ok {bs : List Int} (hx : ∀ j, 0 ≤ bs.getD j 0 ∧ bs.getD j 0 ≤ 255) {s : RsD} {l : List ByteArray} (h : (rText bs s l).2.e = 0) :
    s.e = 0 ∧ newB (rText bs s l).1 l = true ∧ ∃ a t, (rText bs s l).2 = { s with at_ := a, to_ := t } ∧ Eats bs s.at_ (textB (rText bs s l).1) a := by
  unfold rText at h ⊢
  simp only at h ⊢
  obtain ⟨⟨n, s1⟩, hn⟩ : ∃ p, rNum bs s = p := ⟨_, rfl⟩
  rw [hn] at h ⊢
  simp only at h ⊢
  obtain ⟨s2, hs2⟩ : ∃ p, rTake s1 (decide (1 ≤ n ∧ n ≤ 20)) = p := ⟨_, rfl⟩
  rw [hs2] at h ⊢
  obtain ⟨h1, h2, h3⟩ := rTake_ok h
  have h4 : s2.e = 0 := by
    unfold rByt at h1
    by_cases he : s2.e ≠ 0
    · rw [if_pos he] at h1; exact h1
    · simpa using he
  rw [← hs2] at h4
  obtain ⟨k1, k2, k3⟩ := rTake_ok h4
  rw [hs2] at k3
  have hk := of_decide_eq_true k2
  have hr := rNum_ok hx (s := s) (by rw [hn]; exact k1)
  rw [hn] at hr
  obtain ⟨r1, r2, r3, t, r4, r5⟩ := hr
  simp only at r4 r5
  subst r4
  simp only at k3
  subst k3
  obtain ⟨b1, b2, b3, b4⟩ := rByt_ok hx (s := { s with at_ := t, to_ := t }) (n := n) (by omega) (by have := r5.1; have := r5.2.1; simp only; omega) h1
  refine ⟨r1, h2, t + n, t + n, ?_, ?_⟩
  · rw [h3, b2]
  · unfold textB
    rw [b4]
    exact r5.trans b3

/-- No two of the texts are the same. -/
def Dis (l : List ByteArray) : Prop := ∀ i j, i < j → j < l.length → eqB (l.getD i ByteArray.empty) (l.getD j ByteArray.empty) = false

theorem eqB_refl (a : ByteArray) : eqB a a = true := by unfold eqB; simp
theorem plc_le (s : ByteArray) : ∀ l : List ByteArray, plc s l ≤ l.length
  | [] => by simp [plc]
  | x :: r => by unfold plc; split <;> simp; exact plc_le s r
theorem plc_spec (s : ByteArray) : ∀ (l : List ByteArray) (n : Nat), n < l.length → eqB (l.getD n ByteArray.empty) s = true → (∀ i, i < n → eqB (l.getD i ByteArray.empty) s = false) → plc s l = n
  | [], n, h, _, _ => by simp at h
  | x :: r, 0, _, h, _ => by unfold plc; rw [if_pos (by simpa using h)]
  | x :: r, n + 1, h, h1, h2 => by
    unfold plc
    have h3 := h2 0 (by omega)
    rw [if_neg (by simpa using h3), plc_spec s r n (by simpa using h) (by simpa using h1) (fun i hi => by simpa using h2 (i + 1) (by omega))]
theorem plc_none (s : ByteArray) : ∀ (l : List ByteArray), plc s l = l.length → ∀ i, i < l.length → eqB (l.getD i ByteArray.empty) s = false
  | [], _, i, h => by simp at h
  | x :: r, h, i, hi => by
    unfold plc at h
    by_cases hx : eqB x s = true
    · rw [if_pos hx] at h; simp at h
    · rw [if_neg hx] at h
      cases i with
      | zero => simpa using hx
      | succ i => simpa using plc_none s r (by simpa using h) i (by simpa using hi)
theorem Dis.plc {l : List ByteArray} (h : Dis l) {n : Nat} (hn : n < l.length) : plc (l.getD n ByteArray.empty) l = n :=
  plc_spec _ l n hn (eqB_refl _) (fun i hi => h i n hi hn)
theorem Dis.snoc {l : List ByteArray} (h : Dis l) {s : ByteArray} (hs : Proofs.YtffnfjkjlmlonaaGreatDoor.plc s l = l.length) : Dis (l ++ [s]) := by
  intro i j hij hj
  rw [List.length_append] at hj
  simp at hj
  have e1 : ∀ k, k < l.length → (l ++ [s]).getD k ByteArray.empty = l.getD k ByteArray.empty := fun k hk => by simp [List.getD, List.getElem?_append_left hk]
  rcases Nat.lt_or_ge j l.length with hjl | hjl
  · rw [e1 i (by omega), e1 j hjl]; exact h i j hij hjl
  · have hje : j = l.length := by omega
    subst hje
    rw [e1 i hij]
    have e2 : (l ++ [s]).getD l.length ByteArray.empty = s := by simp [List.getD]
    rw [e2]
    exact plc_none s l hs i hij

/-- What was read so far of files. -/
def Files (l : List ByteArray) : Prop := Dis l ∧ ∀ x ∈ l, wordB x = true

theorem rFile_ok {bs : List Int} (hx : ∀ j, 0 ≤ bs.getD j 0 ∧ bs.getD j 0 ≤ 255) {s : RsD} (hf : Files s.files) (h : (rFile bs s).2.e = 0) :
    s.e = 0 ∧ wordB (rFile bs s).1 = true ∧ Files (filesD (rFile bs s).1 s.files) ∧ ∃ a t, (rFile bs s).2 = { s with at_ := a, to_ := t, files := filesD (rFile bs s).1 s.files } ∧ Eats bs s.at_ (fileB (rFile bs s).1 s.files) a := by
  unfold rFile at h ⊢
  obtain ⟨⟨n, s1⟩, hn⟩ : ∃ p, rNum bs s = p := ⟨_, rfl⟩
  rw [hn] at h ⊢
  simp only at h ⊢
  by_cases hl : n < (s.files.length : Int)
  · rw [if_pos hl] at h ⊢
    simp only at h ⊢
    obtain ⟨k1, k2, k3⟩ := rTake_ok h
    have hr := rNum_ok hx (s := s) (by rw [hn]; exact k1)
    rw [hn] at hr
    obtain ⟨r1, r2, r3, t, r4, r5⟩ := hr
    simp only at r2 r4 r5
    subst r4
    have hnl : n.toNat < s.files.length := by omega
    have hp : plc (s.files.getD n.toNat ByteArray.empty) s.files = n.toNat := hf.1.plc hnl
    have hne : ¬ plc (s.files.getD n.toNat ByteArray.empty) s.files = s.files.length := by omega
    have hmem : s.files.getD n.toNat ByteArray.empty ∈ s.files := by
      rw [List.getD_eq_getElem?_getD, List.getElem?_eq_getElem hnl]; exact List.getElem_mem _
    unfold filesD fileB
    rw [if_neg hne, if_neg hne, hp]
    refine ⟨r1, hf.2 _ hmem, hf, t, t, k3, ?_⟩
    have e : ((n.toNat : Nat) : Int) = n := by omega
    rw [e, List.append_nil]
    exact r5
  · rw [if_neg hl] at h ⊢
    simp only at h ⊢
    obtain ⟨s2, hs2⟩ : ∃ p, rTake s1 (decide (n ≤ (s.files.length : Int))) = p := ⟨_, rfl⟩
    rw [hs2] at h ⊢
    obtain ⟨b1, b2, a, t', b3, b4⟩ := rText_ok hx h
    rw [← hs2] at b1
    obtain ⟨k1, k2, k3⟩ := rTake_ok b1
    rw [hs2] at k3
    have hr := rNum_ok hx (s := s) (by rw [hn]; exact k1)
    rw [hn] at hr
    obtain ⟨r1, r2, r3, t, r4, r5⟩ := hr
    simp only at r2 r4 r5
    subst r4
    simp only at k3
    subst k3
    have hne : n = (s.files.length : Int) := by have := of_decide_eq_true k2; omega
    unfold newB at b2
    rw [Bool.and_eq_true] at b2
    have hp : plc (rText bs { s with at_ := t, to_ := t } s.files).1 s.files = s.files.length := by simpa using b2.2
    unfold filesD fileB
    rw [if_pos hp, if_pos hp, hp]
    refine ⟨r1, b2.1, ⟨hf.1.snoc hp, ?_⟩, a, t', ?_, ?_⟩
    · intro x hxm
      rcases List.mem_append.1 hxm with hm | hm
      · exact hf.2 x hm
      · rw [List.mem_singleton.1 hm]; exact b2.1
    · rw [b3]
    · rw [hne] at r5
      exact r5.trans b4

theorem rNode_ok {bs : List Int} (hx : ∀ j, 0 ≤ bs.getD j 0 ∧ bs.getD j 0 ≤ 255) {s : RsD} {inst : List Int} {funcs k before : Int} (h : (rNode bs s inst funcs k before).2.e = 0) :
    s.e = 0 ∧ (withB (rNode bs s inst funcs k before).1.1 funcs && pcB (rNode bs s inst funcs k before).1.2 before k inst) = true ∧ ∃ a t, (rNode bs s inst funcs k before).2 = { s with at_ := a, to_ := t } ∧ Eats bs s.at_ (numB (rNode bs s inst funcs k before).1.1 ++ numB (rNode bs s inst funcs k before).1.2) a := by
  unfold rNode at h ⊢
  simp only at h ⊢
  obtain ⟨⟨n, s1⟩, hn⟩ : ∃ p, rNum bs s = p := ⟨_, rfl⟩
  rw [hn] at h ⊢
  simp only at h ⊢
  obtain ⟨s2, hs2⟩ : ∃ p, rTake s1 (withB n funcs) = p := ⟨_, rfl⟩
  rw [hs2] at h ⊢
  obtain ⟨⟨m, s3⟩, hm⟩ : ∃ p, rNum bs s2 = p := ⟨_, rfl⟩
  rw [hm] at h ⊢
  simp only at h ⊢
  obtain ⟨h1, h2, h3⟩ := rTake_ok h
  have hr2 := rNum_ok hx (s := s2) (by rw [hm]; exact h1)
  rw [hm] at hr2
  obtain ⟨q1, q2, q3, t2, q4, q5⟩ := hr2
  simp only at q4 q5
  rw [← hs2] at q1
  obtain ⟨k1, k2, k3⟩ := rTake_ok q1
  rw [hs2] at k3
  have hr := rNum_ok hx (s := s) (by rw [hn]; exact k1)
  rw [hn] at hr
  obtain ⟨r1, r2, r3, t, r4, r5⟩ := hr
  simp only at r4 r5
  subst r4
  simp only at k3
  subst k3
  simp only at q4 q5
  subst q4
  refine ⟨r1, by rw [k2, h2]; rfl, t2, t2, by rw [h3], r5.trans q5⟩

theorem rTreeF_ok {bs : List Int} (hx : ∀ j, 0 ≤ bs.getD j 0 ∧ bs.getD j 0 ≤ 255) (inst : List Int) (funcs last : Int) : ∀ (f : Nat) (k before : Int) (l : List (Int × Int)) (s : RsD), 0 ≤ s.at_ → s.at_ ≤ bs.length → last + 1 - k = f → (rTreeF bs inst funcs last f k before l s).2.e = 0 →
    s.e = 0 ∧ ∃ l' a t, (rTreeF bs inst funcs last f k before l s).1 = l ++ l' ∧ l'.length = f ∧ treeOk funcs inst l' k before = true ∧ (rTreeF bs inst funcs last f k before l s).2 = { s with at_ := a, to_ := t } ∧ Eats bs s.at_ (nodesB l') a
  | 0, k, before, l, s, h0, h1, _, h => ⟨h, [], s.at_, s.to_, by simp [rTreeF], rfl, rfl, rfl, Eats.nil h0 h1⟩
  | f + 1, k, before, l, s, h0, h1, hk, h => by
    unfold rTreeF at h ⊢
    by_cases hc : k ≤ last ∧ s.e = 0
    · rw [if_pos hc] at h ⊢
      have hna : 0 ≤ (rNode bs s inst funcs k before).2.at_ ∧ (rNode bs s inst funcs k before).2.at_ ≤ bs.length ∨ (rNode bs s inst funcs k before).2.e ≠ 0 := by
        by_cases he : (rNode bs s inst funcs k before).2.e = 0
        · obtain ⟨_, _, a, t, e, hE⟩ := rNode_ok hx he
          rw [e]
          exact .inl ⟨by have := hE.1; have := hE.2.1; simp only; omega, hE.2.2.1⟩
        · exact .inr he
      have hne : (rNode bs s inst funcs k before).2.e = 0 := by
        by_cases he : (rNode bs s inst funcs k before).2.e = 0
        · exact he
        · exfalso
          have hst : ∀ (g : Nat) (k' b' : Int) (l' : List (Int × Int)) (s' : RsD), s'.e ≠ 0 → (rTreeF bs inst funcs last g k' b' l' s').2.e ≠ 0 := by
            intro g k' b' l' s' hs'
            cases g with
            | zero => exact hs'
            | succ g => unfold rTreeF; rw [if_neg (fun hh => hs' hh.2)]; exact hs'
          exact hst _ _ _ _ _ he h
      obtain ⟨n1, n2, a, t, n3, n4⟩ := rNode_ok hx hne
      have hb := hna.resolve_right (fun hh => hh hne)
      obtain ⟨_, l', a', t', e1, e2, e3, e4, e5⟩ := rTreeF_ok hx inst funcs last f (k + 1) (rNode bs s inst funcs k before).1.2 (l ++ [(rNode bs s inst funcs k before).1]) (rNode bs s inst funcs k before).2 hb.1 hb.2 (by omega) h
      rw [n3] at e4 e5
      simp only at e4 e5
      refine ⟨hc.2, (rNode bs s inst funcs k before).1 :: l', a', t', by rw [e1]; simp, by simp [e2], ?_, by rw [n3]; exact e4, ?_⟩
      · unfold treeOk
        rw [n2, e3]; rfl
      · have := n4.trans e5
        simpa [nodesB] using this
    · rw [if_neg hc] at h
      exfalso
      exact hc ⟨by omega, h⟩

theorem mostT_ge : ∀ (l : List (Int × Int)) (n : Int), n ≤ l.foldl (fun n p => if n < p.1 then p.1 else n) n
  | [], n => by simp
  | p :: r, n => by
    rw [List.foldl_cons]
    refine Int.le_trans ?_ (mostT_ge r (if n < p.1 then p.1 else n))
    split <;> omega
theorem mostT_nn (l : List (Int × Int)) : 0 ≤ mostT l := mostT_ge l 0

theorem rTree_ok {bs : List Int} (hx : ∀ j, 0 ≤ bs.getD j 0 ∧ bs.getD j 0 ≤ 255) {s : RsD} {index : List (Int × Int)} {funcs : Int} (h0 : 0 ≤ s.at_) (h1 : s.at_ ≤ bs.length) (h : (rTree bs s index funcs).2.e = 0) :
    s.e = 0 ∧ ((rTree bs s index funcs).1.length : Int) = mostT index ∧ treeOk funcs (unroll index) (rTree bs s index funcs).1 1 (-1) = true ∧ ∃ a t, (rTree bs s index funcs).2 = { s with at_ := a, to_ := t } ∧ Eats bs s.at_ (nodesB (rTree bs s index funcs).1) a := by
  unfold rTree at h ⊢
  have := mostT_nn index
  obtain ⟨g1, l', a, t, g2, g3, g4, g5, g6⟩ := rTreeF_ok hx (unroll index) funcs (mostT index) (mostT index).toNat 1 (-1) [] s h0 h1 (by omega) h
  rw [List.nil_append] at g2
  rw [g2]
  exact ⟨g1, by omega, g4, a, t, g5, g6⟩
end Go.Proofs.YtffnfjkjlmlonaaGreatDoor
