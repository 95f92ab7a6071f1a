/- Images as plain data, how they lie in memory, and what Decode reads of some bytes, as plain functions; nothing is claimed of the program here. Mathematics of the bytes of numbers and tables: what is read as a number or as a table is written as just the bytes that were read. -/
import Derived.Test.YtebjndcokkefhaaDoorZ6
namespace Go.Proofs.YtebjndcokkefhaaDoor
open Go.RowKit

structure EntD where
  name : ByteArray
  file : ByteArray
  lines : List (Int × Int)
  index : List (Int × Int)
  tree : List (Int × Int)

/-- Where a reader is: the place of the next item, the place behind it, the error, what was read, how many pcs are left. -/
structure RsD where
  at_ : Int
  to_ : Int
  e : Int
  names : List ByteArray
  files : List ByteArray
  room : Int

def rTake (s : RsD) (b : Bool) : RsD := if s.e ≠ 0 then s else if b = true then { s with at_ := s.to_ } else { s with e := 8 }
def rNum (bs : List Int) (s : RsD) : Int × RsD := if s.e ≠ 0 then (0, s) else ((getN bs s.at_).1, { s with to_ := (getN bs s.at_).2.1, e := (getN bs s.at_).2.2 })
def rTab (bs : List Int) (s : RsD) : List (Int × Int) × RsD := if s.e ≠ 0 then ([], s) else ((getT bs s.at_).1, { s with to_ := (getT bs s.at_).2.1, e := (getT bs s.at_).2.2 })
def rByt (bs : List Int) (s : RsD) (n : Int) : ByteArray × RsD :=
  if s.e ≠ 0 then (ByteArray.empty, s) else
  if (bs.length : Int) - s.at_ < n then (ByteArray.empty, { s with e := 2 }) else
  (strOfNums ((bs.drop s.at_.toNat).take n.toNat), { s with to_ := s.at_ + n })

/-- Where a text stands in a list. -/
def plc (s : ByteArray) : List ByteArray → Nat
  | [] => 0
  | x :: r => if eqB x s = true then 0 else plc s r + 1
def newB (s : ByteArray) (l : List ByteArray) : Bool := wordB s && plc s l == l.length

def rText (bs : List Int) (s : RsD) (l : List ByteArray) : ByteArray × RsD :=
  ((rByt bs (rTake (rNum bs s).2 (decide (1 ≤ (rNum bs s).1 ∧ (rNum bs s).1 ≤ 20))) (rNum bs s).1).1,
    rTake (rByt bs (rTake (rNum bs s).2 (decide (1 ≤ (rNum bs s).1 ∧ (rNum bs s).1 ≤ 20))) (rNum bs s).1).2 (newB (rByt bs (rTake (rNum bs s).2 (decide (1 ≤ (rNum bs s).1 ∧ (rNum bs s).1 ≤ 20))) (rNum bs s).1).1 l))

def rFile (bs : List Int) (s : RsD) : ByteArray × RsD :=
  if (rNum bs s).1 < (s.files.length : Int) then (s.files.getD (rNum bs s).1.toNat ByteArray.empty, rTake (rNum bs s).2 (decide ((rNum bs s).1 ≤ (s.files.length : Int)))) else
  ((rText bs (rTake (rNum bs s).2 (decide ((rNum bs s).1 ≤ (s.files.length : Int)))) s.files).1,
    { (rText bs (rTake (rNum bs s).2 (decide ((rNum bs s).1 ≤ (s.files.length : Int)))) s.files).2 with files := s.files ++ [(rText bs (rTake (rNum bs s).2 (decide ((rNum bs s).1 ≤ (s.files.length : Int)))) s.files).1] })

def mostT (l : List (Int × Int)) : Int := l.foldl (fun n p => if n < p.1 then p.1 else n) 0
def linesB (l : List (Int × Int)) (room : Int) : Bool := l.all (fun p => !(p.1 == 0)) && decide (sumS l ≤ room)
def pcB (pc before k : Int) (inst : List Int) : Bool := decide (before < pc ∧ pc < (inst.length : Int) - 1) && (decide (inst.getD pc.toNat 0 < k) && inst.getD (pc.toNat + 1) 0 == k)

def rNode (bs : List Int) (s : RsD) (inst : List Int) (funcs k before : Int) : (Int × Int) × RsD :=
  (((rNum bs s).1, (rNum bs (rTake (rNum bs s).2 (withB (rNum bs s).1 funcs))).1),
    rTake (rNum bs (rTake (rNum bs s).2 (withB (rNum bs s).1 funcs))).2 (pcB (rNum bs (rTake (rNum bs s).2 (withB (rNum bs s).1 funcs))).1 before k inst))
def rTreeF (bs : List Int) (inst : List Int) (funcs last : Int) : Nat → Int → Int → List (Int × Int) → RsD → List (Int × Int) × RsD
  | 0, _, _, l, s => (l, s)
  | f + 1, k, before, l, s => if k ≤ last ∧ s.e = 0 then rTreeF bs inst funcs last f (k + 1) (rNode bs s inst funcs k before).1.2 (l ++ [(rNode bs s inst funcs k before).1]) (rNode bs s inst funcs k before).2 else (l, s)
def rTree (bs : List Int) (s : RsD) (index : List (Int × Int)) (funcs : Int) : List (Int × Int) × RsD := rTreeF bs (unroll index) funcs (mostT index) (mostT index).toNat 1 (-1) [] s

def entA (bs : List Int) (s : RsD) : RsD := { (rText bs s s.names).2 with names := s.names ++ [(rText bs s s.names).1] }
def entB (bs : List Int) (s : RsD) : RsD := (rFile bs (entA bs s)).2
def entC (bs : List Int) (s : RsD) : List (Int × Int) × RsD := rTab bs (entB bs s)
def entD (bs : List Int) (s : RsD) : RsD := { rTake (entC bs s).2 (linesB (entC bs s).1 (entB bs s).room) with room := (entB bs s).room - sumS (entC bs s).1 }
def entE (bs : List Int) (s : RsD) : List (Int × Int) × RsD := rTab bs (entD bs s)
def entF (bs : List Int) (s : RsD) : RsD := rTake (entE bs s).2 (sumS (entE bs s).1 == sumS (entC bs s).1)
def rEntry (bs : List Int) (s : RsD) (funcs : Int) : EntD × RsD :=
  (⟨(rText bs s s.names).1, (rFile bs (entA bs s)).1, (entC bs s).1, (entE bs s).1, (rTree bs (entF bs s) (entE bs s).1 funcs).1⟩, (rTree bs (entF bs s) (entE bs s).1 funcs).2)

def rHeadF (bs : List Int) : Nat → List Int → RsD → RsD
  | _, [], s => { s with at_ := 3 }
  | k, c :: r, s => if bs.length ≤ k then { s with e := 2 } else if bs.getD k 0 ≠ c then { s with e := 8 } else rHeadF bs (k + 1) r s
def rHead (bs : List Int) (s : RsD) : RsD := rHeadF bs 0 [85, 70, 1] s

def rEnts (bs : List Int) (n : Int) : Nat → List EntD → RsD → List EntD × RsD
  | 0, l, s => (l, s)
  | f + 1, l, s => if s.e = 0 then rEnts bs n f (l ++ [(rEntry bs s n).1]) (rEntry bs s n).2 else (l, s)
def rEnd (bs : List Int) (s : RsD) : RsD := if s.e = 0 ∧ s.at_ < (bs.length : Int) then { s with e := 8 } else s
def rBeg : RsD := ⟨0, 0, 0, [], [], 1000⟩
def rCnt (bs : List Int) : Int × RsD := ((rNum bs (rHead bs rBeg)).1, rTake (rNum bs (rHead bs rBeg)).2 (decide (1 ≤ (rNum bs (rHead bs rBeg)).1 ∧ (rNum bs (rHead bs rBeg)).1 ≤ 12)))
def rAll (bs : List Int) : List EntD × RsD := ((rEnts bs (rCnt bs).1 (rCnt bs).1.toNat [] (rCnt bs).2).1, rEnd bs (rEnts bs (rCnt bs).1 (rCnt bs).1.toNat [] (rCnt bs).2).2)
/-- What Decode answers: the functions, the error, the place. -/
def decI (bs : List Int) : List EntD × Int × Int := if (rAll bs).2.e ≠ 0 then ([], (rAll bs).2.e, (rAll bs).2.at_) else ((rAll bs).1, 0, 0)

/-- How an entry lies, only read. -/
def RdEnt (w : World) (cs : List Value) (x : EntD) : Prop :=
  ∃ la lcap xa xcap ta tcap, cs = [.string x.name, .string x.file, .slice la x.lines.length lcap, .slice xa x.index.length xcap, .slice ta x.tree.length tcap] ∧
    RdS w la x.lines.length lcap x.lines ∧ RdS w xa x.index.length xcap x.index ∧ RdS w ta x.tree.length tcap x.tree ∧ x.name.size ≤ maxLen ∧ x.file.size ≤ maxLen
def RdI (w : World) (a : Option Addr) (len cap : Nat) (l : List EntD) : Prop := RdL 5 RdEnt w a len cap l
theorem RdEnt.below {w w' : World} {cs : List Value} {x : EntD} (h : RdEnt w cs x) (hb : Below w.heap.size w w') : RdEnt w' cs x := by
  obtain ⟨la, lcap, xa, xcap, ta, tcap, e, h1, h2, h3, h4, h5⟩ := h
  exact ⟨la, lcap, xa, xcap, ta, tcap, e, h1.below hb (Nat.le_refl _), h2.below hb (Nat.le_refl _), h3.below hb (Nat.le_refl _), h4, h5⟩
theorem RdI.below {w w' : World} {a : Option Addr} {len cap : Nat} {l : List EntD} (h : RdI w a len cap l) (hb : Below w.heap.size w w') : RdI w' a len cap l :=
  RdL.below h hb (fun _ _ h => h.below hb)
end Go.Proofs.YtebjndcokkefhaaDoor
namespace Go.Proofs.YtebjndcokkefhaaDoor
open Go.RowKit

/-- From the place a to the place b stand the bytes x. -/
def Eats (bs : List Int) (a : Int) (x : List Int) (b : Int) : Prop := 0 ≤ a ∧ b = a + x.length ∧ b ≤ bs.length ∧ bs.drop a.toNat = x ++ bs.drop b.toNat

theorem Eats.trans {bs x y : List Int} {a b c : Int} (h : Eats bs a x b) (h' : Eats bs b y c) : Eats bs a (x ++ y) c := by
  obtain ⟨h1, h2, h3, h4⟩ := h
  obtain ⟨g1, g2, g3, g4⟩ := h'
  exact ⟨h1, by rw [List.length_append]; omega, g3, by rw [h4, g4, List.append_assoc]⟩
theorem Eats.nil {bs : List Int} {a : Int} (h0 : 0 ≤ a) (h1 : a ≤ bs.length) : Eats bs a [] a := ⟨h0, by simp, h1, rfl⟩
theorem Eats.of_take {bs x : List Int} {a : Int} (h0 : 0 ≤ a) (h1 : a + x.length ≤ bs.length) (h : (bs.drop a.toNat).take x.length = x) : Eats bs a x (a + x.length) := by
  refine ⟨h0, rfl, h1, ?_⟩
  have e : (a + (x.length : Int)).toNat = a.toNat + x.length := by omega
  rw [e, ← List.drop_drop]
  conv => lhs; rw [← List.take_append_drop x.length (bs.drop a.toNat), h]

theorem wid_form : ∀ (f : Nat) (bs : List Int) (k : Nat), wid f bs = ((k : Int), 0) → ∃ x b, x.length + 1 = k ∧ bs.take k = x ++ [b] ∧ b < 128 ∧ (∀ y ∈ x, ¬ y < 128) ∧ k ≤ f ∧ k ≤ bs.length
  | 0, _, _, h => by simp [wid] at h
  | f + 1, [], _, h => by simp [wid] at h
  | f + 1, b :: r, k, h => by
    unfold wid at h
    by_cases hb : b < 128
    · rw [if_pos hb] at h
      have : k = 1 := by simp at h; omega
      subst this
      exact ⟨[], b, rfl, rfl, hb, by simp, by omega, by simp⟩
    · rw [if_neg hb] at h
      by_cases h2 : (wid f r).2 = 0
      · rw [if_pos h2] at h
        have hk : (wid f r).1 + 1 = (k : Int) := by simpa using h
        have hbd := wid_bd f r h2
        obtain ⟨m, hm⟩ := Int.eq_ofNat_of_zero_le (show 0 ≤ (wid f r).1 by omega)
        obtain ⟨x, c, e1, e2, e3, e4, e5, e6⟩ := wid_form f r m (Prod.ext hm h2)
        have hkm : k = m + 1 := by omega
        subst hkm
        refine ⟨b :: x, c, by simp; omega, by rw [List.take_succ_cons, e2]; rfl, e3, ?_, by omega, by simp; omega⟩
        intro y hy
        rcases List.mem_cons.1 hy with rfl | hy
        · exact hb
        · exact e4 y hy
      · rw [if_neg h2] at h
        simp at h
        exact absurd h.2 h2

theorem numF_of : ∀ (f : Nat) (x : List Int) (b : Int), x.length ≤ f → 0 ≤ b → b < 128 → (∀ y ∈ x, 128 ≤ y ∧ y ≤ 255) → (x ≠ [] → b ≠ 0) → numF f (valB (x ++ [b])) = x ++ [b] ∧ (b ≠ 0 → 1 ≤ valB (x ++ [b]))
  | f, [], b, _, h0, h1, _, _ => by
    have e : valB ([] ++ [b]) = b := by simp [valB]; omega
    rw [e]
    exact ⟨numF_small f b h1, fun h => by omega⟩
  | 0, y :: x, b, h, _, _, _, _ => by simp at h
  | f + 1, y :: x, b, h, h0, h1, hy, hb => by
    have hb0 : b ≠ 0 := hb (by simp)
    obtain ⟨ih1, ih2⟩ := numF_of f x b (by simpa using h) h0 h1 (fun z hz => hy z (List.mem_cons_of_mem _ hz)) (fun _ => hb0)
    have hv := ih2 hb0
    have hyb := hy y (List.mem_cons_self ..)
    have e : valB (y :: x ++ [b]) = valB (x ++ [b]) * 128 + y % 128 := rfl
    have hm : y % 128 = y - 128 := by omega
    rw [e, numF_succ, if_neg (by omega)]
    have e1 : (valB (x ++ [b]) * 128 + y % 128) % 128 + 128 = y := by omega
    have e2 : (valB (x ++ [b]) * 128 + y % 128) / 128 = valB (x ++ [b]) := by omega
    rw [e1, e2, ih1]
    exact ⟨rfl, fun _ => by omega⟩

theorem valB_top : ∀ (x : List Int) (b : Int), 0 ≤ b → b < 128 → valB (x ++ [b]) < (b + 1) * 128 ^ x.length
  | [], b, h0, h1 => by simp [valB]; omega
  | y :: x, b, h0, h1 => by
    have ih := valB_top x b h0 h1
    have e : valB (y :: x ++ [b]) = valB (x ++ [b]) * 128 + y % 128 := rfl
    have h2 := Int.emod_lt_of_pos y (show (0 : Int) < 128 by decide)
    have e3 : (b + 1) * 128 ^ (y :: x).length = ((b + 1) * 128 ^ x.length) * 128 := by rw [List.length_cons, Int.pow_succ, Int.mul_assoc]
    rw [e, e3]
    omega

theorem getN_inv (bs : List Int) (hx : ∀ j, 0 ≤ bs.getD j 0 ∧ bs.getD j 0 ≤ 255) (at_ : Int) (h : (getN bs at_).2.2 = 0) :
    Eats bs at_ (numB (getN bs at_).1) (getN bs at_).2.1 ∧ 0 ≤ (getN bs at_).1 ∧ (getN bs at_).1 ≤ 2147483647 := by
  have hbd := getN_bd bs at_ h
  unfold getN at h hbd ⊢
  by_cases h0 : at_ < 0 ∨ (bs.length : Int) < at_
  · rw [if_pos h0] at h; simp at h
  · rw [if_neg h0] at h hbd ⊢
    simp only at h hbd ⊢
    obtain ⟨r, hr⟩ : ∃ r, r = bs.drop at_.toNat := ⟨_, rfl⟩
    rw [← hr] at h hbd ⊢
    by_cases h1 : (wid 5 r).2 ≠ 0
    · rw [if_pos h1] at h; exact absurd h h1
    · rw [if_neg h1] at h hbd ⊢
      by_cases h2 : canonB (r.take (wid 5 r).1.toNat) = true
      · rw [if_pos h2] at hbd ⊢
        simp only at hbd ⊢
        have hw2 : (wid 5 r).2 = 0 := by simpa using h1
        have hwb := wid_bd 5 r hw2
        obtain ⟨k, hk⟩ := Int.eq_ofNat_of_zero_le (show 0 ≤ (wid 5 r).1 by omega)
        obtain ⟨x, b, e1, e2, e3, e4, e5, e6⟩ := wid_form 5 r k (Prod.ext hk hw2)
        have hkn : (wid 5 r).1.toNat = k := by omega
        rw [hkn] at h2 hbd ⊢
        rw [e2] at h2 hbd ⊢
        have hmem : ∀ y ∈ x ++ [b], 0 ≤ y ∧ y ≤ 255 := by
          intro y hy
          rw [← e2] at hy
          obtain ⟨i, hi, rfl⟩ := List.getElem_of_mem hy
          have hi' : i < k := by rw [List.length_take] at hi; omega
          have := hx (at_.toNat + i)
          have e7 : (r.take k)[i] = bs.getD (at_.toNat + i) 0 := by
            have hlt : at_.toNat + i < bs.length := by rw [hr, List.length_drop] at e6; omega
            subst hr
            simp [List.getD, hlt]
          rw [e7]; exact this
        have hb0 := (hmem b (by simp)).1
        have hl : (x ++ [b]).length = k := by simp; omega
        have hlast : (x ++ [b]).getD ((x ++ [b]).length - 1) 0 = b := by simp [List.getD]
        unfold canonB at h2
        rw [hlast] at h2
        simp at h2
        have hnum : numF 4 (valB (x ++ [b])) = x ++ [b] := (numF_of 4 x b (by omega) hb0 e3 (fun y hy => ⟨by have := e4 y hy; omega, (hmem y (by simp [hy])).2⟩) (fun hne hbz => by
          have h3 := h2.1
          rcases h3 with h3 | h3
          · exact hne h3
          · exact h3 hbz)).1
        have hnB : numB (valB (x ++ [b])) = x ++ [b] := hnum
        rw [hnB]
        refine ⟨?_, hbd.1, ?_⟩
        · have := Eats.of_take (bs := bs) (x := x ++ [b]) (a := at_) (by omega) (by rw [hl]; omega) (by rw [hl, ← hr]; exact e2)
          rw [hl] at this
          rw [hk]
          exact this
        · have ht := valB_top x b hb0 e3
          have hxl : x.length ≤ 4 := by omega
          have hcase : ∀ n : Nat, n ≤ 4 → x.length = n → valB (x ++ [b]) ≤ 2147483647 := by
            intro n hn hxn
            rw [hxn] at ht
            match n, hn, hxn with
            | 0, _, _ => simp at ht; omega
            | 1, _, _ => simp at ht; omega
            | 2, _, _ => simp at ht; omega
            | 3, _, _ => simp at ht; omega
            | 4, _, hxn =>
              have h4 := h2.2
              simp at ht
              rcases h4 with h4 | h4 <;> omega
          exact hcase x.length hxl rfl
      · rw [if_neg h2] at h; simp at h

theorem zig_zag (n : Int) (h : 0 ≤ n) : zig (zag n) = n := by
  unfold zag
  split
  · unfold zig; split <;> omega
  · unfold zig; split <;> omega

theorem getSp_inv (bs : List Int) (hx : ∀ j, 0 ≤ bs.getD j 0 ∧ bs.getD j 0 ≤ 255) (at_ b r : Int) (h : (getSp bs at_ b r).2.2.2 = 0) :
    Eats bs at_ (numB (zig ((getSp bs at_ b r).1 - b)) ++ numB (getSp bs at_ b r).2.1) (getSp bs at_ b r).2.2.1 ∧ isV (getSp bs at_ b r).1 = true ∧ (getSp bs at_ b r).1 ≠ b ∧ 1 ≤ (getSp bs at_ b r).2.1 ∧ (getSp bs at_ b r).2.1 ≤ r := by
  unfold getSp at h ⊢
  simp only at h ⊢
  by_cases h1 : (getN bs at_).2.2 ≠ 0
  · rw [if_pos h1] at h; exact absurd h h1
  · rw [if_neg h1] at h ⊢
    by_cases h2 : (getN bs at_).1 = 0 ∨ isV (b + zag (getN bs at_).1) = false
    · rw [if_pos h2] at h; simp at h
    · rw [if_neg h2] at h ⊢
      by_cases h3 : (getN bs (getN bs at_).2.1).2.2 ≠ 0
      · rw [if_pos h3] at h; exact absurd h h3
      · rw [if_neg h3] at h ⊢
        by_cases h4 : (getN bs (getN bs at_).2.1).1 = 0 ∨ r < (getN bs (getN bs at_).2.1).1
        · rw [if_pos h4] at h; simp at h
        · rw [if_neg h4]
          obtain ⟨g1, g2, g3⟩ := getN_inv bs hx at_ (by simpa using h1)
          obtain ⟨k1, k2, k3⟩ := getN_inv bs hx _ (by simpa using h3)
          simp only
          have e : b + zag (getN bs at_).1 - b = zag (getN bs at_).1 := by omega
          rw [e, zig_zag _ g2]
          refine ⟨g1.trans k1, by simpa using fun e => h2 (.inr e), ?_, by omega, by omega⟩
          intro hz
          have : zag (getN bs at_).1 = 0 := by omega
          have h5 := zig_zag _ g2
          rw [this] at h5
          simp [zig] at h5
          exact h2 (.inl h5.symm)

theorem getTF_inv (bs : List Int) (hx : ∀ j, 0 ≤ bs.getD j 0 ∧ bs.getD j 0 ≤ 255) : ∀ (f : Nat) (acc : List (Int × Int)) (at_ b r : Int), 0 ≤ at_ → at_ ≤ bs.length → 0 ≤ r → (getTF bs f acc at_ b r).2.2 = 0 →
    ∃ l, (getTF bs f acc at_ b r).1 = acc ++ l ∧ Eats bs at_ (putS l b) (getTF bs f acc at_ b r).2.1 ∧ wfN l b ∧ sumS l ≤ r ∧ acc ++ l ≠ []
  | 0, acc, at_, b, r, _, _, _, h => by simp [getTF] at h
  | f + 1, acc, at_, b, r, h0, h1, hr, h => by
    rw [getTF_succ] at h ⊢
    by_cases he : acc ≠ [] ∧ endB bs at_ = true
    · rw [if_pos he]
      refine ⟨[], by simp, ?_, trivial, by simpa [sumS] using hr, by simpa using he.1⟩
      have hb := he.2
      unfold endB at hb
      rw [Bool.and_eq_true] at hb
      obtain ⟨hb1, hb2⟩ := hb
      have hb1 := of_decide_eq_true hb1
      have hlt : at_.toNat < bs.length := by omega
      have hz : bs.getD at_.toNat 0 = 0 := by simpa using hb2
      show Eats bs at_ [0] (at_ + 1)
      have := Eats.of_take (bs := bs) (x := [0]) (a := at_) h0 (by simp; omega) (by
        rw [List.drop_eq_getElem_cons hlt]
        simp [List.getD, hlt] at hz
        simp [hz])
      simpa using this
    · rw [if_neg he] at h ⊢
      by_cases hs : (getSp bs at_ b r).2.2.2 ≠ 0
      · rw [if_pos hs] at h; exact absurd h hs
      · rw [if_neg hs] at h ⊢
        have hs0 : (getSp bs at_ b r).2.2.2 = 0 := by simpa using hs
        obtain ⟨g1, g2, g3, g4, g5⟩ := getSp_inv bs hx at_ b r hs0
        obtain ⟨l, e1, e2, e3, e4, e5⟩ := getTF_inv bs hx f _ (getSp bs at_ b r).2.2.1 (getSp bs at_ b r).1 (r - (getSp bs at_ b r).2.1) (by have := g1.2.1; have := g1.1; omega) g1.2.2.1 (by omega) h
        refine ⟨((getSp bs at_ b r).1, (getSp bs at_ b r).2.1) :: l, by rw [e1]; simp, ?_, ⟨g2, g3, g4, e3⟩, by simp only [sumS]; omega, by simp⟩
        have := g1.trans e2
        simpa [putS] using this

theorem getT_inv (bs : List Int) (hx : ∀ j, 0 ≤ bs.getD j 0 ∧ bs.getD j 0 ≤ 255) (at_ : Int) (h : (getT bs at_).2.2 = 0) : Eats bs at_ (putS (getT bs at_).1 (-1)) (getT bs at_).2.1 ∧ wfT (getT bs at_).1 = true := by
  unfold getT at h ⊢
  by_cases h0 : at_ < 0 ∨ (bs.length : Int) < at_
  · rw [if_pos h0] at h; simp at h
  · rw [if_neg h0] at h ⊢
    obtain ⟨l, e1, e2, e3, e4, e5⟩ := getTF_inv bs hx 1001 [] at_ (-1) 1000 (by omega) (by omega) (by omega) h
    have e : ([] : List (Int × Int)) ++ l = l := rfl
    rw [e] at e1 e5
    rw [e1]
    exact ⟨e2, (wfT_iff l).2 ⟨⟨e3, e4⟩, e5⟩⟩
end Go.Proofs.YtebjndcokkefhaaDoor
