/- Images as plain data, how they lie in memory, and what Decode reads of some bytes, as plain functions; nothing is claimed of the program here. -/
import Derived.Test.YtooinlilplecpaaDoorK0
import Derived.Test.YtooinlilplecpaaDoorM1
namespace Go.Proofs.YtooinlilplecpaaDoor
open Go.RowKit

structure EntD where
  name : ByteArray
  file : ByteArray
  lines : List (Int × Int)
  index : List (Int × Int)
  tree : List (Int × Int)

/-- Where a reader is: the place of the next item, the place behind it, the error, what was read, how many pcs are left. -/
structure RsD where
  at_ : Int
  to_ : Int
  e : Int
  names : List ByteArray
  files : List ByteArray
  room : Int

def rTake (s : RsD) (b : Bool) : RsD := if s.e ≠ 0 then s else if b = true then { s with at_ := s.to_ } else { s with e := 8 }
def rNum (bs : List Int) (s : RsD) : Int × RsD := if s.e ≠ 0 then (0, s) else ((getN bs s.at_).1, { s with to_ := (getN bs s.at_).2.1, e := (getN bs s.at_).2.2 })
def rTab (bs : List Int) (s : RsD) : List (Int × Int) × RsD := if s.e ≠ 0 then ([], s) else ((getT bs s.at_).1, { s with to_ := (getT bs s.at_).2.1, e := (getT bs s.at_).2.2 })
def rByt (bs : List Int) (s : RsD) (n : Int) : ByteArray × RsD :=
  if s.e ≠ 0 then (ByteArray.empty, s) else
  if (bs.length : Int) - s.at_ < n then (ByteArray.empty, { s with e := 2 }) else
  (strOfNums ((bs.drop s.at_.toNat).take n.toNat), { s with to_ := s.at_ + n })

/-- Where a text stands in a list. -/
def plc (s : ByteArray) : List ByteArray → Nat
  | [] => 0
  | x :: r => if eqB x s = true then 0 else plc s r + 1
def newB (s : ByteArray) (l : List ByteArray) : Bool := wordB s && plc s l == l.length

def rText (bs : List Int) (s : RsD) (l : List ByteArray) : ByteArray × RsD :=
  ((rByt bs (rTake (rNum bs s).2 (decide (1 ≤ (rNum bs s).1 ∧ (rNum bs s).1 ≤ 20))) (rNum bs s).1).1,
    rTake (rByt bs (rTake (rNum bs s).2 (decide (1 ≤ (rNum bs s).1 ∧ (rNum bs s).1 ≤ 20))) (rNum bs s).1).2 (newB (rByt bs (rTake (rNum bs s).2 (decide (1 ≤ (rNum bs s).1 ∧ (rNum bs s).1 ≤ 20))) (rNum bs s).1).1 l))

def rFile (bs : List Int) (s : RsD) : ByteArray × RsD :=
  if (rNum bs s).1 < (s.files.length : Int) then (s.files.getD (rNum bs s).1.toNat ByteArray.empty, rTake (rNum bs s).2 (decide ((rNum bs s).1 ≤ (s.files.length : Int)))) else
  ((rText bs (rTake (rNum bs s).2 (decide ((rNum bs s).1 ≤ (s.files.length : Int)))) s.files).1,
    { (rText bs (rTake (rNum bs s).2 (decide ((rNum bs s).1 ≤ (s.files.length : Int)))) s.files).2 with files := s.files ++ [(rText bs (rTake (rNum bs s).2 (decide ((rNum bs s).1 ≤ (s.files.length : Int)))) s.files).1] })

def mostT (l : List (Int × Int)) : Int := l.foldl (fun n p => if n < p.1 then p.1 else n) 0
def linesB (l : List (Int × Int)) (room : Int) : Bool := l.all (fun p => !(p.1 == 0)) && decide (sumS l ≤ room)
def pcB (pc before k : Int) (inst : List Int) : Bool := decide (before < pc ∧ pc < (inst.length : Int) - 1) && (decide (inst.getD pc.toNat 0 < k) && inst.getD (pc.toNat + 1) 0 == k)

def rNode (bs : List Int) (s : RsD) (inst : List Int) (funcs k before : Int) : (Int × Int) × RsD :=
  (((rNum bs s).1, (rNum bs (rTake (rNum bs s).2 (withB (rNum bs s).1 funcs))).1),
    rTake (rNum bs (rTake (rNum bs s).2 (withB (rNum bs s).1 funcs))).2 (pcB (rNum bs (rTake (rNum bs s).2 (withB (rNum bs s).1 funcs))).1 before k inst))
def rTreeF (bs : List Int) (inst : List Int) (funcs last : Int) : Nat → Int → Int → List (Int × Int) → RsD → List (Int × Int) × RsD
  | 0, _, _, l, s => (l, s)
  | f + 1, k, before, l, s => if k ≤ last ∧ s.e = 0 then rTreeF bs inst funcs last f (k + 1) (rNode bs s inst funcs k before).1.2 (l ++ [(rNode bs s inst funcs k before).1]) (rNode bs s inst funcs k before).2 else (l, s)
def rTree (bs : List Int) (s : RsD) (index : List (Int × Int)) (funcs : Int) : List (Int × Int) × RsD := rTreeF bs (unroll index) funcs (mostT index) (mostT index).toNat 1 (-1) [] s

def entA (bs : List Int) (s : RsD) : RsD := { (rText bs s s.names).2 with names := s.names ++ [(rText bs s s.names).1] }
def entB (bs : List Int) (s : RsD) : RsD := (rFile bs (entA bs s)).2
def entC (bs : List Int) (s : RsD) : List (Int × Int) × RsD := rTab bs (entB bs s)
def entD (bs : List Int) (s : RsD) : RsD := { rTake (entC bs s).2 (linesB (entC bs s).1 (entB bs s).room) with room := (entB bs s).room - sumS (entC bs s).1 }
def entE (bs : List Int) (s : RsD) : List (Int × Int) × RsD := rTab bs (entD bs s)
def entF (bs : List Int) (s : RsD) : RsD := rTake (entE bs s).2 (sumS (entE bs s).1 == sumS (entC bs s).1)
def rEntry (bs : List Int) (s : RsD) (funcs : Int) : EntD × RsD :=
  (⟨(rText bs s s.names).1, (rFile bs (entA bs s)).1, (entC bs s).1, (entE bs s).1, (rTree bs (entF bs s) (entE bs s).1 funcs).1⟩, (rTree bs (entF bs s) (entE bs s).1 funcs).2)

def rHeadF (bs : List Int) : Nat → List Int → RsD → RsD
  | _, [], s => { s with at_ := 3 }
  | k, c :: r, s => if bs.length ≤ k then { s with e := 2 } else if bs.getD k 0 ≠ c then { s with e := 8 } else rHeadF bs (k + 1) r s
def rHead (bs : List Int) (s : RsD) : RsD := rHeadF bs 0 [85, 70, 1] s

def rEnts (bs : List Int) (n : Int) : Nat → List EntD → RsD → List EntD × RsD
  | 0, l, s => (l, s)
  | f + 1, l, s => if s.e = 0 then rEnts bs n f (l ++ [(rEntry bs s n).1]) (rEntry bs s n).2 else (l, s)
def rEnd (bs : List Int) (s : RsD) : RsD := if s.e = 0 ∧ s.at_ < (bs.length : Int) then { s with e := 8 } else s
def rBeg : RsD := ⟨0, 0, 0, [], [], 1000⟩
def rCnt (bs : List Int) : Int × RsD := ((rNum bs (rHead bs rBeg)).1, rTake (rNum bs (rHead bs rBeg)).2 (decide (1 ≤ (rNum bs (rHead bs rBeg)).1 ∧ (rNum bs (rHead bs rBeg)).1 ≤ 12)))
def rAll (bs : List Int) : List EntD × RsD := ((rEnts bs (rCnt bs).1 (rCnt bs).1.toNat [] (rCnt bs).2).1, rEnd bs (rEnts bs (rCnt bs).1 (rCnt bs).1.toNat [] (rCnt bs).2).2)
/-- What Decode answers: the functions, the error, the place. -/
def decI (bs : List Int) : List EntD × Int × Int := if (rAll bs).2.e ≠ 0 then ([], (rAll bs).2.e, (rAll bs).2.at_) else ((rAll bs).1, 0, 0)

/-- How an entry lies, only read. -/
def RdEnt (w : World) (cs : List Value) (x : EntD) : Prop :=
  ∃ la lcap xa xcap ta tcap, cs = [.string x.name, .string x.file, .slice la x.lines.length lcap, .slice xa x.index.length xcap, .slice ta x.tree.length tcap] ∧
    RdS w la x.lines.length lcap x.lines ∧ RdS w xa x.index.length xcap x.index ∧ RdS w ta x.tree.length tcap x.tree ∧ x.name.size ≤ maxLen ∧ x.file.size ≤ maxLen
def RdI (w : World) (a : Option Addr) (len cap : Nat) (l : List EntD) : Prop := RdL 5 RdEnt w a len cap l
theorem RdEnt.below {w w' : World} {cs : List Value} {x : EntD} (h : RdEnt w cs x) (hb : Below w.heap.size w w') : RdEnt w' cs x := by
  obtain ⟨la, lcap, xa, xcap, ta, tcap, e, h1, h2, h3, h4, h5⟩ := h
  exact ⟨la, lcap, xa, xcap, ta, tcap, e, h1.below hb (Nat.le_refl _), h2.below hb (Nat.le_refl _), h3.below hb (Nat.le_refl _), h4, h5⟩
theorem RdI.below {w w' : World} {a : Option Addr} {len cap : Nat} {l : List EntD} (h : RdI w a len cap l) (hb : Below w.heap.size w w') : RdI w' a len cap l :=
  RdL.below h hb (fun _ _ h => h.below hb)
end Go.Proofs.YtooinlilplecpaaDoor
