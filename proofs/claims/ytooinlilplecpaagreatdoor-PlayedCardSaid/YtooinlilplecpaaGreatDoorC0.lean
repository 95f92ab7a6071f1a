/- Programs as plain data, how they lie in memory, and what Check asks of them, as plain functions; nothing is claimed of the program here. -/
import Derived.Test.YtooinlilplecpaaGreatDoorW6
namespace Go.Proofs.YtooinlilplecpaaGreatDoor
open Go.RowKit

structure OpD where
  code : Int
  line : Int
  a : Int
  b : Int
  c : Int
  args : List Int
structure FnD where
  name : ByteArray
  file : ByteArray
  params : Int
  locals : Int
  body : List OpD

/-- A slice of elements of so many cells each, that is only read. -/
def RdL {α : Type} (size : Nat) (R : World → List Value → α → Prop) (w : World) (a : Option Addr) (len cap : Nat) (l : List α) : Prop :=
  l.length = len ∧ len ≤ cap ∧ cap ≤ maxLen ∧ ∀ i x, l[i]? = some x → ∃ b off cs, a = some ⟨b, off, none⟩ ∧ cs.length = size ∧ (∀ j v, cs[j]? = some v → w.cell? ⟨b, off + i * size + j, none⟩ = some v) ∧ R w cs x

theorem RdL.below {α : Type} {size : Nat} {R : World → List Value → α → Prop} {w w' : World} {a : Option Addr} {len cap : Nat} {l : List α} (h : RdL size R w a len cap l) (hb : Below w.heap.size w w')
    (hR : ∀ cs x, R w cs x → R w' cs x) : RdL size R w' a len cap l := by
  obtain ⟨h1, h2, h3, h4⟩ := h
  refine ⟨h1, h2, h3, fun i x hx => ?_⟩
  obtain ⟨b, off, cs, e, hl, hc, hr⟩ := h4 i x hx
  refine ⟨b, off, cs, e, hl, fun j v hj => ?_, hR cs x hr⟩
  have := hc j v hj
  exact (hb.cell (p := ⟨b, off + i * size + j, none⟩) (World.block_lt_of_cell? w _ this)).trans this

def R64 (n : Int) : Prop := -9223372036854775808 ≤ n ∧ n ≤ 9223372036854775807

def RdOp (w : World) (cs : List Value) (o : OpD) : Prop :=
  ∃ a cap, cs = [.int .i64 o.code, .int .i64 o.line, .int .i64 o.a, .int .i64 o.b, .int .i64 o.c, .slice a o.args.length cap] ∧ Rd .i64 w a o.args.length cap o.args
def RdFn (w : World) (cs : List Value) (f : FnD) : Prop :=
  ∃ a cap, cs = [.string f.name, .string f.file, .int .i64 f.params, .int .i64 f.locals, .slice a f.body.length cap] ∧ RdL 6 RdOp w a f.body.length cap f.body ∧ f.name.size ≤ maxLen ∧ f.file.size ≤ maxLen
def RdP (w : World) (a : Option Addr) (len cap : Nat) (p : List FnD) : Prop := RdL 5 RdFn w a len cap p

theorem RdOp.below {w w' : World} {cs : List Value} {o : OpD} (h : RdOp w cs o) (hb : Below w.heap.size w w') : RdOp w' cs o := by
  obtain ⟨a, cap, e, hr⟩ := h
  exact ⟨a, cap, e, hr.below hb (Nat.le_refl _)⟩
theorem RdFn.below {w w' : World} {cs : List Value} {f : FnD} (h : RdFn w cs f) (hb : Below w.heap.size w w') : RdFn w' cs f := by
  obtain ⟨a, cap, e, hr, h1, h2⟩ := h
  exact ⟨a, cap, e, hr.below hb (fun _ _ h => h.below hb), h1, h2⟩
theorem RdP.below {w w' : World} {a : Option Addr} {len cap : Nat} {p : List FnD} (h : RdP w a len cap p) (hb : Below w.heap.size w w') : RdP w' a len cap p :=
  RdL.below h hb (fun _ _ h => h.below hb)

/-- The letters of a word. -/
def letterL : List Int := [97, 98, 99, 100, 101, 102, 103, 104, 105, 106, 107, 108, 109, 110, 111, 112, 113, 114, 115, 116, 117, 118, 119, 120, 121, 122, 48, 49, 50, 51, 52, 53, 54, 55, 56, 57, 46, 47]
def isLet (c : Int) : Bool := letterL.any (· == c)
def byteL (s : ByteArray) : List Int := s.data.toList.map fun c => (c.toNat : Int)
def wordB (s : ByteArray) : Bool := decide (1 ≤ s.size ∧ s.size ≤ 20) && (byteL s).all isLet
def withB (n e : Int) : Bool := decide (0 ≤ n ∧ n < e)
def eqB (a b : ByteArray) : Bool := a.toList == b.toList

def headB (p : List FnD) (f : Nat) (x : FnD) : Bool :=
  !((p.take f).any fun y => eqB y.name x.name) && (decide (1 ≤ x.locals ∧ x.locals ≤ 8 ∧ 0 ≤ x.params ∧ x.params ≤ x.locals) && (wordB x.name && wordB x.file && decide (1 ≤ x.body.length ∧ x.body.length ≤ 30)))
def callB (p : List FnD) (locals : Int) (o : OpD) : Bool :=
  withB o.b p.length && (((p[o.b.toNat]?).map fun y => y.params == (o.args.length : Int)).getD false && o.args.all fun n => withB n locals)
def opB (p : List FnD) (x : FnD) (s : Nat) (o : OpD) : Bool :=
  if !(decide (1 ≤ o.line ∧ o.line ≤ 9999)) || !(withB o.a x.locals) then false else
  if o.code = 6 then true else
  if s + 1 = x.body.length then false else
  if o.code = 0 then withB o.b 1000 else
  if o.code = 1 ∨ o.code = 2 ∨ o.code = 3 then withB o.b x.locals && withB o.c x.locals else
  if o.code = 4 then withB o.b x.body.length else
  if o.code = 5 then callB p x.locals o else false

def chkB (p : List FnD) (x : FnD) (f : Nat) : List OpD → Nat → Option (Int × Int × Int)
  | [], _ => none
  | o :: r, s => if opB p x s o = true then chkB p x f r (s + 1) else some (7, (f : Int), (s : Int))
def chkF (p : List FnD) : List FnD → Nat → Int × Int × Int
  | [], _ => (0, 0, 0)
  | x :: r, f => if headB p f x = true then (match chkB p x f x.body 0 with | some e => e | none => chkF p r (f + 1)) else (6, (f : Int), 0)
/-- What Check answers. -/
def chk (p : List FnD) : Int × Int × Int := if p.length = 0 ∨ 12 < p.length then (5, 0, 0) else chkF p p 0
end Go.Proofs.YtooinlilplecpaaGreatDoor
