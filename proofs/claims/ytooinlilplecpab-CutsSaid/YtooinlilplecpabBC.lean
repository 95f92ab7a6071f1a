/- Programs as plain data, how they lie in memory, and what Check asks of them, as plain functions; nothing is claimed of the program here. Plain lemmas on the bytes of texts; nothing is claimed of the program here. Contracts of the reference's Word and within: they give the plain functions wordB and withB; nothing that was there is written. Contracts of the reference's goodHead and goodCall: they give the plain functions headB and callB; nothing that was there is written. The contract of the reference's goodOp: it gives the plain function opB; nothing that was there is written. The contract of the reference's Check: it gives the plain function chk; nothing that was there is written. -/
import Derived.Test.YtooinlilplecpabBW
import Derived.Deep.QuietTactic
import Derived.BigQuiet
namespace Go.Proofs.Ytooinlilplecpab
open Go.RowKit

structure OpD where
  code : Int
  line : Int
  a : Int
  b : Int
  c : Int
  args : List Int
structure FnD where
  name : ByteArray
  file : ByteArray
  params : Int
  locals : Int
  body : List OpD

/-- A slice of elements of so many cells each, that is only read. -/
def RdL {α : Type} (size : Nat) (R : World → List Value → α → Prop) (w : World) (a : Option Addr) (len cap : Nat) (l : List α) : Prop :=
  l.length = len ∧ len ≤ cap ∧ cap ≤ maxLen ∧ ∀ i x, l[i]? = some x → ∃ b off cs, a = some ⟨b, off, none⟩ ∧ cs.length = size ∧ (∀ j v, cs[j]? = some v → w.cell? ⟨b, off + i * size + j, none⟩ = some v) ∧ R w cs x

theorem RdL.below {α : Type} {size : Nat} {R : World → List Value → α → Prop} {w w' : World} {a : Option Addr} {len cap : Nat} {l : List α} (h : RdL size R w a len cap l) (hb : Below w.heap.size w w')
    (hR : ∀ cs x, R w cs x → R w' cs x) : RdL size R w' a len cap l := by
  obtain ⟨h1, h2, h3, h4⟩ := h
  refine ⟨h1, h2, h3, fun i x hx => ?_⟩
  obtain ⟨b, off, cs, e, hl, hc, hr⟩ := h4 i x hx
  refine ⟨b, off, cs, e, hl, fun j v hj => ?_, hR cs x hr⟩
  have := hc j v hj
  exact (hb.cell (p := ⟨b, off + i * size + j, none⟩) (World.block_lt_of_cell? w _ this)).trans this

def R64 (n : Int) : Prop := -9223372036854775808 ≤ n ∧ n ≤ 9223372036854775807

def RdOp (w : World) (cs : List Value) (o : OpD) : Prop :=
  ∃ a cap, cs = [.int .i64 o.code, .int .i64 o.line, .int .i64 o.a, .int .i64 o.b, .int .i64 o.c, .slice a o.args.length cap] ∧ Rd .i64 w a o.args.length cap o.args
def RdFn (w : World) (cs : List Value) (f : FnD) : Prop :=
  ∃ a cap, cs = [.string f.name, .string f.file, .int .i64 f.params, .int .i64 f.locals, .slice a f.body.length cap] ∧ RdL 6 RdOp w a f.body.length cap f.body ∧ f.name.size ≤ maxLen ∧ f.file.size ≤ maxLen
def RdP (w : World) (a : Option Addr) (len cap : Nat) (p : List FnD) : Prop := RdL 5 RdFn w a len cap p

theorem RdOp.below {w w' : World} {cs : List Value} {o : OpD} (h : RdOp w cs o) (hb : Below w.heap.size w w') : RdOp w' cs o := by
  obtain ⟨a, cap, e, hr⟩ := h
  exact ⟨a, cap, e, hr.below hb (Nat.le_refl _)⟩
theorem RdFn.below {w w' : World} {cs : List Value} {f : FnD} (h : RdFn w cs f) (hb : Below w.heap.size w w') : RdFn w' cs f := by
  obtain ⟨a, cap, e, hr, h1, h2⟩ := h
  exact ⟨a, cap, e, hr.below hb (fun _ _ h => h.below hb), h1, h2⟩
theorem RdP.below {w w' : World} {a : Option Addr} {len cap : Nat} {p : List FnD} (h : RdP w a len cap p) (hb : Below w.heap.size w w') : RdP w' a len cap p :=
  RdL.below h hb (fun _ _ h => h.below hb)

/-- The letters of a word. -/
def letterL : List Int := [97, 98, 99, 100, 101, 102, 103, 104, 105, 106, 107, 108, 109, 110, 111, 112, 113, 114, 115, 116, 117, 118, 119, 120, 121, 122, 48, 49, 50, 51, 52, 53, 54, 55, 56, 57, 46, 47]
def isLet (c : Int) : Bool := letterL.any (· == c)
def byteL (s : ByteArray) : List Int := s.data.toList.map fun c => (c.toNat : Int)
def wordB (s : ByteArray) : Bool := decide (1 ≤ s.size ∧ s.size ≤ 20) && (byteL s).all isLet
def withB (n e : Int) : Bool := decide (0 ≤ n ∧ n < e)
def eqB (a b : ByteArray) : Bool := a.toList == b.toList

def headB (p : List FnD) (f : Nat) (x : FnD) : Bool :=
  !((p.take f).any fun y => eqB y.name x.name) && (decide (1 ≤ x.locals ∧ x.locals ≤ 8 ∧ 0 ≤ x.params ∧ x.params ≤ x.locals) && (wordB x.name && wordB x.file && decide (1 ≤ x.body.length ∧ x.body.length ≤ 30)))
def callB (p : List FnD) (locals : Int) (o : OpD) : Bool :=
  withB o.b p.length && (((p[o.b.toNat]?).map fun y => y.params == (o.args.length : Int)).getD false && o.args.all fun n => withB n locals)
def opB (p : List FnD) (x : FnD) (s : Nat) (o : OpD) : Bool :=
  if !(decide (1 ≤ o.line ∧ o.line ≤ 9999)) || !(withB o.a x.locals) then false else
  if o.code = 6 then true else
  if s + 1 = x.body.length then false else
  if o.code = 0 then withB o.b 1000 else
  if o.code = 1 ∨ o.code = 2 ∨ o.code = 3 then withB o.b x.locals && withB o.c x.locals else
  if o.code = 4 then withB o.b x.body.length else
  if o.code = 5 then callB p x.locals o else false

def chkB (p : List FnD) (x : FnD) (f : Nat) : List OpD → Nat → Option (Int × Int × Int)
  | [], _ => none
  | o :: r, s => if opB p x s o = true then chkB p x f r (s + 1) else some (7, (f : Int), (s : Int))
def chkF (p : List FnD) : List FnD → Nat → Int × Int × Int
  | [], _ => (0, 0, 0)
  | x :: r, f => if headB p f x = true then (match chkB p x f x.body 0 with | some e => e | none => chkF p r (f + 1)) else (6, (f : Int), 0)
/-- What Check answers. -/
def chk (p : List FnD) : Int × Int × Int := if p.length = 0 ∨ 12 < p.length then (5, 0, 0) else chkF p p 0
end Go.Proofs.Ytooinlilplecpab
namespace Go.Proofs.Ytooinlilplecpab
open Go.RowKit

theorem byteL_len (s : ByteArray) : (byteL s).length = s.size := by unfold byteL; rw [List.length_map, Array.length_toList]; rfl
theorem byteL_take (s : ByteArray) (k : Nat) (h : k < s.size) : (byteL s).take (k + 1) = (byteL s).take k ++ [(s[k].toNat : Int)] := by
  have hl := byteL_len s
  rw [List.take_succ_eq_append_getElem (by omega)]
  congr 1
  simp [byteL]
  rfl

theorem below_drawn {B : Nat} {a w : World} (h : Below B a w) (n : Nat) : Below B a (w.drewN n) := h.trans ⟨rfl, rfl, rfl, Nat.le_refl _, fun _ _ => rfl⟩
end Go.Proofs.Ytooinlilplecpab
namespace Go.Proofs.Ytooinlilplecpab
open Go.RowKit

theorem letter_eq : letterL = (#[97, 98, 99, 100, 101, 102, 103, 104, 105, 106, 107, 108, 109, 110, 111, 112, 113, 114, 115, 116, 117, 118, 119, 120, 121, 122, 48, 49, 50, 51, 52, 53, 54, 55, 56, 57, 46, 47] : Array UInt8).toList.map fun c => (c.toNat : Int) := by decide
theorem let_step (m : Nat) (hm : m < 38) (c : Int) (h : false = (letterL.take m).any fun x => x == c) (hh : m < (ByteArray.mk #[97, 98, 99, 100, 101, 102, 103, 104, 105, 106, 107, 108, 109, 110, 111, 112, 113, 114, 115, 116, 117, 118, 119, 120, 121, 122, 48, 49, 50, 51, 52, 53, 54, 55, 56, 57, 46, 47]).size) :
    ((((ByteArray.mk #[97, 98, 99, 100, 101, 102, 103, 104, 105, 106, 107, 108, 109, 110, 111, 112, 113, 114, 115, 116, 117, 118, 119, 120, 121, 122, 48, 49, 50, 51, 52, 53, 54, 55, 56, 57, 46, 47])[m]'hh).toNat : Int) == c) = (letterL.take (m + 1)).any fun x => x == c := by
  have hl : letterL.length = 38 := rfl
  rw [List.take_succ_eq_append_getElem (by omega), List.any_append, ← h, Bool.false_or]
  simp only [List.any_cons, List.any_nil, Bool.or_false]
  have e : letterL[m]? = some ((((ByteArray.mk #[97, 98, 99, 100, 101, 102, 103, 104, 105, 106, 107, 108, 109, 110, 111, 112, 113, 114, 115, 116, 117, 118, 119, 120, 121, 122, 48, 49, 50, 51, 52, 53, 54, 55, 56, 57, 46, 47])[m]'hh).toNat : Int)) := by
    rw [letter_eq, List.getElem?_map, Array.getElem?_toList]
    have : (#[97, 98, 99, 100, 101, 102, 103, 104, 105, 106, 107, 108, 109, 110, 111, 112, 113, 114, 115, 116, 117, 118, 119, 120, 121, 122, 48, 49, 50, 51, 52, 53, 54, 55, 56, 57, 46, 47] : Array UInt8)[m]? = some ((ByteArray.mk #[97, 98, 99, 100, 101, 102, 103, 104, 105, 106, 107, 108, 109, 110, 111, 112, 113, 114, 115, 116, 117, 118, 119, 120, 121, 122, 48, 49, 50, 51, 52, 53, 54, 55, 56, 57, 46, 47])[m]'hh) := Array.getElem?_eq_getElem hh
    rw [this]; rfl
  have e2 : letterL[m]'(by omega) = ((((ByteArray.mk #[97, 98, 99, 100, 101, 102, 103, 104, 105, 106, 107, 108, 109, 110, 111, 112, 113, 114, 115, 116, 117, 118, 119, 120, 121, 122, 48, 49, 50, 51, 52, 53, 54, 55, 56, 57, 46, 47])[m]'hh).toNat : Int)) := by
    have := List.getElem?_eq_getElem (l := letterL) (i := m) (by omega)
    rw [this] at e
    exact Option.some.inj e
  rw [e2]
theorem let_true (m : Nat) (c : Int) (h : true = (letterL.take m).any fun x => x == c) (hm : m < 38) : true = (letterL.take (m + 1)).any fun x => x == c := by
  have hl : letterL.length = 38 := rfl
  rw [List.take_succ_eq_append_getElem (by omega), List.any_append, ← h, Bool.true_or]
end Go.Proofs.Ytooinlilplecpab
namespace Go.Proofs.Ytooinlilplecpab
open Go.RowKit

theorem RdL.len {α : Type} {size : Nat} {R : World → List Value → α → Prop} {w : World} {a : Option Addr} {len cap : Nat} {l : List α} (h : RdL size R w a len cap l) : l.length = len := h.1

/-- One function of a program, as it lies in memory. -/
theorem RdP.at {w : World} {a : Option Addr} {len cap : Nat} {p : List FnD} (h : RdP w a len cap p) (i : Nat) (x : FnD) (hx : p[i]? = some x) :
    ∃ b off ba bcap, a = some ⟨b, off, none⟩ ∧ b < w.heap.size ∧ w.cell? ⟨b, off + i * 5, none⟩ = some (.string x.name) ∧ w.cell? ⟨b, off + i * 5 + 1, none⟩ = some (.string x.file) ∧
      w.cell? ⟨b, off + i * 5 + 2, none⟩ = some (.int .i64 x.params) ∧ w.cell? ⟨b, off + i * 5 + 3, none⟩ = some (.int .i64 x.locals) ∧
      w.cell? ⟨b, off + i * 5 + 4, none⟩ = some (.slice ba x.body.length bcap) ∧ RdL 6 RdOp w ba x.body.length bcap x.body ∧ x.name.size ≤ maxLen ∧ x.file.size ≤ maxLen := by
  obtain ⟨b, off, cs, e, hl, hc, ba, bcap, rfl, hr, h1, h2⟩ := h.2.2.2 i x hx
  have c0 := hc 0 _ rfl
  exact ⟨b, off, ba, bcap, e, World.block_lt_of_cell? w _ c0, c0, hc 1 _ rfl, hc 2 _ rfl, hc 3 _ rfl, hc 4 _ rfl, hr, h1, h2⟩

theorem any_take_succ {α : Type} (l : List α) (k : Nat) (x : α) (q : α → Bool) (h : l[k]? = some x) : (l.take (k + 1)).any q = ((l.take k).any q || q x) := by
  obtain ⟨hk, e⟩ := List.getElem?_eq_some_iff.1 h
  rw [List.take_succ_eq_append_getElem hk, List.any_append, e]
  simp
theorem all_take_succ {α : Type} (l : List α) (k : Nat) (x : α) (q : α → Bool) (h : l[k]? = some x) : (l.take (k + 1)).all q = ((l.take k).all q && q x) := by
  obtain ⟨hk, e⟩ := List.getElem?_eq_some_iff.1 h
  rw [List.take_succ_eq_append_getElem hk, List.all_append, e]
  simp

theorem callB_no (p : List FnD) (locals : Int) (o : OpD) (h : withB o.b p.length = false) : callB p locals o = false := by unfold callB; rw [h]; rfl

end Go.Proofs.Ytooinlilplecpab
namespace Go.Proofs.Ytooinlilplecpab
open Go.RowKit

/-- One op of a body, as it lies in memory. -/
theorem RdL.opAt {w : World} {a : Option Addr} {len cap : Nat} {l : List OpD} (h : RdL 6 RdOp w a len cap l) (i : Nat) (o : OpD) (ho : l[i]? = some o) :
    ∃ b off aa acap, a = some ⟨b, off, none⟩ ∧ b < w.heap.size ∧ w.cell? ⟨b, off + i * 6, none⟩ = some (.int .i64 o.code) ∧ w.cell? ⟨b, off + i * 6 + 1, none⟩ = some (.int .i64 o.line) ∧
      w.cell? ⟨b, off + i * 6 + 2, none⟩ = some (.int .i64 o.a) ∧ w.cell? ⟨b, off + i * 6 + 3, none⟩ = some (.int .i64 o.b) ∧ w.cell? ⟨b, off + i * 6 + 4, none⟩ = some (.int .i64 o.c) ∧
      w.cell? ⟨b, off + i * 6 + 5, none⟩ = some (.slice aa o.args.length acap) ∧ Rd .i64 w aa o.args.length acap o.args := by
  obtain ⟨b, off, cs, e, hl, hc, aa, acap, rfl, hr⟩ := h.2.2.2 i o ho
  have c0 := hc 0 _ rfl
  exact ⟨b, off, aa, acap, e, World.block_lt_of_cell? w _ c0, c0, hc 1 _ rfl, hc 2 _ rfl, hc 3 _ rfl, hc 4 _ rfl, hc 5 _ rfl, hr⟩

end Go.Proofs.Ytooinlilplecpab
namespace Go.Proofs.Ytooinlilplecpab
open Go.RowKit

theorem chkB_at (p : List FnD) (x : FnD) (f s : Nat) (o : OpD) (h : x.body[s]? = some o) : chkB p x f (x.body.drop s) s = if opB p x s o = true then chkB p x f (x.body.drop (s + 1)) (s + 1) else some (7, (f : Int), (s : Int)) := by
  obtain ⟨hs, e⟩ := List.getElem?_eq_some_iff.1 h
  rw [List.drop_eq_getElem_cons hs, e]
  rfl
theorem chkF_at (p : List FnD) (f : Nat) (x : FnD) (h : p[f]? = some x) : chkF p (p.drop f) f = if headB p f x = true then (match chkB p x f x.body 0 with | some e => e | none => chkF p (p.drop (f + 1)) (f + 1)) else (6, (f : Int), 0) := by
  obtain ⟨hf, e⟩ := List.getElem?_eq_some_iff.1 h
  rw [List.drop_eq_getElem_cons hf, e]
  rfl

theorem ret_chk {q : Int × Int × Int} {a b c : Int} (h : q = (a, b, c)) : Ending.returned (.tuple #[.int .i64 a, .int .i64 b, .int .i64 c]) = .returned (.tuple #[.int .i64 q.1, .int .i64 q.2.1, .int .i64 q.2.2]) := by rw [h]

end Go.Proofs.Ytooinlilplecpab
