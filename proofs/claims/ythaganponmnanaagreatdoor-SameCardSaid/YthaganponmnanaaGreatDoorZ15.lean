/- Contracts of the reference's Word and within: they give the plain functions wordB and withB; nothing that was there is written. Contracts of the statement's own functions intsOf, sameInts and intsStill: a list of numbers that is handed in with eight marks behind it, and the look whether it stands so still. Contracts of the reference's goodHead and goodCall: they give the plain functions headB and callB; nothing that was there is written. The contract of the reference's goodOp: it gives the plain function opB; nothing that was there is written. The contract of the reference's Check: it gives the plain function chk; nothing that was there is written. What the reference's counted gives, as a plain function, and its contract. Contracts of unfoldref.but and unfoldref.fresh: a frame written anew. Rows of entries of several cells each: reading, storing, and what make lays. Contract of unfoldref.under: frames written anew. The contract of the statement's own function funcOf: it gives a function to hand in, its body with eight marks behind it; nothing that was there is written. Contracts of the statement's own functions sameOp and sameFunc: at two readings of one op, of one function, they return true; nothing that was there is written. Contract of the statement's own sameFrames. Contract of unfoldref.Begun. -/
import Derived.Test.YthaganponmnanaaGreatDoorZ1
import Derived.Deep.QuietTactic
import Derived.BigQuiet
import Derived.Test.YthaganponmnanaaGreatDoorZ14
import Derived.Lib.SliceRun
import Derived.OneCell
import Derived.RegionTactic
import Derived.BigRegion
import Derived.Deep.RegionWith
namespace Go.Proofs.YthaganponmnanaaGreatDoor
open Go.RowKit

theorem letter_eq : letterL = (#[97, 98, 99, 100, 101, 102, 103, 104, 105, 106, 107, 108, 109, 110, 111, 112, 113, 114, 115, 116, 117, 118, 119, 120, 121, 122, 48, 49, 50, 51, 52, 53, 54, 55, 56, 57, 46, 47] : Array UInt8).toList.map fun c => (c.toNat : Int) := by decide
theorem let_step (m : Nat) (hm : m < 38) (c : Int) (h : false = (letterL.take m).any fun x => x == c) (hh : m < (ByteArray.mk #[97, 98, 99, 100, 101, 102, 103, 104, 105, 106, 107, 108, 109, 110, 111, 112, 113, 114, 115, 116, 117, 118, 119, 120, 121, 122, 48, 49, 50, 51, 52, 53, 54, 55, 56, 57, 46, 47]).size) :
    ((((ByteArray.mk #[97, 98, 99, 100, 101, 102, 103, 104, 105, 106, 107, 108, 109, 110, 111, 112, 113, 114, 115, 116, 117, 118, 119, 120, 121, 122, 48, 49, 50, 51, 52, 53, 54, 55, 56, 57, 46, 47])[m]'hh).toNat : Int) == c) = (letterL.take (m + 1)).any fun x => x == c := by
  have hl : letterL.length = 38 := rfl
  rw [List.take_succ_eq_append_getElem (by omega), List.any_append, ← h, Bool.false_or]
  simp only [List.any_cons, List.any_nil, Bool.or_false]
  have e : letterL[m]? = some ((((ByteArray.mk #[97, 98, 99, 100, 101, 102, 103, 104, 105, 106, 107, 108, 109, 110, 111, 112, 113, 114, 115, 116, 117, 118, 119, 120, 121, 122, 48, 49, 50, 51, 52, 53, 54, 55, 56, 57, 46, 47])[m]'hh).toNat : Int)) := by
    rw [letter_eq, List.getElem?_map, Array.getElem?_toList]
    have : (#[97, 98, 99, 100, 101, 102, 103, 104, 105, 106, 107, 108, 109, 110, 111, 112, 113, 114, 115, 116, 117, 118, 119, 120, 121, 122, 48, 49, 50, 51, 52, 53, 54, 55, 56, 57, 46, 47] : Array UInt8)[m]? = some ((ByteArray.mk #[97, 98, 99, 100, 101, 102, 103, 104, 105, 106, 107, 108, 109, 110, 111, 112, 113, 114, 115, 116, 117, 118, 119, 120, 121, 122, 48, 49, 50, 51, 52, 53, 54, 55, 56, 57, 46, 47])[m]'hh) := Array.getElem?_eq_getElem hh
    rw [this]; rfl
  have e2 : letterL[m]'(by omega) = ((((ByteArray.mk #[97, 98, 99, 100, 101, 102, 103, 104, 105, 106, 107, 108, 109, 110, 111, 112, 113, 114, 115, 116, 117, 118, 119, 120, 121, 122, 48, 49, 50, 51, 52, 53, 54, 55, 56, 57, 46, 47])[m]'hh).toNat : Int)) := by
    have := List.getElem?_eq_getElem (l := letterL) (i := m) (by omega)
    rw [this] at e
    exact Option.some.inj e
  rw [e2]
theorem let_true (m : Nat) (c : Int) (h : true = (letterL.take m).any fun x => x == c) (hm : m < 38) : true = (letterL.take (m + 1)).any fun x => x == c := by
  have hl : letterL.length = 38 := rfl
  rw [List.take_succ_eq_append_getElem (by omega), List.any_append, ← h, Bool.true_or]
end Go.Proofs.YthaganponmnanaaGreatDoor
namespace Go.Proofs.YthaganponmnanaaGreatDoor
open Go.RowKit

theorem Tryz.infoInt : (Tryz.prog.info? 3).map (fun i => (i.zero, i.size, i.bytes)) = some (some (.int .i64 0), 1, 8) := by kernel_rfl
theorem Tryz.infoInt1 : (Tryz.prog.info? 3).map (·.size) = some 1 := by kernel_rfl

def ints (l : List Int) : List Value := l.map (Value.int .i64)
theorem ints_len (l : List Int) : (ints l).length = l.length := by simp [ints]
theorem ints_get (l : List Int) (i : Nat) (h : i < l.length) : (ints l)[i]? = some (.int .i64 (l.getD i 0)) := by simp [ints, List.getD, h]
theorem ints_set (l : List Int) (i : Nat) (x : Int) : (ints l).set i (.int .i64 x) = ints (l.set i x) := by simp [ints]
theorem ints_one (l : List Int) : ∀ u ∈ ints l, u.oneCell' = true := by
  intro u hu
  obtain ⟨x, _, rfl⟩ := List.mem_map.1 hu
  rfl

/-- The numbers of a list that is handed in, behind k of its eight marks. -/
def markI (l : List Int) (k : Nat) : List Int := l ++ (List.replicate k 77 ++ List.replicate (8 - k) 0)
theorem markI_len (l : List Int) (k : Nat) (h : k ≤ 8) : (markI l k).length = l.length + 8 := by simp [markI]; omega
theorem markI_set (l : List Int) (k : Nat) (h : k < 8) : (markI l k).set (l.length + k) 77 = markI l (k + 1) := by
  unfold markI
  rw [List.set_append_right _ _ (by omega), Nat.add_sub_cancel_left, List.set_append_right _ _ (by simp), List.length_replicate, Nat.sub_self]
  obtain ⟨m, hm⟩ : ∃ m, 8 - k = m + 1 := ⟨8 - k - 1, by omega⟩
  have hm2 : 8 - (k + 1) = m := by omega
  rw [hm, hm2, List.replicate_succ, List.set_cons_zero, List.replicate_succ']
  simp
theorem markI_at (l : List Int) (k : Nat) (h : k < 8) : (markI l 8).getD (l.length + k) 0 = 77 := by
  unfold markI
  simp only [List.getD]
  rw [List.getElem?_append_right (by omega), Nat.add_sub_cancel_left, List.getElem?_append_left (by simpa using h), List.getElem?_replicate_of_lt h]
  rfl
theorem markI_old (l : List Int) (i : Nat) (h : i < l.length) : (markI l 8).getD i 0 = l.getD i 0 := by
  unfold markI
  simp only [List.getD]
  rw [List.getElem?_append_left h]

theorem made_ints (n : Nat) : (madeCells (Value.int .i64 0).cells (n * 1)).toList = ints (List.replicate n 0) := by
  rw [Nat.mul_one, show (Value.int .i64 0).cells = #[Value.int .i64 0] from rfl, toList_madeCells_one]
  simp [ints]

theorem Rd.src {w : World} {b off len cap : Nat} {l : List Int} (h : Rd .i64 w (some ⟨b, off, none⟩) len cap l) : ∀ j v, (ints l)[j]? = some v → w.cell? ((⟨b, off, none⟩ : Addr).add j) = some v := by
  intro j v hj
  have hlt : j < (ints l).length := by
    rcases Nat.lt_or_ge j (ints l).length with h | h
    · exact h
    · rw [List.getElem?_eq_none h] at hj; cases hj
  rw [ints_len] at hlt
  rw [ints_get l j hlt] at hj
  cases hj
  have e1 : (⟨b, off, none⟩ : Addr).add j = ⟨b, off + j, none⟩ := by unfold Addr.add; split <;> simp_all
  rw [e1]
  obtain ⟨_, _, e, hc⟩ := h.cell j (by rw [← h.hlen]; exact hlt)
  cases e
  exact hc

/-- A list of numbers, made to be handed in. -/
def HdI (w : World) (base : Nat) (a : Option Addr) (l : List Int) (hv : Value) : Prop :=
  (a = none ∧ l = [] ∧ hv = .slice none 0 0) ∨
  (a ≠ none ∧ ∃ g, hv = .slice (some ⟨g, 0, none⟩) l.length (l.length + 8) ∧ w.ownsRow base 3 1 (.slice (some ⟨g, 0, none⟩) (l.length + 8) (l.length + 8)) (l.length + 8) (ints (markI l 8)))

theorem HdI.below {w w' : World} {base : Nat} {a : Option Addr} {l : List Int} {hv : Value} (h : HdI w base a l hv) (hb : Below w.heap.size w w') : HdI w' base a l hv := by
  rcases h with h | ⟨h1, g, e, ho⟩
  · exact .inl h
  · exact .inr ⟨h1, g, e, owns_below ho hb⟩
theorem owns_lower {w : World} {base base' : Nat} {e : TypeId} {size : Nat} {v : Value} {n : Nat} {xs : List Value} (h : w.ownsRow base e size v n xs) (hb : base' ≤ base) : w.ownsRow base' e size v n xs := by
  refine ⟨h.1, ?_⟩
  rcases h.2 with hn | ⟨g, cap, cur, hv, hg, r⟩
  · exact .inl hn
  · exact .inr ⟨g, cap, cur, hv, Nat.le_trans hb hg, r⟩
theorem HdI.lower {w : World} {base base' : Nat} {a : Option Addr} {l : List Int} {hv : Value} (h : HdI w base a l hv) (hb : base' ≤ base) : HdI w base' a l hv := by
  rcases h with h | ⟨h1, g, e, ho⟩
  · exact .inl h
  · exact .inr ⟨h1, g, e, owns_lower ho hb⟩
/-- What is handed in reads as the list that it was made of. -/
theorem HdI.read {w : World} {base : Nat} {a : Option Addr} {l : List Int} {hv : Value} (h : HdI w base a l hv) : ∃ a' cap, hv = .slice a' l.length cap ∧ Rd .i64 w a' l.length cap l := by
  rcases h with ⟨_, rfl, rfl⟩ | ⟨_, g, rfl, ho⟩
  · exact ⟨none, 0, rfl, rfl, Nat.le_refl _, by unfold maxLen; omega, fun i hi => by simp at hi⟩
  · have hml := markI_len l 8 (by omega)
    have hcm : l.length + 8 ≤ maxLen := by
      rcases ho.2 with ⟨h', _⟩ | ⟨g', cap', cur, h', _, _, _, hcm, _⟩
      · cases h'
      · cases h'; exact hcm
    refine ⟨_, _, rfl, rfl, by omega, hcm, fun i hi => ⟨g, 0, rfl, ?_⟩⟩
    have := ho.cellAt i (by omega)
    rw [ints_get _ i (by omega), markI_old l i hi] at this
    rw [Nat.zero_add]
    exact this

end Go.Proofs.YthaganponmnanaaGreatDoor
namespace Go.Proofs.YthaganponmnanaaGreatDoor
open Go.RowKit

theorem RdL.len {α : Type} {size : Nat} {R : World → List Value → α → Prop} {w : World} {a : Option Addr} {len cap : Nat} {l : List α} (h : RdL size R w a len cap l) : l.length = len := h.1

/-- One function of a program, as it lies in memory. -/
theorem RdP.at {w : World} {a : Option Addr} {len cap : Nat} {p : List FnD} (h : RdP w a len cap p) (i : Nat) (x : FnD) (hx : p[i]? = some x) :
    ∃ b off ba bcap, a = some ⟨b, off, none⟩ ∧ b < w.heap.size ∧ w.cell? ⟨b, off + i * 5, none⟩ = some (.string x.name) ∧ w.cell? ⟨b, off + i * 5 + 1, none⟩ = some (.string x.file) ∧
      w.cell? ⟨b, off + i * 5 + 2, none⟩ = some (.int .i64 x.params) ∧ w.cell? ⟨b, off + i * 5 + 3, none⟩ = some (.int .i64 x.locals) ∧
      w.cell? ⟨b, off + i * 5 + 4, none⟩ = some (.slice ba x.body.length bcap) ∧ RdL 6 RdOp w ba x.body.length bcap x.body ∧ x.name.size ≤ maxLen ∧ x.file.size ≤ maxLen := by
  obtain ⟨b, off, cs, e, hl, hc, ba, bcap, rfl, hr, h1, h2⟩ := h.2.2.2 i x hx
  have c0 := hc 0 _ rfl
  exact ⟨b, off, ba, bcap, e, World.block_lt_of_cell? w _ c0, c0, hc 1 _ rfl, hc 2 _ rfl, hc 3 _ rfl, hc 4 _ rfl, hr, h1, h2⟩

theorem any_take_succ {α : Type} (l : List α) (k : Nat) (x : α) (q : α → Bool) (h : l[k]? = some x) : (l.take (k + 1)).any q = ((l.take k).any q || q x) := by
  obtain ⟨hk, e⟩ := List.getElem?_eq_some_iff.1 h
  rw [List.take_succ_eq_append_getElem hk, List.any_append, e]
  simp
theorem all_take_succ {α : Type} (l : List α) (k : Nat) (x : α) (q : α → Bool) (h : l[k]? = some x) : (l.take (k + 1)).all q = ((l.take k).all q && q x) := by
  obtain ⟨hk, e⟩ := List.getElem?_eq_some_iff.1 h
  rw [List.take_succ_eq_append_getElem hk, List.all_append, e]
  simp

theorem callB_no (p : List FnD) (locals : Int) (o : OpD) (h : withB o.b p.length = false) : callB p locals o = false := by unfold callB; rw [h]; rfl

end Go.Proofs.YthaganponmnanaaGreatDoor
namespace Go.Proofs.YthaganponmnanaaGreatDoor
open Go.RowKit

/-- One op of a body, as it lies in memory. -/
theorem RdL.opAt {w : World} {a : Option Addr} {len cap : Nat} {l : List OpD} (h : RdL 6 RdOp w a len cap l) (i : Nat) (o : OpD) (ho : l[i]? = some o) :
    ∃ b off aa acap, a = some ⟨b, off, none⟩ ∧ b < w.heap.size ∧ w.cell? ⟨b, off + i * 6, none⟩ = some (.int .i64 o.code) ∧ w.cell? ⟨b, off + i * 6 + 1, none⟩ = some (.int .i64 o.line) ∧
      w.cell? ⟨b, off + i * 6 + 2, none⟩ = some (.int .i64 o.a) ∧ w.cell? ⟨b, off + i * 6 + 3, none⟩ = some (.int .i64 o.b) ∧ w.cell? ⟨b, off + i * 6 + 4, none⟩ = some (.int .i64 o.c) ∧
      w.cell? ⟨b, off + i * 6 + 5, none⟩ = some (.slice aa o.args.length acap) ∧ Rd .i64 w aa o.args.length acap o.args := by
  obtain ⟨b, off, cs, e, hl, hc, aa, acap, rfl, hr⟩ := h.2.2.2 i o ho
  have c0 := hc 0 _ rfl
  exact ⟨b, off, aa, acap, e, World.block_lt_of_cell? w _ c0, c0, hc 1 _ rfl, hc 2 _ rfl, hc 3 _ rfl, hc 4 _ rfl, hc 5 _ rfl, hr⟩

end Go.Proofs.YthaganponmnanaaGreatDoor
namespace Go.Proofs.YthaganponmnanaaGreatDoor
open Go.RowKit

theorem chkB_at (p : List FnD) (x : FnD) (f s : Nat) (o : OpD) (h : x.body[s]? = some o) : chkB p x f (x.body.drop s) s = if opB p x s o = true then chkB p x f (x.body.drop (s + 1)) (s + 1) else some (7, (f : Int), (s : Int)) := by
  obtain ⟨hs, e⟩ := List.getElem?_eq_some_iff.1 h
  rw [List.drop_eq_getElem_cons hs, e]
  rfl
theorem chkF_at (p : List FnD) (f : Nat) (x : FnD) (h : p[f]? = some x) : chkF p (p.drop f) f = if headB p f x = true then (match chkB p x f x.body 0 with | some e => e | none => chkF p (p.drop (f + 1)) (f + 1)) else (6, (f : Int), 0) := by
  obtain ⟨hf, e⟩ := List.getElem?_eq_some_iff.1 h
  rw [List.drop_eq_getElem_cons hf, e]
  rfl

theorem ret_chk {q : Int × Int × Int} {a b c : Int} (h : q = (a, b, c)) : Ending.returned (.tuple #[.int .i64 a, .int .i64 b, .int .i64 c]) = .returned (.tuple #[.int .i64 q.1, .int .i64 q.2.1, .int .i64 q.2.2]) := by rw [h]

end Go.Proofs.YthaganponmnanaaGreatDoor
namespace Go.Proofs.YthaganponmnanaaGreatDoor
open Go.RowKit

/-- What Add, Sub, Div give, of numbers below 1000. -/
def cnt (code x y : Int) : Int := if code = 3 then x / y else if code = 2 then (x - y) % 1000 else (x + y) % 1000

theorem cnt_div (x y n : Int) (hy : 0 < y) (h1 : n * y ≤ x) (h2 : ¬ (n + 1) * y ≤ x) : cnt 3 x y = n := by
  unfold cnt
  rw [if_pos rfl]
  have a1 : n ≤ x / y := (Int.le_ediv_iff_mul_le hy).2 h1
  have a2 : x / y < n + 1 := (Int.ediv_lt_iff_lt_mul hy).2 (by omega)
  omega

end Go.Proofs.YthaganponmnanaaGreatDoor
namespace Go.Proofs.YthaganponmnanaaGreatDoor
open Go.RowKit

/-- A frame. -/
structure LiveD where
  fn : Int
  next : Int
  locals : List Int

def RdLive (w : World) (cs : List Value) (x : LiveD) : Prop :=
  ∃ a cap, cs = [.int .i64 x.fn, .int .i64 x.next, .slice a x.locals.length cap] ∧ Rd .i64 w a x.locals.length cap x.locals

theorem RdLive.below {w w' : World} {cs : List Value} {x : LiveD} (h : RdLive w cs x) (hb : Below w.heap.size w w') : RdLive w' cs x := by
  obtain ⟨a, cap, e, hr⟩ := h
  exact ⟨a, cap, e, hr.below hb (Nat.le_refl _)⟩

theorem rd_of_ints {w : World} {base g n : Nat} {l : List Int} (h : w.ownsRow base 3 1 (.slice (some ⟨g, 0, none⟩) n n) n (ints l)) (hl : l.length = n) (hm : n ≤ maxLen) : Rd .i64 w (some ⟨g, 0, none⟩) n n l := by
  refine ⟨hl, Nat.le_refl _, hm, fun i hi => ⟨g, 0, rfl, ?_⟩⟩
  have := h.cellAt i (by omega)
  rw [ints_get l i (by omega)] at this
  rw [Nat.zero_add]
  exact this

theorem Rd.setOther {w : World} {g off len cap : Nat} {l : List Int} (h : Rd .i64 w (some ⟨g, off, none⟩) len cap l) {b : Nat} (hb : g ≠ b) (j : Nat) (u : Value) : Rd .i64 (w.setCell ⟨b, j, none⟩ u) (some ⟨g, off, none⟩) len cap l := by
  refine ⟨h.hlen, h.hcap, h.hmax, fun i hi => ?_⟩
  obtain ⟨b', o', e, hc⟩ := h.cell i hi
  cases e
  refine ⟨g, off, rfl, ?_⟩
  rw [← hc]
  simp only [World.cell?]
  rw [Below.heap_setCell _ _ _ _ (by exact hb)]

/-- The locals of a frame that begins: the arguments, and noughts. -/
def fillI (args : List Int) (n j : Nat) : List Int := args.take j ++ List.replicate (n - j) 0

theorem fillI_len (args : List Int) (n j : Nat) (h : j ≤ args.length) (hn : args.length ≤ n) : (fillI args n j).length = n := by
  simp [fillI]; omega
theorem fillI_set (args : List Int) (n j : Nat) (h : j < args.length) (hn : args.length ≤ n) : (fillI args n j).set j (args.getD j 0) = fillI args n (j + 1) := by
  unfold fillI
  rw [List.set_append_right _ _ (by simp; omega)]
  have e : j - (args.take j).length = 0 := by simp; omega
  have e2 : n - j = (n - (j + 1)) + 1 := by omega
  rw [e, e2, List.replicate_succ, List.set_cons_zero, List.take_succ_eq_append_getElem h, List.append_assoc]
  simp [List.getD, h]

end Go.Proofs.YthaganponmnanaaGreatDoor
namespace Go.Proofs.YthaganponmnanaaGreatDoor
open Go.RowKit

theorem flatten_len (k : Nat) : ∀ (ess : List (List Value)), (∀ e ∈ ess, e.length = k) → ess.flatten.length = ess.length * k
  | [], _ => by simp
  | e :: r, h => by
    have h1 := h e (by simp)
    have h2 := flatten_len k r (fun x hx => h x (by simp [hx]))
    simp only [List.flatten_cons, List.length_append, List.length_cons, h1, h2, Nat.add_mul]; omega
theorem flatten_get (k : Nat) : ∀ (ess : List (List Value)) (i j : Nat), (∀ e ∈ ess, e.length = k) → i < ess.length → j < k → ess.flatten[i * k + j]? = (ess.getD i [])[j]?
  | [], i, _, _, h, _ => by simp at h
  | e :: r, 0, j, hk, _, hj => by
    have h1 := hk e (by simp)
    rw [Nat.zero_mul, Nat.zero_add, List.flatten_cons, List.getElem?_append_left (by omega)]
    rfl
  | e :: r, i + 1, j, hk, hi, hj => by
    have h1 := hk e (by simp)
    have ih := flatten_get k r i j (fun x hx => hk x (by simp [hx])) (by simpa using hi) hj
    have e1 : (i + 1) * k + j = k + (i * k + j) := by rw [Nat.add_mul]; omega
    rw [List.flatten_cons, List.getElem?_append_right (by omega), h1, e1, Nat.add_sub_cancel_left, ih]
    rfl
theorem flatten_set (k : Nat) : ∀ (ess : List (List Value)) (i j : Nat) (v : Value), (∀ e ∈ ess, e.length = k) → i < ess.length → j < k → ess.flatten.set (i * k + j) v = (ess.set i ((ess.getD i []).set j v)).flatten
  | [], i, _, _, _, h, _ => by simp at h
  | e :: r, 0, j, v, hk, _, hj => by
    have h1 := hk e (by simp)
    rw [Nat.zero_mul, Nat.zero_add, List.flatten_cons, List.set_append_left _ _ (by omega)]
    rfl
  | e :: r, i + 1, j, v, hk, hi, hj => by
    have h1 := hk e (by simp)
    have ih := flatten_set k r i j v (fun x hx => hk x (by simp [hx])) (by simpa using hi) hj
    have e1 : (i + 1) * k + j = k + (i * k + j) := by rw [Nat.add_mul]; omega
    rw [List.flatten_cons, List.set_append_right _ _ (by omega), h1, e1, Nat.add_sub_cancel_left, ih]
    rfl
theorem set_all_len {k : Nat} {ess : List (List Value)} (h : ∀ e ∈ ess, e.length = k) (i : Nat) (c : List Value) (hc : c.length = k) : ∀ e ∈ ess.set i c, e.length = k := by
  intro e he
  rcases List.mem_or_eq_of_mem_set he with h' | h'
  · exact h e h'
  · rw [h']; exact hc

/-- A row of the call's own is not a block of another element type. -/
theorem owns_other' {w : World} {base : Nat} {e e' : TypeId} {size : Nat} {v : Value} {n : Nat} {xs : List Value} (h : w.ownsRow base e size v n xs) {g : Nat} {cs : Array Value} {fz : Nat × Nat} (hg : w.heap[g]? = some (.cells cs e' fz)) (hne : e ≠ e') : some g ≠ v.ownBlock := by
  rcases h.2 with ⟨rfl, _⟩ | ⟨g', cap, cur, rfl, _, hh, _⟩
  · simp [Value.ownBlock]
  · intro hb
    simp [Value.ownBlock] at hb
    subst hb
    rw [hg] at hh
    injection hh with hh
    injection hh with _ hh _
    exact hne hh.symm

def opCells (o : OpD) (hv : Value) : List Value := [.int .i64 o.code, .int .i64 o.line, .int .i64 o.a, .int .i64 o.b, .int .i64 o.c, hv]
def zeroOp : List Value := [.int .i64 0, .int .i64 0, .int .i64 0, .int .i64 0, .int .i64 0, .slice none 0 0]
def markOp : List Value := [.int .i64 0, .int .i64 77, .int .i64 0, .int .i64 0, .int .i64 0, .slice none 0 0]

theorem Tryz.infoOp : (Tryz.prog.info? 70).map (fun i => (i.zero, i.size, i.bytes)) = some (some (.agg #[.int .i64 0, .int .i64 0, .int .i64 0, .int .i64 0, .int .i64 0, .slice none 0 0]), 6, 64) := by kernel_rfl

theorem made_rows (z : List Value) (k n : Nat) (hk : z.length = k) (hp : 0 < k) : (madeCells z.toArray (n * k)).toList = (List.replicate n z).flatten := by
  apply List.ext_getElem?
  intro x
  have hall : ∀ e ∈ List.replicate n z, e.length = k := fun e he => by rw [List.eq_of_mem_replicate he]; exact hk
  by_cases hx : x < n * k
  · have hx2 : x / k < n := Nat.div_lt_of_lt_mul (by rw [Nat.mul_comm]; exact hx)
    have hm := Nat.mod_lt x hp
    have ex : x = x / k * k + x % k := by rw [Nat.mul_comm]; exact (Nat.div_add_mod x k).symm
    have hg := flatten_get k (List.replicate n z) (x / k) (x % k) hall (by simpa using hx2) hm
    rw [← ex] at hg
    rw [hg]
    have h1 : (List.replicate n z).getD (x / k) [] = z := by simp [List.getD, hx2]
    rw [h1]
    have h2 : z.toArray.size = k := by simpa using hk
    simp only [madeCells, Array.toList_map, Array.toList_range, List.getElem?_map, List.getElem?_range hx, Option.map_some, h2]
    rw [List.getElem?_eq_getElem (by omega)]
    congr 1
    rw [getElem!_pos _ _ (by simp; omega)]
    simp
  · rw [List.getElem?_eq_none (by rw [Array.length_toList, size_madeCells]; omega), List.getElem?_eq_none (by rw [flatten_len k _ hall]; simp; omega)]
end Go.Proofs.YthaganponmnanaaGreatDoor
namespace Go.Proofs.YthaganponmnanaaGreatDoor
open Go.RowKit

theorem add0' (g j : Nat) : (⟨g, 0, none⟩ : Addr).add j = ⟨g, 0 + j, none⟩ := by unfold Addr.add; split <;> simp_all
theorem RdL_of_owns {α : Type} {size : Nat} {R : World → List Value → α → Prop} {w : World} {base : Nat} {e : TypeId} {v : Value} {n : Nat} {css : List (List Value)} {ls : List α} (h : w.ownsRow base e size v n css.flatten) (hk : ∀ c ∈ css, c.length = size) (hl : css.length = n) (hls : ls.length = n)
    (hR : ∀ (i : Nat) (x : α) (cs : List Value), ls[i]? = some x → css[i]? = some cs → R w cs x) : ∃ a cap, v = .slice a n cap ∧ RdL size R w a n cap ls := by
  have hc := fun g hg => h.cells (g := g) hg
  rcases h.2 with ⟨rfl, rfl⟩ | ⟨g, cap, cur, rfl, _, hh, h1, h2, _⟩
  · exact ⟨none, 0, rfl, hls, Nat.le_refl _, by unfold maxLen; omega, fun i x hx => by
      have := (List.getElem?_eq_some_iff.1 hx).1
      omega⟩
  · refine ⟨_, cap, rfl, hls, h1, h2, fun i x hx => ?_⟩
    have hi : i < css.length := by
      have := (List.getElem?_eq_some_iff.1 hx).1
      omega
    have hcs : css[i]? = some (css.getD i []) := by simp [List.getD, hi]
    have hlen := hk _ (List.mem_of_getElem? hcs)
    refine ⟨g, 0, css.getD i [], rfl, hlen, fun j v hj => ?_, hR i x _ hx hcs⟩
    have hj' : j < size := by
      have := (List.getElem?_eq_some_iff.1 hj).1
      omega
    have := hc g rfl (i * size + j) v (by rw [flatten_get size css i j hk hi hj']; exact hj)
    rw [add0'] at this
    rw [Nat.add_assoc]
    exact this

end Go.Proofs.YthaganponmnanaaGreatDoor
namespace Go.Proofs.YthaganponmnanaaGreatDoor
open Go.RowKit

/-- A block of cells of this element type. -/
def IsE (w : World) (g : Nat) (e : TypeId) : Prop := ∃ cs fz, w.heap[g]? = some (.cells cs e fz)
theorem IsE.setCell {w : World} {g : Nat} {e : TypeId} (h : IsE w g e) (g' j : Nat) (u : Value) : IsE (w.setCell ⟨g', j, none⟩ u) g e := by
  obtain ⟨cs, fz, hg⟩ := h
  by_cases hne : g = g'
  · subst hne
    refine ⟨cs.setIfInBounds j u, fz, ?_⟩
    simp [World.setCell, Array.getElem?_modify, hg]
  · exact ⟨cs, fz, (Below.heap_setCell w ⟨g', j, none⟩ u g hne).trans hg⟩
theorem HdI.setE {w : World} {base : Nat} {a : Option Addr} {l : List Int} {hv : Value} (h : HdI w base a l hv) {g : Nat} {e : TypeId} (hg : IsE w g e) (hne : 3 ≠ e) (j : Nat) (u : Value) : HdI (w.setCell ⟨g, j, none⟩ u) base a l hv := by
  obtain ⟨cs, fz, hg⟩ := hg
  rcases h with h | ⟨h1, g', e', ho⟩
  · exact .inl h
  · exact .inr ⟨h1, g', e', ownsRow_setCell_other ho (fun e => owns_other' ho hg hne e.symm) u⟩

/-- Of the ops that have been laid: each has the cells of its op, and numbers that were made to be handed in. -/
def Done (w : World) (base : Nat) (orig : Nat → Option Value) (l : List OpD) (done : List (List Value)) : Prop :=
  ∀ i o, i < done.length → l[i]? = some o → ∃ aa acap hv, orig i = some (.slice aa o.args.length acap) ∧ done[i]? = some (opCells o hv) ∧ HdI w base aa o.args hv

theorem Done.mono {w w' : World} {base : Nat} {orig : Nat → Option Value} {l : List OpD} {done : List (List Value)} (h : Done w base orig l done) (hm : ∀ aa l hv, HdI w base aa l hv → HdI w' base aa l hv) : Done w' base orig l done := by
  intro i o hi ho
  obtain ⟨aa, acap, hv, h1, h2, h3⟩ := h i o hi ho
  exact ⟨aa, acap, hv, h1, h2, hm _ _ _ h3⟩
theorem Done.snoc {w : World} {base : Nat} {orig : Nat → Option Value} {l : List OpD} {done : List (List Value)} (h : Done w base orig l done) (o : OpD) (ho : l[done.length]? = some o) (aa : Option Addr) (acap : Nat) (hv : Value)
    (h1 : orig done.length = some (.slice aa o.args.length acap)) (h2 : HdI w base aa o.args hv) : Done w base orig l (done ++ [opCells o hv]) := by
  intro i o' hi ho'
  rw [List.length_append, List.length_singleton] at hi
  by_cases hlt : i < done.length
  · obtain ⟨aa', acap', hv', e1, e2, e3⟩ := h i o' hlt ho'
    exact ⟨aa', acap', hv', e1, by rw [List.getElem?_append_left hlt]; exact e2, e3⟩
  · have : i = done.length := by omega
    subst this
    rw [ho] at ho'
    cases ho'
    exact ⟨aa, acap, hv, h1, by simp, h2⟩

/-- The body of a function that is handed in. -/
def HdB (w : World) (base : Nat) (orig : Nat → Option Value) (l : List OpD) (g : Nat) : Prop :=
  ∃ done, done.length = l.length ∧ (∀ e ∈ done, e.length = 6) ∧ Done w base orig l done ∧
    w.ownsRow base 70 6 (.slice (some ⟨g, 0, none⟩) (l.length + 8) (l.length + 8)) (l.length + 8) (done ++ List.replicate 8 markOp).flatten

/-- A whole entry of six cells stored into a row of the call's own. -/
theorem stored6 {w : World} {base g n cap : Nat} {e : TypeId} {ess : List (List Value)} (h : w.ownsRow base e 6 (.slice (some ⟨g, 0, none⟩) n cap) n ess.flatten) (hk : ∀ c ∈ ess, c.length = 6) (i : Nat) (hi : i < ess.length) (v0 v1 v2 v3 v4 v5 : Value) :
    ((((((w.setCell ⟨g, i * 6, none⟩ v0).setCell ⟨g, i * 6 + 1, none⟩ v1).setCell ⟨g, i * 6 + 2, none⟩ v2).setCell ⟨g, i * 6 + 3, none⟩ v3).setCell ⟨g, i * 6 + 4, none⟩ v4).setCell ⟨g, i * 6 + 5, none⟩ v5).ownsRow base e 6 (.slice (some ⟨g, 0, none⟩) n cap) n
      (ess.set i [v0, v1, v2, v3, v4, v5]).flatten := by
  have hc : (ess.getD i []).length = 6 := hk _ (by simp [List.getD, hi])
  match hcc : ess.getD i [], hc with
  | [x0, x1, x2, x3, x4, x5], _ =>
    have s0 := (h.stored (i * 6 + 0) v0).1
    rw [flatten_set 6 ess i 0 v0 hk hi (by omega), hcc] at s0
    have k0 := set_all_len hk i ([x0, x1, x2, x3, x4, x5].set 0 v0) rfl
    have s1 := (s0.stored (i * 6 + 1) v1).1
    rw [flatten_set 6 _ i 1 v1 k0 (by simpa using hi) (by omega)] at s1
    have g1 : (ess.set i ([x0, x1, x2, x3, x4, x5].set 0 v0)).getD i [] = [v0, x1, x2, x3, x4, x5] := by simp [List.getD, hi]
    rw [g1, List.set_set] at s1
    have k1 := set_all_len hk i ([v0, x1, x2, x3, x4, x5].set 1 v1) rfl
    have s2 := (s1.stored (i * 6 + 2) v2).1
    rw [flatten_set 6 _ i 2 v2 k1 (by simpa using hi) (by omega)] at s2
    have g2 : (ess.set i ([v0, x1, x2, x3, x4, x5].set 1 v1)).getD i [] = [v0, v1, x2, x3, x4, x5] := by simp [List.getD, hi]
    rw [g2, List.set_set] at s2
    have k2 := set_all_len hk i ([v0, v1, x2, x3, x4, x5].set 2 v2) rfl
    have s3 := (s2.stored (i * 6 + 3) v3).1
    rw [flatten_set 6 _ i 3 v3 k2 (by simpa using hi) (by omega)] at s3
    have g3 : (ess.set i ([v0, v1, x2, x3, x4, x5].set 2 v2)).getD i [] = [v0, v1, v2, x3, x4, x5] := by simp [List.getD, hi]
    rw [g3, List.set_set] at s3
    have k3 := set_all_len hk i ([v0, v1, v2, x3, x4, x5].set 3 v3) rfl
    have s4 := (s3.stored (i * 6 + 4) v4).1
    rw [flatten_set 6 _ i 4 v4 k3 (by simpa using hi) (by omega)] at s4
    have g4 : (ess.set i ([v0, v1, v2, x3, x4, x5].set 3 v3)).getD i [] = [v0, v1, v2, v3, x4, x5] := by simp [List.getD, hi]
    rw [g4, List.set_set] at s4
    have k4 := set_all_len hk i ([v0, v1, v2, v3, x4, x5].set 4 v4) rfl
    have s5 := (s4.stored (i * 6 + 5) v5).1
    rw [flatten_set 6 _ i 5 v5 k4 (by simpa using hi) (by omega)] at s5
    have g5 : (ess.set i ([v0, v1, v2, v3, x4, x5].set 4 v4)).getD i [] = [v0, v1, v2, v3, v4, x5] := by simp [List.getD, hi]
    rw [g5, List.set_set] at s5
    exact s5

theorem set_mid {α : Type} (done : List α) (m : Nat) (z c : α) (s : Nat) (hs : done.length = s) (hm : 0 < m) : (done ++ List.replicate m z).set s c = (done ++ [c]) ++ List.replicate (m - 1) z := by
  obtain ⟨k, rfl⟩ : ∃ k, m = k + 1 := ⟨m - 1, by omega⟩
  rw [List.set_append_right _ _ (by omega), hs, Nat.sub_self, List.replicate_succ, List.set_cons_zero]
  simp

theorem marks_set {α : Type} (done : List α) (m z : α) (k n : Nat) (hn : done.length = n) (h : k < 8) : (done ++ (List.replicate k m ++ List.replicate (8 - k) z)).set (n + k) m = done ++ (List.replicate (k + 1) m ++ List.replicate (8 - (k + 1)) z) := by
  rw [List.set_append_right _ _ (by omega), hn, Nat.add_sub_cancel_left, List.set_append_right _ _ (by simp), List.length_replicate, Nat.sub_self]
  obtain ⟨q, hq⟩ : ∃ q, 8 - k = q + 1 := ⟨8 - k - 1, by omega⟩
  have hq2 : 8 - (k + 1) = q := by omega
  rw [hq, hq2, List.replicate_succ, List.set_cons_zero, List.replicate_succ']
  simp
theorem marks_at {α : Type} (done : List α) (m z d : α) (k n : Nat) (hn : done.length = n) (h : k < 8) : (done ++ (List.replicate k m ++ List.replicate (8 - k) z)).getD (n + k) d = z := by
  simp only [List.getD]
  rw [List.getElem?_append_right (by omega), hn, Nat.add_sub_cancel_left, List.getElem?_append_right (by simp), List.length_replicate, Nat.sub_self, List.getElem?_replicate_of_lt (by omega)]
  rfl

/-- The relation of funcOf's first loop. -/
def RelF (w : World) (base : Nat) (orig : Nat → Option Value) (l : List OpD) (g : Nat) (i : Value) (wr : World) : Prop :=
  ∃ (s : Nat) (done : List (List Value)), i = .int .i64 s ∧ s ≤ l.length ∧ done.length = s ∧ (∀ e ∈ done, e.length = 6) ∧ Done wr base orig l done ∧
    wr.ownsRow base 70 6 (.slice (some ⟨g, 0, none⟩) (l.length + 8) (l.length + 8)) (l.length + 8) (done ++ List.replicate (l.length + 8 - s) zeroOp).flatten ∧ Below w.heap.size w wr

end Go.Proofs.YthaganponmnanaaGreatDoor
namespace Go.Proofs.YthaganponmnanaaGreatDoor
open Go.RowKit

end Go.Proofs.YthaganponmnanaaGreatDoor
namespace Go.Proofs.YthaganponmnanaaGreatDoor
open Go.RowKit

/-- A frame that is told. -/
structure FrameD where
  func : ByteArray
  file : ByteArray
  line : Int
def frCells (x : FrameD) : List Value := [.string x.func, .string x.file, .int .i64 x.line]
def RdFrame (_ : World) (cs : List Value) (x : FrameD) : Prop := cs = frCells x

theorem RdL.frameAt {w : World} {a : Option Addr} {n cap : Nat} {l : List FrameD} (h : RdL 3 RdFrame w a n cap l) (i : Nat) (x : FrameD) (hx : l[i]? = some x) :
    ∃ b off, a = some ⟨b, off, none⟩ ∧ w.cell? ⟨b, off + i * 3, none⟩ = some (.string x.func) ∧ w.cell? ⟨b, off + i * 3 + 1, none⟩ = some (.string x.file) ∧ w.cell? ⟨b, off + i * 3 + 2, none⟩ = some (.int .i64 x.line) := by
  obtain ⟨b, off, cs, e, _, hc, rfl⟩ := h.2.2.2 i x hx
  exact ⟨b, off, e, hc 0 _ rfl, hc 1 _ rfl, hc 2 _ rfl⟩

end Go.Proofs.YthaganponmnanaaGreatDoor
namespace Go.Proofs.YthaganponmnanaaGreatDoor
open Go.RowKit

/-- How a run stands. -/
structure StandD where
  status : Int
  value : Int
  live : List LiveD
def RdStand (w : World) (cs : List Value) (s : StandD) : Prop :=
  ∃ a cap, cs = [.int .i64 s.status, .int .i64 s.value, .slice a s.live.length cap] ∧ RdL 3 RdLive w a s.live.length cap s.live
theorem RdStand.below {w w' : World} {cs : List Value} {s : StandD} (h : RdStand w cs s) (hb : Below w.heap.size w w') : RdStand w' cs s := by
  obtain ⟨a, cap, e, hr⟩ := h
  exact ⟨a, cap, e, hr.below hb (fun _ _ h => h.below hb)⟩

end Go.Proofs.YthaganponmnanaaGreatDoor
