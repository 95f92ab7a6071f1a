/- The instances and the nodes of a code that was laid fit together; nothing is claimed of the program here. Mathematics of images: what was written of a well-formed image is read back; cut off, wherever, it ends too early; nothing is claimed of the program here. Mathematics of images, on: the files, the tree, an entry, all entries; the whole image. The image of a program's code is well-formed; nothing is claimed of the program here. What stands at the pcs of an image, and the frames that they stand for, as plain data; nothing is claimed of the program here. A program whose ops that are no Calls have lost their Args: it is as good, and its runs are the same; nothing is claimed of the program here. Contracts of the developers' program.isNamed, headMayBe, isLocal, IsValue, argsMayBe: plain functions of what is handed in; nothing that was there is written. Frames of the developers' run, how they lie in memory, and contracts of run.goOn, jump, result: plain functions of what is handed in; nothing that was there is written. The developers' writer in memory, and how it changes; bounds of what is laid. Contract of the reference's Run, and what it answers, as plain functions. -/
import Derived.Test.YtffnfjkjlmlonaaGreatDoorZB14
import Derived.Test.YtffnfjkjlmlonaaGreatDoorZB6
import Derived.Test.YtffnfjkjlmlonaaGreatDoorZB7
import Derived.Test.YtffnfjkjlmlonaaGreatDoorZB3
import Derived.Test.YtffnfjkjlmlonaaGreatDoorZB0
import Derived.Test.YtffnfjkjlmlonaaGreatDoorZB12
import Derived.Deep.QuietTactic
import Derived.BigQuiet
import Derived.Test.YtffnfjkjlmlonaaGreatDoorZB13
import Derived.Deep.AppendLies
import Derived.Deep.RegionLaw
import Derived.Deep.RegionHeld
namespace Go.Proofs.YtffnfjkjlmlonaaGreatDoor
open Go.RowKit
def opAt (p : List FnD) (a : PlD) : OpD := ((fnAt p a.fn).body[a.op.toNat]?).getD noOp
def PlOk (p : List FnD) (a : PlD) : Prop := (0 ≤ a.fn ∧ a.fn < p.length) ∧ 0 ≤ a.op ∧ a.op < (fnAt p a.fn).body.length
/-- The function of an instance, in the code of function r. -/
def fnK (r : Int) (t : List (Int × Int)) (k : Nat) : Option Int := if k = 0 then some r else (t[k - 1]?).map (·.1)
/-- The nodes and the instances of a code fit together. -/
structure GoodLy (p : List FnD) (r : Int) (s : LyD) : Prop where
  node : ∀ (i : Nat) (nd : Int × Int), s.tree[i]? = some nd → (0 ≤ nd.1 ∧ nd.1 < p.length) ∧ ∃ (pc : Nat) (a b : PlD), nd.2 = (pc : Int) ∧ s.places[pc]? = some a ∧ s.places[pc + 1]? = some b ∧ a.inst < (i : Int) + 1 ∧ b.inst = (i : Int) + 1 ∧ (opAt p a).code = 5 ∧ (opAt p a).b = nd.1
  inc : ∀ (i j : Nat) (x y : Int × Int), i < j → s.tree[i]? = some x → s.tree[j]? = some y → x.2 < y.2
  inst : ∀ a ∈ s.places, ∃ k : Nat, a.inst = (k : Int) ∧ k ≤ s.tree.length ∧ fnK r s.tree k = some a.fn
  pl : ∀ a ∈ s.places, PlOk p a
/-- The last node's instance has not begun yet. -/
structure PendLy (p : List FnD) (r : Int) (s : LyD) (t0 : List (Int × Int)) (nd : Int × Int) (c : PlD) : Prop where
  tree : s.tree = t0 ++ [nd]
  good : GoodLy p r ⟨s.room, s.places, t0⟩
  func : 0 ≤ nd.1 ∧ nd.1 < p.length
  last : s.places.getLast? = some c
  at_ : nd.2 + 1 = (s.places.length : Int)
  call : (opAt p c).code = 5 ∧ (opAt p c).b = nd.1
def Ext (s t : LyD) : Prop := (∃ X, t.places = s.places ++ X) ∧ ∃ Y, t.tree = s.tree ++ Y
theorem Ext.refl (s : LyD) : Ext s s := ⟨⟨[], by simp⟩, ⟨[], by simp⟩⟩
theorem Ext.trans {s t u : LyD} (h : Ext s t) (h' : Ext t u) : Ext s u := by
  obtain ⟨⟨X, hx⟩, Y, hy⟩ := h
  obtain ⟨⟨X', hx'⟩, Y', hy'⟩ := h'
  exact ⟨⟨X ++ X', by rw [hx', hx, List.append_assoc]⟩, ⟨Y ++ Y', by rw [hy', hy, List.append_assoc]⟩⟩
theorem Ext.len {s t : LyD} (h : Ext s t) : s.tree.length ≤ t.tree.length := by
  obtain ⟨_, Y, hy⟩ := h
  rw [hy, List.length_append]; omega
theorem Ext.mem {s t : LyD} (h : Ext s t) {a : PlD} (ha : a ∈ s.places) : a ∈ t.places := by
  obtain ⟨⟨X, hx⟩, _⟩ := h
  rw [hx]; exact List.mem_append_left _ ha
theorem fnK_ext {r : Int} {t : List (Int × Int)} {k : Nat} (h : k ≤ t.length) (Y : List (Int × Int)) : fnK r (t ++ Y) k = fnK r t k := by
  unfold fnK
  split
  · rfl
  · rw [List.getElem?_append_left (by omega)]
/-- All ops of the instance m are laid. -/
def Full (p : List FnD) (r : Int) (s : LyD) (m : Nat) : Prop := ∀ g, fnK r s.tree m = some g → ∀ j : Nat, j < (fnAt p g).body.length → ∃ a ∈ s.places, a.inst = (m : Int) ∧ a.op = (j : Int)
theorem Full.ext {p : List FnD} {r : Int} {s t : LyD} {m : Nat} (h : Full p r s m) (he : Ext s t) (hm : m ≤ s.tree.length) : Full p r t m := fun g hg j hj => by
  have h2 := he
  obtain ⟨_, Y, hy⟩ := h2
  rw [hy, fnK_ext hm] at hg
  obtain ⟨a, ha, h1⟩ := h g hg j hj
  exact ⟨a, he.mem ha, h1⟩
theorem getElem?_snoc {α : Type} {l : List α} {x : α} {i : Nat} {y : α} (h : (l ++ [x])[i]? = some y) : l[i]? = some y ∨ (i = l.length ∧ y = x) := by
  by_cases hi : i < l.length
  · rw [List.getElem?_append_left hi] at h; exact .inl h
  · rw [List.getElem?_append_right (by omega)] at h
    have hlt : i - l.length < [x].length := (List.getElem?_eq_some_iff.1 h).1
    simp at hlt
    have : i - l.length = 0 := by omega
    rw [this] at h
    simp at h
    exact .inr ⟨by omega, h.symm⟩
theorem getElem?_old {α : Type} {l : List α} {i : Nat} {y : α} (h : l[i]? = some y) (r : List α) : (l ++ r)[i]? = some y := by
  rw [List.getElem?_append_left (List.getElem?_eq_some_iff.1 h).1]; exact h
theorem GoodLy.add {p : List FnD} {r : Int} {s : LyD} (h : GoodLy p r s) {c : PlD} (h0 : ∃ k : Nat, c.inst = (k : Int) ∧ k ≤ s.tree.length ∧ fnK r s.tree k = some c.fn) (hc : PlOk p c) (m : Int) : GoodLy p r ⟨m, s.places ++ [c], s.tree⟩ where
  node := fun i nd hn => by
    obtain ⟨h1, pc, a, b, e1, e2, e3, e4⟩ := h.node i nd hn
    exact ⟨h1, pc, a, b, e1, getElem?_old e2 _, getElem?_old e3 _, e4⟩
  inc := h.inc
  inst := fun a ha => by
    rcases List.mem_append.1 ha with g | g
    · exact h.inst a g
    · rw [List.mem_singleton.1 g]; exact h0
  pl := fun a ha => by
    rcases List.mem_append.1 ha with g | g
    · exact h.pl a g
    · rw [List.mem_singleton.1 g]; exact hc
def Fresh (p : List FnD) (r : Int) (s : LyD) (b : Int) : Prop := (s.places = [] ∧ s.tree = [] ∧ b = r) ∨ ∃ t0 nd c, PendLy p r s t0 nd c ∧ nd.1 = b
theorem Fresh.fnK {p : List FnD} {r : Int} {s : LyD} {b : Int} (h : Fresh p r s b) : Proofs.YtffnfjkjlmlonaaGreatDoor.fnK r s.tree s.tree.length = some b := by
  unfold Proofs.YtffnfjkjlmlonaaGreatDoor.fnK
  rcases h with ⟨h1, h2, h3⟩ | ⟨t0, nd, c, h, hb⟩
  · rw [h2, if_pos (by rfl), h3]
  · rw [h.tree, if_neg (by simp)]
    simp [hb]
/-- What of a program the laying needs: bodies that are not empty, Calls of its functions. -/
structure LayOk (p : List FnD) : Prop where
  body : ∀ fn : Int, 0 ≤ fn → fn < p.length → (fnAt p fn).body ≠ []
  call : ∀ fn : Int, 0 ≤ fn → fn < p.length → ∀ o ∈ (fnAt p fn).body, o.code = 5 → 0 ≤ o.b ∧ o.b < p.length
end Go.Proofs.YtffnfjkjlmlonaaGreatDoor
namespace Go.Proofs.YtffnfjkjlmlonaaGreatDoor
open Go.RowKit
theorem Eats.cut {bs x : List Int} {a t : Int} (h : Eats bs a x t) {j : Nat} (hj : t ≤ j) (hl : j ≤ bs.length) : Eats (bs.take j) a x t := by
  obtain ⟨h0, h1, h2, h3⟩ := h
  refine ⟨h0, h1, by rw [List.length_take]; omega, ?_⟩
  rw [List.drop_take, h3, List.drop_take, List.take_append, List.take_of_length_le (by omega)]
  congr 2
  omega
theorem Eats.off {bs x : List Int} {a t : Int} (h : Eats bs a x t) {j : Nat} (ha : a ≤ j) (hj : j < t) : bs.take j = bs.take a.toNat ++ x.take (j - a.toNat) := by
  obtain ⟨h0, h1, h2, h3⟩ := h
  have e : j = a.toNat + (j - a.toNat) := by omega
  conv => lhs; rw [e]
  rw [List.take_add, h3, List.take_append_of_le_length (by omega)]
theorem Eats.split {bs x y : List Int} {a t : Int} (h : Eats bs a (x ++ y) t) : ∃ m, Eats bs a x m ∧ Eats bs m y t := by
  obtain ⟨h0, h1, h2, h3⟩ := h
  rw [List.length_append] at h1
  have hd : bs.drop (a + x.length).toNat = y ++ bs.drop t.toNat := by
    have e : (a + (x.length : Int)).toNat = a.toNat + x.length := by omega
    rw [e, ← List.drop_drop, h3, List.append_assoc, List.drop_left]
  refine ⟨a + x.length, ⟨h0, rfl, by omega, ?_⟩, ⟨by omega, by omega, h2, hd⟩⟩
  rw [h3, hd, List.append_assoc]
end Go.Proofs.YtffnfjkjlmlonaaGreatDoor
namespace Go.Proofs.YtffnfjkjlmlonaaGreatDoor
open Go.RowKit
theorem Files.grow {l : List ByteArray} {s : ByteArray} (h : Files l) (hs : wordB s = true) : Files (filesD s l) := by
  unfold filesD
  split
  · next e =>
    refine ⟨h.1.snoc e, fun x hx => ?_⟩
    rcases List.mem_append.1 hx with g | g
    · exact h.2 x g
    · rw [List.mem_singleton.1 g]; exact hs
  · exact h
end Go.Proofs.YtffnfjkjlmlonaaGreatDoor
namespace Go.Proofs.YtffnfjkjlmlonaaGreatDoor
open Go.RowKit
theorem mem_of_unroll {l : List (Int × Int)} {v : Int} (h : v ∈ unroll l) : ∃ q ∈ l, q.1 = v := by
  unfold unroll at h
  rw [List.mem_flatMap] at h
  obtain ⟨q, hq, hv⟩ := h
  exact ⟨q, hq, (List.mem_replicate.1 hv).2.symm⟩
theorem GoodLy.pcs {p : List FnD} {r : Int} {s : LyD} (h : GoodLy p r s) : ∀ (i : Nat) (nd : Int × Int), s.tree[i]? = some nd → (i : Int) ≤ nd.2 ∧ nd.2 + 1 < s.places.length
  | 0, nd, hn => by
    obtain ⟨_, pc, a, b, e1, _, e3, _⟩ := h.node 0 nd hn
    have := (List.getElem?_eq_some_iff.1 e3).1
    omega
  | i + 1, nd, hn => by
    obtain ⟨_, pc, a, b, e1, _, e3, _⟩ := h.node (i + 1) nd hn
    have h3 := (List.getElem?_eq_some_iff.1 e3).1
    have hlt := (List.getElem?_eq_some_iff.1 hn).1
    obtain ⟨x, hx⟩ : ∃ x, s.tree[i]? = some x := ⟨_, List.getElem?_eq_getElem (by omega)⟩
    have ih := h.pcs i x hx
    have := h.inc i (i + 1) x nd (by omega) hx hn
    omega
theorem GoodLy.treeOk {p : List FnD} {r : Int} {s : LyD} (h : GoodLy p r s) : ∀ (tr : List (Int × Int)) (i : Nat), s.tree.drop i = tr → ∀ before : Int, (∀ x, s.tree[i]? = some x → before < x.2) →
    Proofs.YtffnfjkjlmlonaaGreatDoor.treeOk p.length (s.places.map fun a => a.inst) tr ((i : Int) + 1) before = true
  | [], _, _, _, _ => rfl
  | x :: t, i, ht, before, hb => by
    have hx : s.tree[i]? = some x := by
      have h2 : (s.tree.drop i)[0]? = some x := by rw [ht]; rfl
      simpa using h2
    have ht2 : s.tree.drop (i + 1) = t := by
      have h2 : (s.tree.drop i).drop 1 = t := by rw [ht]; rfl
      rw [List.drop_drop] at h2
      exact h2
    obtain ⟨h1, pc, a, b, e1, e2, e3, e4, e5, _⟩ := h.node i x hx
    have h3 := (List.getElem?_eq_some_iff.1 e3).1
    have hbx := hb x hx
    unfold Proofs.YtffnfjkjlmlonaaGreatDoor.treeOk
    rw [Bool.and_eq_true, Bool.and_eq_true]
    refine ⟨⟨by unfold withB; exact decide_eq_true h1, ?_⟩, ?_⟩
    · unfold pcB
      rw [Bool.and_eq_true, Bool.and_eq_true]
      have g1 : (s.places.map fun a => a.inst).getD x.2.toNat 0 = a.inst := by rw [e1, Int.toNat_natCast]; simp [List.getD, e2]
      have g2 : (s.places.map fun a => a.inst).getD (x.2.toNat + 1) 0 = b.inst := by rw [e1, Int.toNat_natCast]; simp [List.getD, e3]
      refine ⟨decide_eq_true ⟨hbx, by rw [List.length_map]; omega⟩, by rw [g1]; exact decide_eq_true (by omega), by rw [g2, e5]; simp⟩
    · have := h.treeOk t (i + 1) ht2 x.2 (fun y hy => h.inc i (i + 1) x y (by omega) hx hy)
      have e : ((i + 1 : Nat) : Int) + 1 = (i : Int) + 1 + 1 := by omega
      rw [e] at this
      exact this
end Go.Proofs.YtffnfjkjlmlonaaGreatDoor
namespace Go.Proofs.YtffnfjkjlmlonaaGreatDoor
open Go.RowKit
structure PlcD where
  fn : Int
  first : Int
  line : Int
  inst : Int
def noP : PlcD := ⟨0, 0, 0, 0⟩
def noE : EntD := ⟨⟨#[]⟩, ⟨#[]⟩, [], [], []⟩
def plcE (fn first : Int) (x : EntD) : List PlcD := List.zipWith (fun a b => ⟨fn, first, a, b⟩) (unroll x.lines) (unroll x.index)
def plcF : List EntD → Nat → List PlcD → List PlcD
  | [], _, acc => acc
  | x :: r, fn, acc => plcF r (fn + 1) (acc ++ plcE fn acc.length x)
def plcD (L : List EntD) : List PlcD := plcF L 0 []
/-- What is known of an entry of a well-formed image of n functions. -/
structure EntG (n : Nat) (x : EntD) : Prop where
  wl : wfS x.lines (-1) 1000 = true
  wi : wfS x.index (-1) 1000 = true
  len : (unroll x.index).length = (unroll x.lines).length
  most : (unroll x.lines).length ≤ 1000
  sum : ((unroll x.lines).length : Int) = sumS x.lines
  inst : ∀ k ∈ unroll x.index, 0 ≤ k ∧ k ≤ x.tree.length
  node : ∀ (t : Nat) (nd : Int × Int), x.tree[t]? = some nd → (0 ≤ nd.1 ∧ nd.1 < n) ∧ (0 ≤ nd.2 ∧ nd.2 < (unroll x.lines).length) ∧ (unroll x.index).getD nd.2.toNat 0 ≤ t
  line : ∀ v ∈ unroll x.lines, 1 ≤ v ∧ v ≤ 9999
  name : x.name.size ≤ 20
  file : x.file.size ≤ 20
  trees : x.tree.length ≤ 9999
theorem mostT_top {l : List (Int × Int)} {q : Int × Int} (h : q ∈ l) : q.1 ≤ mostT l := by
  have key : ∀ (l : List (Int × Int)) (n : Int), n ≤ l.foldl (fun n p => if n < p.1 then p.1 else n) n ∧ ∀ q ∈ l, q.1 ≤ l.foldl (fun n p => if n < p.1 then p.1 else n) n := by
    intro l
    induction l with
    | nil => intro n; exact ⟨Int.le_refl _, fun q hq => by cases hq⟩
    | cons p t ih =>
      intro n
      obtain ⟨h1, h2⟩ := ih (if n < p.1 then p.1 else n)
      rw [List.foldl_cons]
      refine ⟨?_, fun q hq => ?_⟩
      · split at h1 <;> rename_i hc <;> simp only [hc, if_true, if_false] at h1 ⊢ <;> omega
      · rcases List.mem_cons.1 hq with rfl | hq
        · split at h1 <;> rename_i hc <;> simp only [hc, if_true, if_false] at h1 ⊢ <;> omega
        · exact h2 q hq
  exact (key l 0).2 q h
theorem wfS_vals {l : List (Int × Int)} (h : wfS l (-1) 1000 = true) : ∀ q ∈ l, isV q.1 = true := fun q hq => by
  obtain ⟨i, hi, rfl⟩ := List.getElem_of_mem hq
  have g := (sum_take (l := l) (-1) 1000 i h (by omega) hi).2.2.2.2
  simpa [List.getD, hi] using g
theorem entG_of {n : Nat} {x : EntD} {names : List ByteArray} {room : Int} (h : entOk n x names room = true) : EntG n x := by
  obtain ⟨p1, p2, p3, p4, p5, p6, p7, p8⟩ := entOk_parts h
  have hwl : wfS x.lines (-1) 1000 = true := by unfold wfT at p3; rw [Bool.and_eq_true] at p3; exact p3.1
  have hwi : wfS x.index (-1) 1000 = true := by unfold wfT at p4; rw [Bool.and_eq_true] at p4; exact p4.1
  have hul := unroll_all_len hwl
  have hui := unroll_all_len hwi
  have hlen : (unroll x.index).length = (unroll x.lines).length := by omega
  refine ⟨hwl, hwi, hlen, by omega, hul.1, fun k hk => ?_, fun t nd ht => ?_, fun v hv => ?_, ?_, wordB_size p2, by have := mostT_le hwi; omega⟩
  · obtain ⟨q, hq, rfl⟩ := mem_of_unroll hk
    have h1 := mostT_top hq
    have h2 := of_decide_eq_true (wfS_vals hwi q hq)
    omega
  · have hlt := (List.getElem?_eq_some_iff.1 ht).1
    have hg : x.tree.getD t (0, 0) = nd := by rw [List.getD, ht]; rfl
    obtain ⟨q1, q2⟩ := treeOk_at n (unroll x.index) x.tree t 1 (-1) p8 hlt
    have q3 := treeOk_nn n (unroll x.index) x.tree 1 (-1) (by omega) p8 t hlt
    rw [hg] at q1 q2 q3
    have q4 := withB_true q1
    unfold pcB at q2
    simp only [Bool.and_eq_true, decide_eq_true_eq] at q2
    exact ⟨q4, ⟨q3, by omega⟩, by omega⟩
  · obtain ⟨q, hq, rfl⟩ := mem_of_unroll hv
    have h2 := of_decide_eq_true (wfS_vals hwl q hq)
    unfold linesB at p5
    rw [Bool.and_eq_true, List.all_eq_true] at p5
    have h3 := p5.1 q hq
    have h4 : q.1 ≠ 0 := by simpa using h3
    omega
  · unfold newB at p1; rw [Bool.and_eq_true] at p1; exact wordB_size p1.1
theorem wfI_entG {L : List EntD} (h : wfI L = true) : ∀ x ∈ L, EntG L.length x := fun x hx => by
  unfold wfI at h
  rw [Bool.and_eq_true] at h
  obtain ⟨k, hk⟩ := List.mem_iff_getElem?.1 hx
  obtain ⟨names, room, he⟩ := wfIF_at h.2 hk
  exact entG_of he
/-- What stands at each pc. -/
def PlcOk (L : List EntD) (P : List PlcD) : Prop := ∀ (pc : Nat) (a : PlcD), P[pc]? = some a → ∃ (f s : Nat) (x : EntD), a.fn = f ∧ a.first = s ∧ L[f]? = some x ∧ s ≤ pc ∧ pc < s + (unroll x.lines).length ∧
  ∀ j, j < (unroll x.lines).length → P[s + j]? = some ⟨f, s, (unroll x.lines).getD j 0, (unroll x.index).getD j 0⟩
theorem plcE_len {fn first : Int} {n : Nat} {x : EntD} (h : EntG n x) : (plcE fn first x).length = (unroll x.lines).length := by
  unfold plcE
  rw [List.length_zipWith, h.len, Nat.min_self]
theorem plcE_at {fn first : Int} {n : Nat} {x : EntD} (h : EntG n x) {j : Nat} (hj : j < (unroll x.lines).length) : (plcE fn first x)[j]? = some ⟨fn, first, (unroll x.lines).getD j 0, (unroll x.index).getD j 0⟩ := by
  unfold plcE
  have hj2 : j < (unroll x.index).length := by rw [h.len]; exact hj
  rw [List.getElem?_zipWith, List.getElem?_eq_getElem hj, List.getElem?_eq_getElem hj2]
  simp [List.getD, hj, hj2]
theorem plcOk_snoc {L : List EntD} {P : List PlcD} {n fn : Nat} {x : EntD} (h : PlcOk L P) (hx : L[fn]? = some x) (hg : EntG n x) : PlcOk L (P ++ plcE fn P.length x) := fun pc a ha => by
  rcases Nat.lt_or_ge pc P.length with hp | hp
  · rw [List.getElem?_append_left hp] at ha
    obtain ⟨f, s, y, h1, h2, h3, h4, h5, h6⟩ := h pc a ha
    exact ⟨f, s, y, h1, h2, h3, h4, h5, fun j hj => getElem?_old (h6 j hj) _⟩
  · rw [List.getElem?_append_right hp] at ha
    have hlt : pc - P.length < (unroll x.lines).length := by
      have := (List.getElem?_eq_some_iff.1 ha).1
      rwa [plcE_len hg] at this
    rw [plcE_at hg hlt] at ha
    cases ha
    refine ⟨fn, P.length, x, rfl, rfl, hx, hp, by omega, fun j hj => ?_⟩
    rw [List.getElem?_append_right (by omega), show P.length + j - P.length = j by omega]
    exact plcE_at hg hj
theorem plcF_ok {L : List EntD} {n : Nat} : ∀ (r : List EntD) (fn : Nat) (acc : List PlcD), L.drop fn = r → (∀ x ∈ r, EntG n x) → PlcOk L acc → PlcOk L (plcF r fn acc)
  | [], _, _, _, _, h => h
  | x :: r, fn, acc, hd, hg, h => by
    have hx : L[fn]? = some x := by
      have h0 : (L.drop fn)[0]? = some x := by rw [hd]; rfl
      simpa using h0
    have hd' : L.drop (fn + 1) = r := by
      have := congrArg List.tail hd
      simpa using this
    exact plcF_ok r (fn + 1) _ hd' (fun y hy => hg y (List.mem_cons_of_mem _ hy)) (plcOk_snoc h hx (hg x (List.mem_cons_self ..)))
theorem plcD_ok {L : List EntD} {n : Nat} (hg : ∀ x ∈ L, EntG n x) : PlcOk L (plcD L) := plcF_ok L 0 [] rfl hg (fun pc a h => by simp at h)
theorem plcF_len {n : Nat} : ∀ (r : List EntD) (fn : Nat) (acc : List PlcD), (∀ x ∈ r, EntG n x) → (plcF r fn acc).length = acc.length + (r.map fun x => (unroll x.lines).length).sum
  | [], _, _, _ => rfl
  | x :: r, fn, acc, hg => by
    show (plcF r (fn + 1) _).length = _
    rw [plcF_len r (fn + 1) _ (fun y hy => hg y (List.mem_cons_of_mem _ hy)), List.length_append, plcE_len (hg x (List.mem_cons_self ..)), List.map_cons, List.sum_cons]
    omega
/-- The frames of a pc: those of the Calls that were inlined, and that of the function in whose code it is. -/
def frs (L : List EntD) (P : List PlcD) (own : EntD) : Nat → PlcD → List FrameD → List FrameD
  | 0, a, acc => acc ++ [⟨own.name, own.file, a.line⟩]
  | f + 1, a, acc => if a.inst ≤ 0 then acc ++ [⟨own.name, own.file, a.line⟩] else
      frs L P own f (P.getD (a.first + (own.tree.getD (a.inst - 1).toNat (0, 0)).2).toNat noP) (acc ++ [⟨(L.getD (own.tree.getD (a.inst - 1).toNat (0, 0)).1.toNat noE).name, (L.getD (own.tree.getD (a.inst - 1).toNat (0, 0)).1.toNat noE).file, a.line⟩])
def frsD (L : List EntD) (P : List PlcD) (pc : Nat) : List FrameD := frs L P (L.getD (P.getD pc noP).fn.toNat noE) (P.getD pc noP).inst.toNat (P.getD pc noP) []
theorem frs_zero {L : List EntD} {P : List PlcD} {own : EntD} {a : PlcD} (h : a.inst ≤ 0) (f : Nat) (acc : List FrameD) : frs L P own f a acc = acc ++ [⟨own.name, own.file, a.line⟩] := by
  cases f with
  | zero => rfl
  | succ f => unfold frs; rw [if_pos h]
/-- Does a list of pcs tell of places, of n that there are? -/
def pcsB (n : Int) : List Int → Nat → Bool
  | [], _ => true
  | pc :: r, k => decide ((if k = 0 then 0 else 1) ≤ pc ∧ pc < n + (if k = 0 then 0 else 1)) && pcsB n r (k + 1)
def symB (n : Int) (pcs : List Int) : Bool := decide (pcs.length ≤ 20) && pcsB n pcs 0
def symF (L : List EntD) (P : List PlcD) : List Int → Nat → List FrameD → List FrameD
  | [], _, acc => acc
  | pc :: r, k, acc => symF L P r (k + 1) (acc ++ frsD L P (pc - (if k = 0 then 0 else 1)).toNat)
end Go.Proofs.YtffnfjkjlmlonaaGreatDoor
namespace Go.Proofs.YtffnfjkjlmlonaaGreatDoor
open Go.RowKit
def stripO (o : OpD) : OpD := if o.code = 5 then o else ⟨o.code, o.line, o.a, o.b, o.c, []⟩
def stripF (x : FnD) : FnD := ⟨x.name, x.file, x.params, x.locals, x.body.map stripO⟩
def strip (p : List FnD) : List FnD := p.map stripF
end Go.Proofs.YtffnfjkjlmlonaaGreatDoor
namespace Go.Proofs.YtffnfjkjlmlonaaGreatDoor
open Go.RowKit
theorem RdL.take {α : Type} {size : Nat} {R : World → List Value → α → Prop} {w : World} {a : Option Addr} {len cap : Nat} {l : List α} (h : RdL size R w a len cap l) (k : Nat) (hk : k ≤ len) : RdL size R w a k cap (l.take k) := by
  obtain ⟨h1, h2, h3, h4⟩ := h
  refine ⟨by rw [List.length_take]; omega, by omega, h3, fun i x hx => h4 i x ?_⟩
  rw [List.getElem?_take] at hx
  split at hx
  · exact hx
  · cases hx
end Go.Proofs.YtffnfjkjlmlonaaGreatDoor
namespace Go.Proofs.YtffnfjkjlmlonaaGreatDoor
open Go.RowKit
/-- Eight locals: those that a frame has, and noughts. -/
def pad8 (l : List Int) : List Int := l ++ List.replicate (8 - l.length) 0
def frmCells (x : LiveD) : List Value := .int .i64 x.fn :: .int .i64 x.next :: (pad8 x.locals).map (Value.int .i64)
theorem eight {l : List Int} (h : l.length = 8) : ∃ a b c d e f g i, l = [a, b, c, d, e, f, g, i] := by
  match l, h with
  | [a, b, c, d, e, f, g, i], _ => exact ⟨a, b, c, d, e, f, g, i, rfl⟩
end Go.Proofs.YtffnfjkjlmlonaaGreatDoor
namespace Go.Proofs.YtffnfjkjlmlonaaGreatDoor
open Go.RowKit
def plCells (x : PlD) : List Value := [.int .i64 x.fn, .int .i64 x.op, .int .i64 x.inst]
def ndCells (x : Int × Int) : List Value := [.int .i64 x.1, .int .i64 x.2]
/-- Blocks that the writer does not write. -/
def KeptW (K : Nat → Option Obj) (wb : Nat) (w : World) (pl tr : Value) : Prop := ∀ b o, K b = some o → w.heap[b]? = some o ∧ b ≠ wb ∧ pl.ownBlock ≠ some b ∧ tr.ownBlock ≠ some b
/-- The writer's parts: its box, and the two rows that it owns; w0 is the world in which the program is read. -/
structure WrIn (K : Nat → Option Obj) (w0 : World) (p : List FnD) (bud first : Int) (wb : Nat) (pa : Option Addr) (pcap : Nat) (pl tr : Value) (w : World) (s : LyD) : Prop where
  box : w.heap[wb]? = some (.cells #[.slice pa p.length pcap, .int .i64 bud, .int .i64 s.room, .int .i64 first, pl, tr] 266 (0, 0))
  prog : RdP w0 pa p.length pcap p
  old : Below w0.heap.size w0 w
  le : w0.heap.size ≤ wb
  pls : w.ownsRow (wb + 1) 270 3 pl s.places.length (s.places.map plCells).flatten
  trs : w.ownsRow (wb + 1) 112 2 tr s.tree.length (s.tree.map ndCells).flatten
  ne : ∀ b, pl.ownBlock = some b → tr.ownBlock ≠ some b
  kept : KeptW K wb w pl tr
def WrAt (K : Nat → Option Obj) (w0 : World) (p : List FnD) (bud first : Int) (wb : Nat) (w : World) (s : LyD) : Prop := ∃ pa pcap pl tr, WrIn K w0 p bud first wb pa pcap pl tr w s
theorem WrIn.lt {K : Nat → Option Obj} {w0 : World} {p : List FnD} {bud first : Int} {wb : Nat} {pa : Option Addr} {pcap : Nat} {pl tr : Value} {w : World} {s : LyD} (h : WrIn K w0 p bud first wb pa pcap pl tr w s) : wb < w.heap.size := (Array.getElem?_eq_some_iff.1 h.box).1
theorem WrIn.below {K : Nat → Option Obj} {w0 : World} {p : List FnD} {bud first : Int} {wb : Nat} {pa : Option Addr} {pcap : Nat} {pl tr : Value} {w w' : World} {s : LyD} (h : WrIn K w0 p bud first wb pa pcap pl tr w s) (hb : Below w.heap.size w w') : WrIn K w0 p bud first wb pa pcap pl tr w' s where
  box := (hb.block wb h.lt).trans h.box
  prog := h.prog
  old := h.old.trans (hb.mono h.old.size)
  le := h.le
  pls := ownsRow_below h.pls hb
  trs := ownsRow_below h.trs hb
  ne := h.ne
  kept := fun b o hk => by
    obtain ⟨h1, h2⟩ := h.kept b o hk
    exact ⟨(hb.block b (Array.getElem?_eq_some_iff.1 h1).1).trans h1, h2⟩
theorem WrAt.below {K : Nat → Option Obj} {w0 : World} {p : List FnD} {bud first : Int} {wb : Nat} {w w' : World} {s : LyD} (h : WrAt K w0 p bud first wb w s) (hb : Below w.heap.size w w') : WrAt K w0 p bud first wb w' s := by
  obtain ⟨pa, pcap, pl, tr, h⟩ := h
  exact ⟨pa, pcap, pl, tr, h.below hb⟩
theorem own_ne {w : World} {base : Nat} {e : TypeId} {size : Nat} {v : Value} {n : Nat} {xs : List Value} (h : w.ownsRow base e size v n xs) {b : Nat} (hb : b < base) : v.ownBlock ≠ some b := fun e => by have := (h.lt b e).1; omega
theorem WrIn.cell {K : Nat → Option Obj} {w0 : World} {p : List FnD} {bud first : Int} {wb : Nat} {pa : Option Addr} {pcap : Nat} {pl tr : Value} {w : World} {s : LyD} (h : WrIn K w0 p bud first wb pa pcap pl tr w s) :
    w.cell? ⟨wb, 0, none⟩ = some (.slice pa p.length pcap) ∧ w.cell? ⟨wb, 1, none⟩ = some (.int .i64 bud) ∧ w.cell? ⟨wb, 2, none⟩ = some (.int .i64 s.room) ∧ w.cell? ⟨wb, 3, none⟩ = some (.int .i64 first) ∧ w.cell? ⟨wb, 4, none⟩ = some pl ∧ w.cell? ⟨wb, 5, none⟩ = some tr ∧ (∀ j, w.frozen? ⟨wb, j, none⟩ = false) := by
  have hk := h.box
  refine ⟨by simp [World.cell?, hk], by simp [World.cell?, hk], by simp [World.cell?, hk], by simp [World.cell?, hk], by simp [World.cell?, hk], by simp [World.cell?, hk], fun j => by simp [World.frozen?, hk]⟩
theorem WrIn.room {K : Nat → Option Obj} {w0 : World} {p : List FnD} {bud first : Int} {wb : Nat} {pa : Option Addr} {pcap : Nat} {pl tr : Value} {w : World} {s : LyD} (h : WrIn K w0 p bud first wb pa pcap pl tr w s) (r : Int) :
    WrIn K w0 p bud first wb pa pcap pl tr (w.setCell ⟨wb, 2, none⟩ (.int .i64 r)) ⟨r, s.places, s.tree⟩ where
  box := by rw [heap_setCell_same w wb 2 _ _ _ h.box]; rfl
  prog := h.prog
  old := h.old.setCell (p := ⟨wb, 2, none⟩) h.le _
  le := h.le
  pls := ownsRow_setCell_other h.pls (own_ne h.pls (Nat.lt_succ_self _)) _
  trs := ownsRow_setCell_other h.trs (own_ne h.trs (Nat.lt_succ_self _)) _
  ne := h.ne
  kept := fun b o hk => by
    obtain ⟨h1, h2, h3⟩ := h.kept b o hk
    exact ⟨(heap_setCell_other w ⟨wb, 2, none⟩ b _ h2).trans h1, h2, h3⟩
/-- A box that is kept beside the rest. -/
def withK (K : Nat → Option Obj) (b : Nat) (o : Obj) : Nat → Option Obj := fun x => if x = b then some o else K x
theorem WrIn.keep {K : Nat → Option Obj} {w0 : World} {p : List FnD} {bud first : Int} {wb : Nat} {pa : Option Addr} {pcap : Nat} {pl tr : Value} {w : World} {s : LyD} (h : WrIn K w0 p bud first wb pa pcap pl tr w s) {b : Nat} {o : Obj} (hb : w.heap[b]? = some o) (h1 : b ≠ wb) (h2 : pl.ownBlock ≠ some b) (h3 : tr.ownBlock ≠ some b) : WrIn (withK K b o) w0 p bud first wb pa pcap pl tr w s :=
  ⟨h.box, h.prog, h.old, h.le, h.pls, h.trs, h.ne, fun x y hk => by
    unfold withK at hk
    split at hk
    · next e => subst e; cases hk; exact ⟨hb, h1, h2, h3⟩
    · exact h.kept x y hk⟩
theorem WrIn.drop {K : Nat → Option Obj} {w0 : World} {p : List FnD} {bud first : Int} {wb : Nat} {pa : Option Addr} {pcap : Nat} {pl tr : Value} {w : World} {s : LyD} {b : Nat} {o : Obj} (h : WrIn (withK K b o) w0 p bud first wb pa pcap pl tr w s) (hK : K b = none) : WrIn K w0 p bud first wb pa pcap pl tr w s ∧ w.heap[b]? = some o :=
  ⟨⟨h.box, h.prog, h.old, h.le, h.pls, h.trs, h.ne, fun x y hk => h.kept x y (by unfold withK; rw [if_neg (fun e => by subst e; rw [hK] at hk; cases hk)]; exact hk)⟩, (h.kept b o (by unfold withK; rw [if_pos rfl])).1⟩
end Go.Proofs.YtffnfjkjlmlonaaGreatDoor
namespace Go.Proofs.YtffnfjkjlmlonaaGreatDoor
open Go.RowKit
theorem rdFrame_of_owns {w : World} {B n : Nat} {v : Value} {l : List FrameD} (h : w.ownsRow B 107 3 v n (l.map frCells).flatten) (hl : l.length = n) : ∃ a cap, v = .slice a n cap ∧ RdL 3 RdFrame w a n cap l :=
  RdL_of_owns h (fun c hc => by obtain ⟨x, _, rfl⟩ := List.mem_map.1 hc; rfl) (by simp [hl]) hl (fun i x cs hx hcs => by
    rw [List.getElem?_map, hx] at hcs
    simp at hcs
    exact hcs.symm)
end Go.Proofs.YtffnfjkjlmlonaaGreatDoor
