/- The code of functions, with Calls inlined, as plain data (laid as the developers lay it); nothing is claimed of the program here. How many places a code has: the developers' way of counting and the reference's come to the same; nothing is claimed of the program here. The instances and the nodes of a code that was laid fit together; nothing is claimed of the program here. -/
import Derived.Test.YtebjndcokkefhaaDoorZ15
namespace Go.Proofs.YtebjndcokkefhaaDoor
open Go.RowKit

structure PlD where
  fn : Int
  op : Int
  inst : Int
structure LyD where
  room : Int
  places : List PlD
  tree : List (Int × Int)
structure CodeD where
  first : Int
  places : List PlD
  tree : List (Int × Int)

/-- Is an op a Call that is inlined, within these functions? -/
def inlB (p : List FnD) (bud : Int) (ar : List Int) (o : OpD) : Bool := o.code == 5 && (!(ar.contains o.b) && decide (((fnAt p o.b).body.length : Int) ≤ bud))

def layB (rec : Int → List Int → LyD → LyD) (p : List FnD) (bud fn : Int) (ar : List Int) (k : Int) : List OpD → Nat → LyD → LyD
  | [], _, s => s
  | o :: r, i, s =>
    if s.room - 1 < 0 then ⟨s.room - 1, s.places, s.tree⟩ else
    if inlB p bud ar o = true then layB rec p bud fn ar k r (i + 1) (rec o.b ar ⟨s.room - 1, s.places ++ [⟨fn, i, k⟩], s.tree ++ [(o.b, (s.places.length : Int))]⟩)
    else layB rec p bud fn ar k r (i + 1) ⟨s.room - 1, s.places ++ [⟨fn, i, k⟩], s.tree⟩
/-- An instance of a function, laid behind what is laid. -/
def layI (p : List FnD) (bud : Int) : Nat → Int → List Int → LyD → LyD
  | 0, _, _, s => s
  | f + 1, fn, ar, s => layB (layI p bud f) p bud fn (fn :: ar) s.tree.length (fnAt p fn).body 0 s

def layAll (p : List FnD) (bud : Int) : Nat → Nat → Int → List CodeD → Option (List CodeD)
  | 0, _, _, l => some l
  | n + 1, fn, room, l => if (layI p bud 12 fn [] ⟨room, [], []⟩).room < 0 then none else layAll p bud n (fn + 1) (layI p bud 12 fn [] ⟨room, [], []⟩).room (l ++ [⟨1000 - room, (layI p bud 12 fn [] ⟨room, [], []⟩).places, (layI p bud 12 fn [] ⟨room, [], []⟩).tree⟩])
def codesD (p : List FnD) (bud : Int) : Option (List CodeD) := layAll p bud p.length 0 1000 []
/-- What is wrong with a program and a budget. -/
def layE (p : List FnD) (bud : Int) : Int := if (chk p).1 ≠ 0 then (chk p).1 else if 0 ≤ bud ∧ bud ≤ 30 then (if (codesD p bud).isSome = true then 0 else 11) else 1

/-- How many functions are not among these. -/
def freeN (ar : List Int) : Nat → Nat
  | 0 => 0
  | n + 1 => freeN ar n + if (n : Int) ∈ ar then 0 else 1
theorem freeN_ge {ar : List Int} {x : Int} : ∀ n : Nat, (n : Int) ≤ x → freeN (x :: ar) n = freeN ar n
  | 0, _ => rfl
  | n + 1, h => by
    have ih := freeN_ge (ar := ar) (x := x) n (by omega)
    have hne : (n : Int) ≠ x := by omega
    simp only [freeN, ih, List.mem_cons, hne, false_or]
theorem freeN_cons {ar : List Int} {x : Int} (hx : x ∉ ar) (h0 : 0 ≤ x) : ∀ n : Nat, x < n → freeN (x :: ar) n + 1 = freeN ar n
  | 0, h => by omega
  | n + 1, h => by
    by_cases he : (n : Int) = x
    · have ih := freeN_ge (ar := ar) (x := x) n (by omega)
      have hm : (n : Int) ∈ x :: ar := by rw [he]; simp
      have hm' : ¬ (n : Int) ∈ ar := by rw [he]; exact hx
      simp only [freeN, ih, if_pos hm, if_neg hm']
    · have ih := freeN_cons hx h0 n (by omega)
      simp only [freeN, List.mem_cons, he, false_or]
      omega
theorem freeN_le (ar : List Int) : ∀ n, freeN ar n ≤ n
  | 0 => Nat.le_refl _
  | n + 1 => by have := freeN_le ar n; simp only [freeN]; split <;> omega

theorem layI_zero {p : List FnD} {bud : Int} {f : Nat} {fn : Int} {ar : List Int} {s : LyD} : layI p bud (f + 1) fn ar s = layB (layI p bud f) p bud fn (fn :: ar) s.tree.length (fnAt p fn).body 0 s := rfl
end Go.Proofs.YtebjndcokkefhaaDoor
namespace Go.Proofs.YtebjndcokkefhaaDoor
open Go.RowKit

/-- So many places, however many they are. -/
def sizB (rec : Int → List Int → Nat) (p : List FnD) (bud : Int) (ar : List Int) : List OpD → Nat
  | [] => 0
  | o :: r => 1 + (if inlB p bud ar o = true then rec o.b ar else 0) + sizB rec p bud ar r
def sizI (p : List FnD) (bud : Int) : Nat → Int → List Int → Nat
  | 0, _, _ => 0
  | f + 1, fn, ar => sizB (sizI p bud f) p bud (fn :: ar) (fnAt p fn).body

/-- The reference's count: how many there are, and whether there are too many. -/
def rlB (rec : Int → List Int → Nat × Bool → Nat × Bool) (p : List FnD) (bud : Int) (ar : List Int) : List OpD → Nat × Bool → Nat × Bool
  | [], s => s
  | o :: r, s => if s.1 = 1000 ∨ s.2 = true then (s.1, true) else if inlB p bud ar o = true then rlB rec p bud ar r (rec o.b ar (s.1 + 1, false)) else rlB rec p bud ar r (s.1 + 1, false)
def rlI (p : List FnD) (bud : Int) : Nat → Int → List Int → Nat × Bool → Nat × Bool
  | 0, _, _, s => s
  | f + 1, fn, ar, s => rlB (rlI p bud f) p bud (fn :: ar) (fnAt p fn).body s
def rlAll (p : List FnD) (bud : Int) : Nat → Nat → Nat → Bool
  | 0, _, _ => true
  | n + 1, fn, all => if (rlI p bud 12 fn [] (0, false)).2 = true ∨ 1000 < all + (rlI p bud 12 fn [] (0, false)).1 then false else rlAll p bud n (fn + 1) (all + (rlI p bud 12 fn [] (0, false)).1)

theorem layB_neg {rec : Int → List Int → LyD → LyD} {p : List FnD} {bud fn : Int} {ar : List Int} {k : Int} : ∀ (l : List OpD) (i : Nat) (s : LyD), s.room < 0 → (layB rec p bud fn ar k l i s).room < 0
  | [], _, _, h => h
  | o :: r, i, s, h => by
    unfold layB
    rw [if_pos (by omega)]
    show s.room - 1 < 0
    omega

def RoomOk (rec : Int → List Int → LyD → LyD) (siz : Int → List Int → Nat) : Prop := ∀ fn ar s, 0 ≤ s.room → ((siz fn ar : Int) ≤ s.room → (rec fn ar s).room = s.room - siz fn ar ∧ (rec fn ar s).places.length = s.places.length + siz fn ar) ∧ (s.room < siz fn ar → (rec fn ar s).room < 0)

theorem layB_room {rec : Int → List Int → LyD → LyD} {siz : Int → List Int → Nat} (hr : RoomOk rec siz) {p : List FnD} {bud fn : Int} {ar : List Int} {k : Int} : ∀ (l : List OpD) (i : Nat) (s : LyD), 0 ≤ s.room →
    ((sizB siz p bud ar l : Int) ≤ s.room → (layB rec p bud fn ar k l i s).room = s.room - sizB siz p bud ar l ∧ (layB rec p bud fn ar k l i s).places.length = s.places.length + sizB siz p bud ar l) ∧ (s.room < sizB siz p bud ar l → (layB rec p bud fn ar k l i s).room < 0)
  | [], _, s, h => by
    refine ⟨fun _ => ⟨?_, ?_⟩, fun h2 => ?_⟩
    · show s.room = s.room - ((0 : Nat) : Int); omega
    · show s.places.length = s.places.length + 0; omega
    · have : s.room < ((0 : Nat) : Int) := h2
      omega
  | o :: r, i, s, h => by
    unfold layB sizB
    by_cases h0 : s.room - 1 < 0
    · rw [if_pos h0]
      refine ⟨fun h2 => ?_, fun _ => h0⟩
      split at h2 <;> omega
    · rw [if_neg h0]
      by_cases hi : inlB p bud ar o = true
      · rw [if_pos hi, if_pos hi]
        obtain ⟨h1, h2⟩ := hr o.b ar ⟨s.room - 1, s.places ++ [⟨fn, i, k⟩], s.tree ++ [(o.b, (s.places.length : Int))]⟩ (by show 0 ≤ s.room - 1; omega)
        generalize rec o.b ar ⟨s.room - 1, s.places ++ [⟨fn, i, k⟩], s.tree ++ [(o.b, (s.places.length : Int))]⟩ = t at *
        dsimp only at h1 h2
        simp only [List.length_append, List.length_cons, List.length_nil] at h1
        by_cases hle : (siz o.b ar : Int) ≤ s.room - 1
        · obtain ⟨e1, e2⟩ := h1 hle
          obtain ⟨g1, g2⟩ := layB_room hr (p := p) (bud := bud) (fn := fn) (ar := ar) (k := k) r (i + 1) t (by omega)
          refine ⟨fun h3 => ?_, fun h3 => g2 (by omega)⟩
          obtain ⟨a1, a2⟩ := g1 (by omega)
          rw [a1, a2]
          constructor <;> omega
        · refine ⟨fun h3 => by omega, fun _ => layB_neg r (i + 1) t (h2 (by omega))⟩
      · rw [if_neg hi, if_neg hi]
        obtain ⟨g1, g2⟩ := layB_room hr (p := p) (bud := bud) (fn := fn) (ar := ar) (k := k) r (i + 1) ⟨s.room - 1, s.places ++ [⟨fn, i, k⟩], s.tree⟩ (by show 0 ≤ s.room - 1; omega)
        dsimp only at g1 g2
        simp only [List.length_append, List.length_cons, List.length_nil] at g1
        refine ⟨fun h3 => ?_, fun h3 => g2 (by omega)⟩
        obtain ⟨a1, a2⟩ := g1 (by omega)
        rw [a1, a2]
        constructor <;> omega

theorem layI_room (p : List FnD) (bud : Int) : ∀ f, RoomOk (layI p bud f) (sizI p bud f)
  | 0 => fun fn ar s h => ⟨fun _ => ⟨by show s.room = s.room - ((0 : Nat) : Int); omega, by show s.places.length = s.places.length + 0; omega⟩, fun h2 => by have : s.room < ((0 : Nat) : Int) := h2; omega⟩
  | f + 1 => fun fn ar s h => layB_room (layI_room p bud f) _ _ _ h

def CntOk (rec : Int → List Int → Nat × Bool → Nat × Bool) (siz : Int → List Int → Nat) : Prop := ∀ fn ar n, n ≤ 1000 → (n + siz fn ar ≤ 1000 → rec fn ar (n, false) = (n + siz fn ar, false)) ∧ (1000 < n + siz fn ar → (rec fn ar (n, false)).2 = true ∧ (rec fn ar (n, false)).1 ≤ 1000)

theorem rlB_true {rec : Int → List Int → Nat × Bool → Nat × Bool} {p : List FnD} {bud : Int} {ar : List Int} : ∀ (l : List OpD) (s : Nat × Bool), s.2 = true → s.1 ≤ 1000 → (rlB rec p bud ar l s).2 = true ∧ (rlB rec p bud ar l s).1 ≤ 1000
  | [], _, h, h1 => ⟨h, h1⟩
  | o :: r, s, h, h1 => by
    unfold rlB
    rw [if_pos (.inr h)]
    exact ⟨rfl, h1⟩

theorem rlB_cnt {rec : Int → List Int → Nat × Bool → Nat × Bool} {siz : Int → List Int → Nat} (hr : CntOk rec siz) {p : List FnD} {bud : Int} {ar : List Int} : ∀ (l : List OpD) (n : Nat), n ≤ 1000 →
    (n + sizB siz p bud ar l ≤ 1000 → rlB rec p bud ar l (n, false) = (n + sizB siz p bud ar l, false)) ∧ (1000 < n + sizB siz p bud ar l → (rlB rec p bud ar l (n, false)).2 = true ∧ (rlB rec p bud ar l (n, false)).1 ≤ 1000)
  | [], n, h => ⟨fun _ => rfl, fun h2 => by have : 1000 < n + 0 := h2; omega⟩
  | o :: r, n, h => by
    have es : sizB siz p bud ar (o :: r) = 1 + (if inlB p bud ar o = true then siz o.b ar else 0) + sizB siz p bud ar r := rfl
    rw [es]
    by_cases h0 : n = 1000
    · have e : rlB rec p bud ar (o :: r) (n, false) = (n, true) := by unfold rlB; exact if_pos (Or.inl h0)
      rw [e]
      exact ⟨fun h2 => by omega, fun _ => ⟨rfl, h⟩⟩
    · by_cases hi : inlB p bud ar o = true
      · have e : rlB rec p bud ar (o :: r) (n, false) = rlB rec p bud ar r (rec o.b ar (n + 1, false)) := by
          conv => lhs; unfold rlB
          rw [if_neg (by rintro (h1 | h1); exact h0 h1; cases h1), if_pos hi]
        rw [e, if_pos hi]
        obtain ⟨h1, h2⟩ := hr o.b ar (n + 1) (by omega)
        by_cases hle : n + 1 + siz o.b ar ≤ 1000
        · rw [h1 hle]
          obtain ⟨g1, g2⟩ := rlB_cnt hr (p := p) (bud := bud) (ar := ar) r (n + 1 + siz o.b ar) hle
          refine ⟨fun h3 => ?_, fun h3 => g2 (by omega)⟩
          rw [g1 (by omega)]
          congr 1
          omega
        · refine ⟨fun h3 => by omega, fun _ => rlB_true r _ (h2 (by omega)).1 (h2 (by omega)).2⟩
      · have e : rlB rec p bud ar (o :: r) (n, false) = rlB rec p bud ar r (n + 1, false) := by
          conv => lhs; unfold rlB
          rw [if_neg (by rintro (h1 | h1); exact h0 h1; cases h1), if_neg hi]
        rw [e, if_neg hi]
        obtain ⟨g1, g2⟩ := rlB_cnt hr (p := p) (bud := bud) (ar := ar) r (n + 1) (by omega)
        refine ⟨fun h3 => ?_, fun h3 => g2 (by omega)⟩
        rw [g1 (by omega)]
        congr 1
        omega

theorem rlI_cnt (p : List FnD) (bud : Int) : ∀ f, CntOk (rlI p bud f) (sizI p bud f)
  | 0 => fun fn ar n h => ⟨fun _ => rfl, fun h2 => by have : 1000 < n + 0 := h2; omega⟩
  | f + 1 => fun fn ar n h => rlB_cnt (rlI_cnt p bud f) _ _ h

theorem layAll_fits (p : List FnD) (bud : Int) : ∀ (n fn : Nat) (room : Int) (l : List CodeD), 0 ≤ room → room ≤ 1000 → (layAll p bud n fn room l).isSome = rlAll p bud n fn (1000 - room).toNat
  | 0, _, _, _, _, _ => rfl
  | n + 1, fn, room, l, h0, h1 => by
    unfold layAll rlAll
    obtain ⟨a1, a2⟩ := layI_room p bud 12 fn [] ⟨room, [], []⟩ h0
    obtain ⟨b1, b2⟩ := rlI_cnt p bud 12 fn [] 0 (by omega)
    dsimp only at a1 a2
    by_cases hle : (sizI p bud 12 fn [] : Int) ≤ room
    · obtain ⟨e1, -⟩ := a1 hle
      rw [e1, b1 (by omega), if_neg (by omega), if_neg (by simp; omega)]
      rw [layAll_fits p bud n (fn + 1) _ _ (by omega) (by omega)]
      congr 1
      simp
      omega
    · rw [if_pos (a2 (by omega))]
      by_cases hb : 1000 < 0 + sizI p bud 12 fn []
      · rw [if_pos (.inl (b2 hb).1)]; rfl
      · rw [b1 (by omega), if_pos (.inr (by simp; omega))]; rfl

theorem codesD_fits (p : List FnD) (bud : Int) : (codesD p bud).isSome = rlAll p bud p.length 0 0 := layAll_fits p bud p.length 0 1000 [] (by decide) (by decide)
end Go.Proofs.YtebjndcokkefhaaDoor
namespace Go.Proofs.YtebjndcokkefhaaDoor
open Go.RowKit

def opAt (p : List FnD) (a : PlD) : OpD := ((fnAt p a.fn).body[a.op.toNat]?).getD noOp
def PlOk (p : List FnD) (a : PlD) : Prop := (0 ≤ a.fn ∧ a.fn < p.length) ∧ 0 ≤ a.op ∧ a.op < (fnAt p a.fn).body.length
/-- The function of an instance, in the code of function r. -/
def fnK (r : Int) (t : List (Int × Int)) (k : Nat) : Option Int := if k = 0 then some r else (t[k - 1]?).map (·.1)
/-- The nodes and the instances of a code fit together. -/
structure GoodLy (p : List FnD) (r : Int) (s : LyD) : Prop where
  node : ∀ (i : Nat) (nd : Int × Int), s.tree[i]? = some nd → (0 ≤ nd.1 ∧ nd.1 < p.length) ∧ ∃ (pc : Nat) (a b : PlD), nd.2 = (pc : Int) ∧ s.places[pc]? = some a ∧ s.places[pc + 1]? = some b ∧ a.inst < (i : Int) + 1 ∧ b.inst = (i : Int) + 1 ∧ (opAt p a).code = 5 ∧ (opAt p a).b = nd.1
  inc : ∀ (i j : Nat) (x y : Int × Int), i < j → s.tree[i]? = some x → s.tree[j]? = some y → x.2 < y.2
  inst : ∀ a ∈ s.places, ∃ k : Nat, a.inst = (k : Int) ∧ k ≤ s.tree.length ∧ fnK r s.tree k = some a.fn
  pl : ∀ a ∈ s.places, PlOk p a
/-- The last node's instance has not begun yet. -/
structure PendLy (p : List FnD) (r : Int) (s : LyD) (t0 : List (Int × Int)) (nd : Int × Int) (c : PlD) : Prop where
  tree : s.tree = t0 ++ [nd]
  good : GoodLy p r ⟨s.room, s.places, t0⟩
  func : 0 ≤ nd.1 ∧ nd.1 < p.length
  last : s.places.getLast? = some c
  at_ : nd.2 + 1 = (s.places.length : Int)
  call : (opAt p c).code = 5 ∧ (opAt p c).b = nd.1
def Ext (s t : LyD) : Prop := (∃ X, t.places = s.places ++ X) ∧ ∃ Y, t.tree = s.tree ++ Y
theorem Ext.refl (s : LyD) : Ext s s := ⟨⟨[], by simp⟩, ⟨[], by simp⟩⟩
theorem Ext.trans {s t u : LyD} (h : Ext s t) (h' : Ext t u) : Ext s u := by
  obtain ⟨⟨X, hx⟩, Y, hy⟩ := h
  obtain ⟨⟨X', hx'⟩, Y', hy'⟩ := h'
  exact ⟨⟨X ++ X', by rw [hx', hx, List.append_assoc]⟩, ⟨Y ++ Y', by rw [hy', hy, List.append_assoc]⟩⟩
theorem Ext.len {s t : LyD} (h : Ext s t) : s.tree.length ≤ t.tree.length := by
  obtain ⟨_, Y, hy⟩ := h
  rw [hy, List.length_append]; omega
theorem Ext.mem {s t : LyD} (h : Ext s t) {a : PlD} (ha : a ∈ s.places) : a ∈ t.places := by
  obtain ⟨⟨X, hx⟩, _⟩ := h
  rw [hx]; exact List.mem_append_left _ ha
theorem fnK_ext {r : Int} {t : List (Int × Int)} {k : Nat} (h : k ≤ t.length) (Y : List (Int × Int)) : fnK r (t ++ Y) k = fnK r t k := by
  unfold fnK
  split
  · rfl
  · rw [List.getElem?_append_left (by omega)]
/-- All ops of the instance m are laid. -/
def Full (p : List FnD) (r : Int) (s : LyD) (m : Nat) : Prop := ∀ g, fnK r s.tree m = some g → ∀ j : Nat, j < (fnAt p g).body.length → ∃ a ∈ s.places, a.inst = (m : Int) ∧ a.op = (j : Int)
theorem Full.ext {p : List FnD} {r : Int} {s t : LyD} {m : Nat} (h : Full p r s m) (he : Ext s t) (hm : m ≤ s.tree.length) : Full p r t m := fun g hg j hj => by
  have h2 := he
  obtain ⟨_, Y, hy⟩ := h2
  rw [hy, fnK_ext hm] at hg
  obtain ⟨a, ha, h1⟩ := h g hg j hj
  exact ⟨a, he.mem ha, h1⟩

theorem getElem?_snoc {α : Type} {l : List α} {x : α} {i : Nat} {y : α} (h : (l ++ [x])[i]? = some y) : l[i]? = some y ∨ (i = l.length ∧ y = x) := by
  by_cases hi : i < l.length
  · rw [List.getElem?_append_left hi] at h; exact .inl h
  · rw [List.getElem?_append_right (by omega)] at h
    have hlt : i - l.length < [x].length := (List.getElem?_eq_some_iff.1 h).1
    simp at hlt
    have : i - l.length = 0 := by omega
    rw [this] at h
    simp at h
    exact .inr ⟨by omega, h.symm⟩
theorem getElem?_old {α : Type} {l : List α} {i : Nat} {y : α} (h : l[i]? = some y) (r : List α) : (l ++ r)[i]? = some y := by
  rw [List.getElem?_append_left (List.getElem?_eq_some_iff.1 h).1]; exact h

theorem GoodLy.add {p : List FnD} {r : Int} {s : LyD} (h : GoodLy p r s) {c : PlD} (h0 : ∃ k : Nat, c.inst = (k : Int) ∧ k ≤ s.tree.length ∧ fnK r s.tree k = some c.fn) (hc : PlOk p c) (m : Int) : GoodLy p r ⟨m, s.places ++ [c], s.tree⟩ where
  node := fun i nd hn => by
    obtain ⟨h1, pc, a, b, e1, e2, e3, e4⟩ := h.node i nd hn
    exact ⟨h1, pc, a, b, e1, getElem?_old e2 _, getElem?_old e3 _, e4⟩
  inc := h.inc
  inst := fun a ha => by
    rcases List.mem_append.1 ha with g | g
    · exact h.inst a g
    · rw [List.mem_singleton.1 g]; exact h0
  pl := fun a ha => by
    rcases List.mem_append.1 ha with g | g
    · exact h.pl a g
    · rw [List.mem_singleton.1 g]; exact hc

theorem GoodLy.pend {p : List FnD} {r : Int} {s : LyD} (h : GoodLy p r s) {c : PlD} (hl : s.places.getLast? = some c) {nd : Int × Int} (h1 : 0 ≤ nd.1 ∧ nd.1 < p.length) (h2 : nd.2 + 1 = (s.places.length : Int)) (h3 : (opAt p c).code = 5 ∧ (opAt p c).b = nd.1) (m : Int) : PendLy p r ⟨m, s.places, s.tree ++ [nd]⟩ s.tree nd c :=
  ⟨rfl, ⟨h.node, h.inc, h.inst, h.pl⟩, h1, hl, h2, h3⟩

theorem PendLy.fill {p : List FnD} {r : Int} {s : LyD} {t0 : List (Int × Int)} {nd : Int × Int} {c d : PlD} (h : PendLy p r s t0 nd c) (hd : d.inst = (s.tree.length : Int)) (hf : d.fn = nd.1) (hp : PlOk p d) (m : Int) : GoodLy p r ⟨m, s.places ++ [d], s.tree⟩ := by
  have hlen : s.tree.length = t0.length + 1 := by rw [h.tree]; simp
  have hpl : s.places.length ≠ 0 := fun e => by
    have := h.last
    rw [List.length_eq_zero_iff.1 e] at this
    simp at this
  have hlast : s.places[s.places.length - 1]? = some c := by rw [← List.getLast?_eq_getElem?]; exact h.last
  obtain ⟨kc, hc1, hc2, -⟩ := h.good.inst c (List.mem_of_getLast? h.last)
  refine ⟨fun i x hx => ?_, fun i j x y hij hx hy => ?_, fun a ha => ?_, fun a ha => ?_⟩
  · dsimp only at hx ⊢
    rw [h.tree] at hx
    rcases getElem?_snoc hx with g | ⟨g1, g2⟩
    · obtain ⟨h1, pc, a, b, e1, e2, e3, e4⟩ := h.good.node i x g
      exact ⟨h1, pc, a, b, e1, getElem?_old e2 _, getElem?_old e3 _, e4⟩
    · subst g2
      refine ⟨h.func, s.places.length - 1, c, d, ?_, getElem?_old hlast _, ?_, ?_, ?_, h.call⟩
      · have := h.at_; omega
      · rw [List.getElem?_append_right (by omega)]
        have : s.places.length - 1 + 1 - s.places.length = 0 := by omega
        rw [this]; rfl
      · dsimp only at hc2; omega
      · rw [hd]; omega
  · dsimp only at hx hy
    rw [h.tree] at hx hy
    rcases getElem?_snoc hy with g | ⟨g1, g2⟩
    · rcases getElem?_snoc hx with k | ⟨k1, k2⟩
      · exact h.good.inc i j x y hij k g
      · have := (List.getElem?_eq_some_iff.1 g).1
        omega
    · subst g2
      rcases getElem?_snoc hx with k | ⟨k1, k2⟩
      · obtain ⟨_, pc, a, b, e1, e2, e3, e4⟩ := h.good.node i x k
        have hb := (List.getElem?_eq_some_iff.1 e3).1
        have := h.at_
        dsimp only at hb
        omega
      · omega
  · dsimp only at ha ⊢
    rcases List.mem_append.1 ha with g | g
    · obtain ⟨k, k1, k2, k3⟩ := h.good.inst a g
      dsimp only at k2 k3
      exact ⟨k, k1, by omega, by rw [h.tree, fnK_ext k2]; exact k3⟩
    · rw [List.mem_singleton.1 g]
      refine ⟨s.tree.length, hd, Nat.le_refl _, ?_⟩
      unfold fnK
      rw [if_neg (by omega), h.tree]
      simp [hf]
  · rcases List.mem_append.1 ha with g | g
    · exact h.good.pl a g
    · rw [List.mem_singleton.1 g]; exact hp

def Fresh (p : List FnD) (r : Int) (s : LyD) (b : Int) : Prop := (s.places = [] ∧ s.tree = [] ∧ b = r) ∨ ∃ t0 nd c, PendLy p r s t0 nd c ∧ nd.1 = b

theorem Fresh.fill {p : List FnD} {r : Int} {s : LyD} {b : Int} (h : Fresh p r s b) {d : PlD} (hd : d.inst = (s.tree.length : Int)) (hf : d.fn = b) (hp : PlOk p d) (m : Int) : GoodLy p r ⟨m, s.places ++ [d], s.tree⟩ := by
  rcases h with ⟨h1, h2, h3⟩ | ⟨t0, nd, c, h, hb⟩
  · rw [h1, h2]
    refine ⟨fun i nd h => by simp at h, fun i j x y _ h => by simp at h, fun a ha => ?_, fun a ha => ?_⟩
    · simp at ha; subst ha; exact ⟨0, by rw [hd, h2]; rfl, Nat.le_refl _, by unfold fnK; rw [if_pos rfl, hf, h3]⟩
    · simp at ha; subst ha; exact hp
  · exact h.fill hd (hf.trans hb.symm) hp m
theorem Fresh.fnK {p : List FnD} {r : Int} {s : LyD} {b : Int} (h : Fresh p r s b) : Proofs.YtebjndcokkefhaaDoor.fnK r s.tree s.tree.length = some b := by
  unfold Proofs.YtebjndcokkefhaaDoor.fnK
  rcases h with ⟨h1, h2, h3⟩ | ⟨t0, nd, c, h, hb⟩
  · rw [h2, if_pos (by rfl), h3]
  · rw [h.tree, if_neg (by simp)]
    simp [hb]

/-- What an instance keeps, of those that begin within it. -/
def RecOk (p : List FnD) (r : Int) (ar : List Int) (rec : Int → List Int → LyD → LyD) : Prop := ∀ (b : Int) (s : LyD), 0 ≤ b → b < p.length → b ∉ ar → Fresh p r s b → 0 ≤ (rec b ar s).room →
  GoodLy p r (rec b ar s) ∧ Ext s (rec b ar s) ∧ ∀ m, s.tree.length ≤ m → m ≤ (rec b ar s).tree.length → Full p r (rec b ar s) m

theorem inlB_true {p : List FnD} {bud : Int} {ar : List Int} {o : OpD} (h : inlB p bud ar o = true) : o.code = 5 ∧ o.b ∉ ar ∧ ((fnAt p o.b).body.length : Int) ≤ bud := by
  unfold inlB at h
  rw [Bool.and_eq_true, Bool.and_eq_true] at h
  obtain ⟨h1, h2, h3⟩ := h
  refine ⟨by simpa using h1, fun hm => ?_, of_decide_eq_true h3⟩
  rw [Bool.not_eq_true'] at h2
  have : ar.contains o.b = true := List.contains_iff_mem.2 hm
  rw [h2] at this
  cases this

theorem layB_good {p : List FnD} {r bud fn : Int} {ar : List Int} {k : Nat} {rec : Int → List Int → LyD → LyD} (hr : RecOk p r ar rec) (hf : 0 ≤ fn ∧ fn < p.length) : ∀ (l : List OpD) (i : Nat) (s : LyD), (fnAt p fn).body.drop i = l → (∀ o ∈ l, o.code = 5 → 0 ≤ o.b ∧ o.b < p.length) →
    GoodLy p r s → k ≤ s.tree.length → fnK r s.tree k = some fn → (∀ j : Nat, j < i → ∃ a ∈ s.places, a.inst = (k : Int) ∧ a.op = (j : Int)) → (∀ m, k < m → m ≤ s.tree.length → Full p r s m) → 0 ≤ (layB rec p bud fn ar k l i s).room →
    GoodLy p r (layB rec p bud fn ar k l i s) ∧ Ext s (layB rec p bud fn ar k l i s) ∧ ∀ m, k ≤ m → m ≤ (layB rec p bud fn ar k l i s).tree.length → Full p r (layB rec p bud fn ar k l i s) m
  | [], i, s, hi, _, hg, hk, hfn, hd, hfull, _ => by
    refine ⟨hg, Ext.refl _, fun m h1 h2 => ?_⟩
    rcases Nat.lt_or_eq_of_le h1 with h3 | h3
    · exact hfull m h3 h2
    · subst h3
      intro g hg2 j hj
      have hge : some g = some fn := hg2.symm.trans hfn
      obtain rfl := Option.some.inj hge
      have : (fnAt p g).body.length ≤ i := by
        have := congrArg List.length hi
        simp at this
        omega
      exact hd j (by omega)
  | o :: l, i, s, hi, ho, hg, hk, hfn, hd, hfull, hroom => by
    have hget : (fnAt p fn).body[i]? = some o := by
      have h2 : ((fnAt p fn).body.drop i)[0]? = some o := by rw [hi]; rfl
      simpa using h2
    have hil := (List.getElem?_eq_some_iff.1 hget).1
    have hi2 : (fnAt p fn).body.drop (i + 1) = l := by
      have h2 : ((fnAt p fn).body.drop i).drop 1 = l := by rw [hi]; rfl
      rw [List.drop_drop] at h2
      exact h2
    have hop : opAt p ⟨fn, i, k⟩ = o := by unfold opAt; simp [hget]
    unfold layB at hroom ⊢
    by_cases h1 : s.room - 1 < 0
    · rw [if_pos h1] at hroom
      dsimp only at hroom
      omega
    · rw [if_neg h1] at hroom ⊢
      have hpl : PlOk p ⟨fn, i, k⟩ := ⟨hf, by dsimp only; omega, by dsimp only; omega⟩
      have hadd := hg.add (c := ⟨fn, i, k⟩) ⟨k, rfl, hk, hfn⟩ hpl (s.room - 1)
      by_cases h2 : inlB p bud ar o = true
      · rw [if_pos h2] at hroom ⊢
        obtain ⟨c1, c2, c3⟩ := inlB_true h2
        have hb := ho o (by simp) c1
        have hpend : PendLy p r ⟨s.room - 1, s.places ++ [⟨fn, i, k⟩], s.tree ++ [(o.b, (s.places.length : Int))]⟩ s.tree (o.b, (s.places.length : Int)) ⟨fn, i, k⟩ := hadd.pend (by simp) hb (by simp) (by rw [hop]; exact ⟨c1, rfl⟩) (s.room - 1)
        obtain ⟨t, ht⟩ : ∃ t, t = rec o.b ar ⟨s.room - 1, s.places ++ [⟨fn, i, k⟩], s.tree ++ [(o.b, (s.places.length : Int))]⟩ := ⟨_, rfl⟩
        have hrr : 0 ≤ (rec o.b ar ⟨s.room - 1, s.places ++ [⟨fn, i, k⟩], s.tree ++ [(o.b, (s.places.length : Int))]⟩).room := by
          refine Int.not_lt.1 fun hn => ?_
          have := layB_neg (rec := rec) (p := p) (bud := bud) (fn := fn) (ar := ar) (k := k) l (i + 1) _ hn
          omega
        obtain ⟨e1, e2, e3⟩ := hr o.b _ hb.1 hb.2 c2 (.inr ⟨_, _, _, hpend, rfl⟩) hrr
        rw [← ht] at e1 e2 e3 hroom ⊢
        have e4 := e2.len
        simp only [List.length_append, List.length_cons, List.length_nil] at e4
        have hst : Ext s t := Ext.trans ⟨⟨[⟨fn, i, k⟩], rfl⟩, ⟨[(o.b, (s.places.length : Int))], rfl⟩⟩ e2
        have hst2 := hst
        obtain ⟨_, Y, hY⟩ := hst2
        obtain ⟨f1, f2, f3⟩ := layB_good hr hf l (i + 1) t hi2 (fun o' ho' => ho o' (by simp [ho'])) e1 (by omega) (by rw [hY, fnK_ext hk]; exact hfn) (fun j hj => by
            by_cases hji : j = i
            · subst hji
              exact ⟨⟨fn, j, k⟩, e2.mem (by simp), rfl, rfl⟩
            · obtain ⟨a, a1, a2⟩ := hd j (by omega)
              exact ⟨a, hst.mem a1, a2⟩) (fun m m1 m2 => by
            by_cases hm : m ≤ s.tree.length
            · exact (hfull m m1 hm).ext hst hm
            · exact e3 m (by simp; omega) m2) hroom
        exact ⟨f1, hst.trans f2, f3⟩
      · rw [if_neg h2] at hroom ⊢
        have hst : Ext s ⟨s.room - 1, s.places ++ [⟨fn, i, k⟩], s.tree⟩ := ⟨⟨[⟨fn, i, k⟩], rfl⟩, ⟨[], by simp⟩⟩
        obtain ⟨f1, f2, f3⟩ := layB_good hr hf l (i + 1) ⟨s.room - 1, s.places ++ [⟨fn, i, k⟩], s.tree⟩ hi2 (fun o' ho' => ho o' (by simp [ho'])) hadd (by exact hk) hfn (fun j hj => by
            by_cases hji : j = i
            · subst hji
              exact ⟨⟨fn, j, k⟩, by simp, rfl, rfl⟩
            · obtain ⟨a, a1, a2⟩ := hd j (by omega)
              exact ⟨a, hst.mem a1, a2⟩) (fun m m1 m2 => (hfull m m1 m2).ext hst m2) hroom
        exact ⟨f1, hst.trans f2, f3⟩

/-- What of a program the laying needs: bodies that are not empty, Calls of its functions. -/
structure LayOk (p : List FnD) : Prop where
  body : ∀ fn : Int, 0 ≤ fn → fn < p.length → (fnAt p fn).body ≠ []
  call : ∀ fn : Int, 0 ≤ fn → fn < p.length → ∀ o ∈ (fnAt p fn).body, o.code = 5 → 0 ≤ o.b ∧ o.b < p.length

theorem layI_good {p : List FnD} {r bud : Int} (hp : LayOk p) : ∀ (f : Nat) (ar : List Int), freeN ar p.length ≤ f → RecOk p r ar (layI p bud f)
  | 0, ar, hf => fun b s hb1 hb2 hb3 _ _ => by
    have := freeN_cons hb3 hb1 p.length hb2
    omega
  | f + 1, ar, hf => fun b s hb1 hb2 hb3 hfr hroom => by
    have hfc := freeN_cons hb3 hb1 p.length hb2
    have ih := layI_good (r := r) (bud := bud) hp f (b :: ar) (by omega)
    have hfk := hfr.fnK
    rw [layI_zero] at hroom ⊢
    have hcall := hp.call b hb1 hb2
    obtain ⟨o, l, hbody⟩ : ∃ o l, (fnAt p b).body = o :: l := by
      cases h : (fnAt p b).body with
      | nil => exact absurd h (hp.body b hb1 hb2)
      | cons o l => exact ⟨o, l, rfl⟩
    rw [hbody] at hcall
    have hd0 : (fnAt p b).body.drop 1 = l := by rw [hbody]; rfl
    have hlen : (fnAt p b).body.length = l.length + 1 := by rw [hbody]; rfl
    have hop : opAt p ⟨b, ((0 : Nat) : Int), (s.tree.length : Int)⟩ = o := by unfold opAt; simp [hbody]
    rw [hbody] at hroom ⊢
    have hpl : PlOk p ⟨b, ((0 : Nat) : Int), (s.tree.length : Int)⟩ := ⟨⟨hb1, hb2⟩, by dsimp only; omega, by dsimp only; omega⟩
    have hfill := hfr.fill (d := ⟨b, ((0 : Nat) : Int), (s.tree.length : Int)⟩) rfl rfl hpl (s.room - 1)
    unfold layB at hroom ⊢
    by_cases h1 : s.room - 1 < 0
    · rw [if_pos h1] at hroom
      dsimp only at hroom
      omega
    · rw [if_neg h1] at hroom ⊢
      by_cases h2 : inlB p bud (b :: ar) o = true
      · rw [if_pos h2] at hroom ⊢
        obtain ⟨c1, c2, c3⟩ := inlB_true h2
        have hob := hcall o (by simp) c1
        have hpend : PendLy p r ⟨s.room - 1, s.places ++ [⟨b, ((0 : Nat) : Int), (s.tree.length : Int)⟩], s.tree ++ [(o.b, (s.places.length : Int))]⟩ s.tree (o.b, (s.places.length : Int)) ⟨b, ((0 : Nat) : Int), (s.tree.length : Int)⟩ := hfill.pend (by simp) hob (by simp) (by rw [hop]; exact ⟨c1, rfl⟩) (s.room - 1)
        have hrr : 0 ≤ (layI p bud f o.b (b :: ar) ⟨s.room - 1, s.places ++ [⟨b, ((0 : Nat) : Int), (s.tree.length : Int)⟩], s.tree ++ [(o.b, (s.places.length : Int))]⟩).room := by
          refine Int.not_lt.1 fun hn => ?_
          have := layB_neg (rec := layI p bud f) (p := p) (bud := bud) (fn := b) (ar := b :: ar) (k := (s.tree.length : Int)) l (0 + 1) _ hn
          omega
        obtain ⟨e1, e2, e3⟩ := ih o.b _ hob.1 hob.2 c2 (.inr ⟨_, _, _, hpend, rfl⟩) hrr
        obtain ⟨t, ht⟩ : ∃ t, t = layI p bud f o.b (b :: ar) ⟨s.room - 1, s.places ++ [⟨b, ((0 : Nat) : Int), (s.tree.length : Int)⟩], s.tree ++ [(o.b, (s.places.length : Int))]⟩ := ⟨_, rfl⟩
        rw [← ht] at e1 e2 e3 hroom ⊢
        have e4 := e2.len
        simp only [List.length_append, List.length_cons, List.length_nil] at e4
        have hst : Ext s t := Ext.trans ⟨⟨[⟨b, ((0 : Nat) : Int), (s.tree.length : Int)⟩], rfl⟩, ⟨[(o.b, (s.places.length : Int))], rfl⟩⟩ e2
        have hst2 := hst
        obtain ⟨_, Y, hY⟩ := hst2
        obtain ⟨f1, f2, f3⟩ := layB_good (k := s.tree.length) ih ⟨hb1, hb2⟩ l (0 + 1) t hd0 (fun o' ho' => hcall o' (by simp [ho'])) e1 (by omega) (by rw [hY, fnK_ext (Nat.le_refl _)]; exact hfk) (fun j hj => by
            have hj0 : j = 0 := by omega
            subst hj0
            exact ⟨⟨b, ((0 : Nat) : Int), (s.tree.length : Int)⟩, e2.mem (by simp), rfl, rfl⟩) (fun m m1 m2 => e3 m (by simp; omega) m2) hroom
        exact ⟨f1, hst.trans f2, f3⟩
      · rw [if_neg h2] at hroom ⊢
        have hst : Ext s ⟨s.room - 1, s.places ++ [⟨b, ((0 : Nat) : Int), (s.tree.length : Int)⟩], s.tree⟩ := ⟨⟨[⟨b, ((0 : Nat) : Int), (s.tree.length : Int)⟩], rfl⟩, ⟨[], by simp⟩⟩
        obtain ⟨f1, f2, f3⟩ := layB_good (k := s.tree.length) ih ⟨hb1, hb2⟩ l (0 + 1) ⟨s.room - 1, s.places ++ [⟨b, ((0 : Nat) : Int), (s.tree.length : Int)⟩], s.tree⟩ hd0 (fun o' ho' => hcall o' (by simp [ho'])) hfill (Nat.le_refl _) hfk (fun j hj => by
            have hj0 : j = 0 := by omega
            subst hj0
            exact ⟨⟨b, ((0 : Nat) : Int), (s.tree.length : Int)⟩, by simp, rfl, rfl⟩) (fun m m1 m2 => absurd m2 (by exact Nat.not_le.2 m1)) hroom
        exact ⟨f1, hst.trans f2, f3⟩
end Go.Proofs.YtebjndcokkefhaaDoor
