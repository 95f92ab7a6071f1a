/- The instances and the nodes of a code that was laid fit together; nothing is claimed of the program here. A program whose ops that are no Calls have lost their Args: it is as good, and its runs are the same; nothing is claimed of the program here. Contracts of the developers' word.mayStand, word.Is: the plain functions isLet and wordB; nothing that was there is written. -/
import Derived.Test.YtffnfjkjlmlonaaGreatDoorZ8
import Derived.Test.YtffnfjkjlmlonaaGreatDoorZ7
import Derived.Test.YtffnfjkjlmlonaaGreatDoorZ2
namespace Go.Proofs.YtffnfjkjlmlonaaGreatDoor
open Go.RowKit

def opAt (p : List FnD) (a : PlD) : OpD := ((fnAt p a.fn).body[a.op.toNat]?).getD noOp
def PlOk (p : List FnD) (a : PlD) : Prop := (0 ≤ a.fn ∧ a.fn < p.length) ∧ 0 ≤ a.op ∧ a.op < (fnAt p a.fn).body.length
/-- The function of an instance, in the code of function r. -/
def fnK (r : Int) (t : List (Int × Int)) (k : Nat) : Option Int := if k = 0 then some r else (t[k - 1]?).map (·.1)
/-- The nodes and the instances of a code fit together. -/
structure GoodLy (p : List FnD) (r : Int) (s : LyD) : Prop where
  node : ∀ (i : Nat) (nd : Int × Int), s.tree[i]? = some nd → (0 ≤ nd.1 ∧ nd.1 < p.length) ∧ ∃ (pc : Nat) (a b : PlD), nd.2 = (pc : Int) ∧ s.places[pc]? = some a ∧ s.places[pc + 1]? = some b ∧ a.inst < (i : Int) + 1 ∧ b.inst = (i : Int) + 1 ∧ (opAt p a).code = 5 ∧ (opAt p a).b = nd.1
  inc : ∀ (i j : Nat) (x y : Int × Int), i < j → s.tree[i]? = some x → s.tree[j]? = some y → x.2 < y.2
  inst : ∀ a ∈ s.places, ∃ k : Nat, a.inst = (k : Int) ∧ k ≤ s.tree.length ∧ fnK r s.tree k = some a.fn
  pl : ∀ a ∈ s.places, PlOk p a
/-- The last node's instance has not begun yet. -/
structure PendLy (p : List FnD) (r : Int) (s : LyD) (t0 : List (Int × Int)) (nd : Int × Int) (c : PlD) : Prop where
  tree : s.tree = t0 ++ [nd]
  good : GoodLy p r ⟨s.room, s.places, t0⟩
  func : 0 ≤ nd.1 ∧ nd.1 < p.length
  last : s.places.getLast? = some c
  at_ : nd.2 + 1 = (s.places.length : Int)
  call : (opAt p c).code = 5 ∧ (opAt p c).b = nd.1
def Ext (s t : LyD) : Prop := (∃ X, t.places = s.places ++ X) ∧ ∃ Y, t.tree = s.tree ++ Y
theorem Ext.refl (s : LyD) : Ext s s := ⟨⟨[], by simp⟩, ⟨[], by simp⟩⟩
theorem Ext.trans {s t u : LyD} (h : Ext s t) (h' : Ext t u) : Ext s u := by
  obtain ⟨⟨X, hx⟩, Y, hy⟩ := h
  obtain ⟨⟨X', hx'⟩, Y', hy'⟩ := h'
  exact ⟨⟨X ++ X', by rw [hx', hx, List.append_assoc]⟩, ⟨Y ++ Y', by rw [hy', hy, List.append_assoc]⟩⟩
theorem Ext.len {s t : LyD} (h : Ext s t) : s.tree.length ≤ t.tree.length := by
  obtain ⟨_, Y, hy⟩ := h
  rw [hy, List.length_append]; omega
theorem Ext.mem {s t : LyD} (h : Ext s t) {a : PlD} (ha : a ∈ s.places) : a ∈ t.places := by
  obtain ⟨⟨X, hx⟩, _⟩ := h
  rw [hx]; exact List.mem_append_left _ ha
theorem fnK_ext {r : Int} {t : List (Int × Int)} {k : Nat} (h : k ≤ t.length) (Y : List (Int × Int)) : fnK r (t ++ Y) k = fnK r t k := by
  unfold fnK
  split
  · rfl
  · rw [List.getElem?_append_left (by omega)]
/-- All ops of the instance m are laid. -/
def Full (p : List FnD) (r : Int) (s : LyD) (m : Nat) : Prop := ∀ g, fnK r s.tree m = some g → ∀ j : Nat, j < (fnAt p g).body.length → ∃ a ∈ s.places, a.inst = (m : Int) ∧ a.op = (j : Int)
theorem Full.ext {p : List FnD} {r : Int} {s t : LyD} {m : Nat} (h : Full p r s m) (he : Ext s t) (hm : m ≤ s.tree.length) : Full p r t m := fun g hg j hj => by
  have h2 := he
  obtain ⟨_, Y, hy⟩ := h2
  rw [hy, fnK_ext hm] at hg
  obtain ⟨a, ha, h1⟩ := h g hg j hj
  exact ⟨a, he.mem ha, h1⟩

theorem getElem?_snoc {α : Type} {l : List α} {x : α} {i : Nat} {y : α} (h : (l ++ [x])[i]? = some y) : l[i]? = some y ∨ (i = l.length ∧ y = x) := by
  by_cases hi : i < l.length
  · rw [List.getElem?_append_left hi] at h; exact .inl h
  · rw [List.getElem?_append_right (by omega)] at h
    have hlt : i - l.length < [x].length := (List.getElem?_eq_some_iff.1 h).1
    simp at hlt
    have : i - l.length = 0 := by omega
    rw [this] at h
    simp at h
    exact .inr ⟨by omega, h.symm⟩
theorem getElem?_old {α : Type} {l : List α} {i : Nat} {y : α} (h : l[i]? = some y) (r : List α) : (l ++ r)[i]? = some y := by
  rw [List.getElem?_append_left (List.getElem?_eq_some_iff.1 h).1]; exact h

theorem GoodLy.add {p : List FnD} {r : Int} {s : LyD} (h : GoodLy p r s) {c : PlD} (h0 : ∃ k : Nat, c.inst = (k : Int) ∧ k ≤ s.tree.length ∧ fnK r s.tree k = some c.fn) (hc : PlOk p c) (m : Int) : GoodLy p r ⟨m, s.places ++ [c], s.tree⟩ where
  node := fun i nd hn => by
    obtain ⟨h1, pc, a, b, e1, e2, e3, e4⟩ := h.node i nd hn
    exact ⟨h1, pc, a, b, e1, getElem?_old e2 _, getElem?_old e3 _, e4⟩
  inc := h.inc
  inst := fun a ha => by
    rcases List.mem_append.1 ha with g | g
    · exact h.inst a g
    · rw [List.mem_singleton.1 g]; exact h0
  pl := fun a ha => by
    rcases List.mem_append.1 ha with g | g
    · exact h.pl a g
    · rw [List.mem_singleton.1 g]; exact hc

theorem GoodLy.pend {p : List FnD} {r : Int} {s : LyD} (h : GoodLy p r s) {c : PlD} (hl : s.places.getLast? = some c) {nd : Int × Int} (h1 : 0 ≤ nd.1 ∧ nd.1 < p.length) (h2 : nd.2 + 1 = (s.places.length : Int)) (h3 : (opAt p c).code = 5 ∧ (opAt p c).b = nd.1) (m : Int) : PendLy p r ⟨m, s.places, s.tree ++ [nd]⟩ s.tree nd c :=
  ⟨rfl, ⟨h.node, h.inc, h.inst, h.pl⟩, h1, hl, h2, h3⟩

theorem PendLy.fill {p : List FnD} {r : Int} {s : LyD} {t0 : List (Int × Int)} {nd : Int × Int} {c d : PlD} (h : PendLy p r s t0 nd c) (hd : d.inst = (s.tree.length : Int)) (hf : d.fn = nd.1) (hp : PlOk p d) (m : Int) : GoodLy p r ⟨m, s.places ++ [d], s.tree⟩ := by
  have hlen : s.tree.length = t0.length + 1 := by rw [h.tree]; simp
  have hpl : s.places.length ≠ 0 := fun e => by
    have := h.last
    rw [List.length_eq_zero_iff.1 e] at this
    simp at this
  have hlast : s.places[s.places.length - 1]? = some c := by rw [← List.getLast?_eq_getElem?]; exact h.last
  obtain ⟨kc, hc1, hc2, -⟩ := h.good.inst c (List.mem_of_getLast? h.last)
  refine ⟨fun i x hx => ?_, fun i j x y hij hx hy => ?_, fun a ha => ?_, fun a ha => ?_⟩
  · dsimp only at hx ⊢
    rw [h.tree] at hx
    rcases getElem?_snoc hx with g | ⟨g1, g2⟩
    · obtain ⟨h1, pc, a, b, e1, e2, e3, e4⟩ := h.good.node i x g
      exact ⟨h1, pc, a, b, e1, getElem?_old e2 _, getElem?_old e3 _, e4⟩
    · subst g2
      refine ⟨h.func, s.places.length - 1, c, d, ?_, getElem?_old hlast _, ?_, ?_, ?_, h.call⟩
      · have := h.at_; omega
      · rw [List.getElem?_append_right (by omega)]
        have : s.places.length - 1 + 1 - s.places.length = 0 := by omega
        rw [this]; rfl
      · dsimp only at hc2; omega
      · rw [hd]; omega
  · dsimp only at hx hy
    rw [h.tree] at hx hy
    rcases getElem?_snoc hy with g | ⟨g1, g2⟩
    · rcases getElem?_snoc hx with k | ⟨k1, k2⟩
      · exact h.good.inc i j x y hij k g
      · have := (List.getElem?_eq_some_iff.1 g).1
        omega
    · subst g2
      rcases getElem?_snoc hx with k | ⟨k1, k2⟩
      · obtain ⟨_, pc, a, b, e1, e2, e3, e4⟩ := h.good.node i x k
        have hb := (List.getElem?_eq_some_iff.1 e3).1
        have := h.at_
        dsimp only at hb
        omega
      · omega
  · dsimp only at ha ⊢
    rcases List.mem_append.1 ha with g | g
    · obtain ⟨k, k1, k2, k3⟩ := h.good.inst a g
      dsimp only at k2 k3
      exact ⟨k, k1, by omega, by rw [h.tree, fnK_ext k2]; exact k3⟩
    · rw [List.mem_singleton.1 g]
      refine ⟨s.tree.length, hd, Nat.le_refl _, ?_⟩
      unfold fnK
      rw [if_neg (by omega), h.tree]
      simp [hf]
  · rcases List.mem_append.1 ha with g | g
    · exact h.good.pl a g
    · rw [List.mem_singleton.1 g]; exact hp

def Fresh (p : List FnD) (r : Int) (s : LyD) (b : Int) : Prop := (s.places = [] ∧ s.tree = [] ∧ b = r) ∨ ∃ t0 nd c, PendLy p r s t0 nd c ∧ nd.1 = b

theorem Fresh.fill {p : List FnD} {r : Int} {s : LyD} {b : Int} (h : Fresh p r s b) {d : PlD} (hd : d.inst = (s.tree.length : Int)) (hf : d.fn = b) (hp : PlOk p d) (m : Int) : GoodLy p r ⟨m, s.places ++ [d], s.tree⟩ := by
  rcases h with ⟨h1, h2, h3⟩ | ⟨t0, nd, c, h, hb⟩
  · rw [h1, h2]
    refine ⟨fun i nd h => by simp at h, fun i j x y _ h => by simp at h, fun a ha => ?_, fun a ha => ?_⟩
    · simp at ha; subst ha; exact ⟨0, by rw [hd, h2]; rfl, Nat.le_refl _, by unfold fnK; rw [if_pos rfl, hf, h3]⟩
    · simp at ha; subst ha; exact hp
  · exact h.fill hd (hf.trans hb.symm) hp m
theorem Fresh.fnK {p : List FnD} {r : Int} {s : LyD} {b : Int} (h : Fresh p r s b) : Proofs.YtffnfjkjlmlonaaGreatDoor.fnK r s.tree s.tree.length = some b := by
  unfold Proofs.YtffnfjkjlmlonaaGreatDoor.fnK
  rcases h with ⟨h1, h2, h3⟩ | ⟨t0, nd, c, h, hb⟩
  · rw [h2, if_pos (by rfl), h3]
  · rw [h.tree, if_neg (by simp)]
    simp [hb]

/-- What an instance keeps, of those that begin within it. -/
def RecOk (p : List FnD) (r : Int) (ar : List Int) (rec : Int → List Int → LyD → LyD) : Prop := ∀ (b : Int) (s : LyD), 0 ≤ b → b < p.length → b ∉ ar → Fresh p r s b → 0 ≤ (rec b ar s).room →
  GoodLy p r (rec b ar s) ∧ Ext s (rec b ar s) ∧ ∀ m, s.tree.length ≤ m → m ≤ (rec b ar s).tree.length → Full p r (rec b ar s) m

theorem inlB_true {p : List FnD} {bud : Int} {ar : List Int} {o : OpD} (h : inlB p bud ar o = true) : o.code = 5 ∧ o.b ∉ ar ∧ ((fnAt p o.b).body.length : Int) ≤ bud := by
  unfold inlB at h
  rw [Bool.and_eq_true, Bool.and_eq_true] at h
  obtain ⟨h1, h2, h3⟩ := h
  refine ⟨by simpa using h1, fun hm => ?_, of_decide_eq_true h3⟩
  rw [Bool.not_eq_true'] at h2
  have : ar.contains o.b = true := List.contains_iff_mem.2 hm
  rw [h2] at this
  cases this

theorem layB_good {p : List FnD} {r bud fn : Int} {ar : List Int} {k : Nat} {rec : Int → List Int → LyD → LyD} (hr : RecOk p r ar rec) (hf : 0 ≤ fn ∧ fn < p.length) : ∀ (l : List OpD) (i : Nat) (s : LyD), (fnAt p fn).body.drop i = l → (∀ o ∈ l, o.code = 5 → 0 ≤ o.b ∧ o.b < p.length) →
    GoodLy p r s → k ≤ s.tree.length → fnK r s.tree k = some fn → (∀ j : Nat, j < i → ∃ a ∈ s.places, a.inst = (k : Int) ∧ a.op = (j : Int)) → (∀ m, k < m → m ≤ s.tree.length → Full p r s m) → 0 ≤ (layB rec p bud fn ar k l i s).room →
    GoodLy p r (layB rec p bud fn ar k l i s) ∧ Ext s (layB rec p bud fn ar k l i s) ∧ ∀ m, k ≤ m → m ≤ (layB rec p bud fn ar k l i s).tree.length → Full p r (layB rec p bud fn ar k l i s) m
  | [], i, s, hi, _, hg, hk, hfn, hd, hfull, _ => by
    refine ⟨hg, Ext.refl _, fun m h1 h2 => ?_⟩
    rcases Nat.lt_or_eq_of_le h1 with h3 | h3
    · exact hfull m h3 h2
    · subst h3
      intro g hg2 j hj
      have hge : some g = some fn := hg2.symm.trans hfn
      obtain rfl := Option.some.inj hge
      have : (fnAt p g).body.length ≤ i := by
        have := congrArg List.length hi
        simp at this
        omega
      exact hd j (by omega)
  | o :: l, i, s, hi, ho, hg, hk, hfn, hd, hfull, hroom => by
    have hget : (fnAt p fn).body[i]? = some o := by
      have h2 : ((fnAt p fn).body.drop i)[0]? = some o := by rw [hi]; rfl
      simpa using h2
    have hil := (List.getElem?_eq_some_iff.1 hget).1
    have hi2 : (fnAt p fn).body.drop (i + 1) = l := by
      have h2 : ((fnAt p fn).body.drop i).drop 1 = l := by rw [hi]; rfl
      rw [List.drop_drop] at h2
      exact h2
    have hop : opAt p ⟨fn, i, k⟩ = o := by unfold opAt; simp [hget]
    unfold layB at hroom ⊢
    by_cases h1 : s.room - 1 < 0
    · rw [if_pos h1] at hroom
      dsimp only at hroom
      omega
    · rw [if_neg h1] at hroom ⊢
      have hpl : PlOk p ⟨fn, i, k⟩ := ⟨hf, by dsimp only; omega, by dsimp only; omega⟩
      have hadd := hg.add (c := ⟨fn, i, k⟩) ⟨k, rfl, hk, hfn⟩ hpl (s.room - 1)
      by_cases h2 : inlB p bud ar o = true
      · rw [if_pos h2] at hroom ⊢
        obtain ⟨c1, c2, c3⟩ := inlB_true h2
        have hb := ho o (by simp) c1
        have hpend : PendLy p r ⟨s.room - 1, s.places ++ [⟨fn, i, k⟩], s.tree ++ [(o.b, (s.places.length : Int))]⟩ s.tree (o.b, (s.places.length : Int)) ⟨fn, i, k⟩ := hadd.pend (by simp) hb (by simp) (by rw [hop]; exact ⟨c1, rfl⟩) (s.room - 1)
        obtain ⟨t, ht⟩ : ∃ t, t = rec o.b ar ⟨s.room - 1, s.places ++ [⟨fn, i, k⟩], s.tree ++ [(o.b, (s.places.length : Int))]⟩ := ⟨_, rfl⟩
        have hrr : 0 ≤ (rec o.b ar ⟨s.room - 1, s.places ++ [⟨fn, i, k⟩], s.tree ++ [(o.b, (s.places.length : Int))]⟩).room := by
          refine Int.not_lt.1 fun hn => ?_
          have := layB_neg (rec := rec) (p := p) (bud := bud) (fn := fn) (ar := ar) (k := k) l (i + 1) _ hn
          omega
        obtain ⟨e1, e2, e3⟩ := hr o.b _ hb.1 hb.2 c2 (.inr ⟨_, _, _, hpend, rfl⟩) hrr
        rw [← ht] at e1 e2 e3 hroom ⊢
        have e4 := e2.len
        simp only [List.length_append, List.length_cons, List.length_nil] at e4
        have hst : Ext s t := Ext.trans ⟨⟨[⟨fn, i, k⟩], rfl⟩, ⟨[(o.b, (s.places.length : Int))], rfl⟩⟩ e2
        have hst2 := hst
        obtain ⟨_, Y, hY⟩ := hst2
        obtain ⟨f1, f2, f3⟩ := layB_good hr hf l (i + 1) t hi2 (fun o' ho' => ho o' (by simp [ho'])) e1 (by omega) (by rw [hY, fnK_ext hk]; exact hfn) (fun j hj => by
            by_cases hji : j = i
            · subst hji
              exact ⟨⟨fn, j, k⟩, e2.mem (by simp), rfl, rfl⟩
            · obtain ⟨a, a1, a2⟩ := hd j (by omega)
              exact ⟨a, hst.mem a1, a2⟩) (fun m m1 m2 => by
            by_cases hm : m ≤ s.tree.length
            · exact (hfull m m1 hm).ext hst hm
            · exact e3 m (by simp; omega) m2) hroom
        exact ⟨f1, hst.trans f2, f3⟩
      · rw [if_neg h2] at hroom ⊢
        have hst : Ext s ⟨s.room - 1, s.places ++ [⟨fn, i, k⟩], s.tree⟩ := ⟨⟨[⟨fn, i, k⟩], rfl⟩, ⟨[], by simp⟩⟩
        obtain ⟨f1, f2, f3⟩ := layB_good hr hf l (i + 1) ⟨s.room - 1, s.places ++ [⟨fn, i, k⟩], s.tree⟩ hi2 (fun o' ho' => ho o' (by simp [ho'])) hadd (by exact hk) hfn (fun j hj => by
            by_cases hji : j = i
            · subst hji
              exact ⟨⟨fn, j, k⟩, by simp, rfl, rfl⟩
            · obtain ⟨a, a1, a2⟩ := hd j (by omega)
              exact ⟨a, hst.mem a1, a2⟩) (fun m m1 m2 => (hfull m m1 m2).ext hst m2) hroom
        exact ⟨f1, hst.trans f2, f3⟩

/-- What of a program the laying needs: bodies that are not empty, Calls of its functions. -/
structure LayOk (p : List FnD) : Prop where
  body : ∀ fn : Int, 0 ≤ fn → fn < p.length → (fnAt p fn).body ≠ []
  call : ∀ fn : Int, 0 ≤ fn → fn < p.length → ∀ o ∈ (fnAt p fn).body, o.code = 5 → 0 ≤ o.b ∧ o.b < p.length

theorem layI_good {p : List FnD} {r bud : Int} (hp : LayOk p) : ∀ (f : Nat) (ar : List Int), freeN ar p.length ≤ f → RecOk p r ar (layI p bud f)
  | 0, ar, hf => fun b s hb1 hb2 hb3 _ _ => by
    have := freeN_cons hb3 hb1 p.length hb2
    omega
  | f + 1, ar, hf => fun b s hb1 hb2 hb3 hfr hroom => by
    have hfc := freeN_cons hb3 hb1 p.length hb2
    have ih := layI_good (r := r) (bud := bud) hp f (b :: ar) (by omega)
    have hfk := hfr.fnK
    rw [layI_zero] at hroom ⊢
    have hcall := hp.call b hb1 hb2
    obtain ⟨o, l, hbody⟩ : ∃ o l, (fnAt p b).body = o :: l := by
      cases h : (fnAt p b).body with
      | nil => exact absurd h (hp.body b hb1 hb2)
      | cons o l => exact ⟨o, l, rfl⟩
    rw [hbody] at hcall
    have hd0 : (fnAt p b).body.drop 1 = l := by rw [hbody]; rfl
    have hlen : (fnAt p b).body.length = l.length + 1 := by rw [hbody]; rfl
    have hop : opAt p ⟨b, ((0 : Nat) : Int), (s.tree.length : Int)⟩ = o := by unfold opAt; simp [hbody]
    rw [hbody] at hroom ⊢
    have hpl : PlOk p ⟨b, ((0 : Nat) : Int), (s.tree.length : Int)⟩ := ⟨⟨hb1, hb2⟩, by dsimp only; omega, by dsimp only; omega⟩
    have hfill := hfr.fill (d := ⟨b, ((0 : Nat) : Int), (s.tree.length : Int)⟩) rfl rfl hpl (s.room - 1)
    unfold layB at hroom ⊢
    by_cases h1 : s.room - 1 < 0
    · rw [if_pos h1] at hroom
      dsimp only at hroom
      omega
    · rw [if_neg h1] at hroom ⊢
      by_cases h2 : inlB p bud (b :: ar) o = true
      · rw [if_pos h2] at hroom ⊢
        obtain ⟨c1, c2, c3⟩ := inlB_true h2
        have hob := hcall o (by simp) c1
        have hpend : PendLy p r ⟨s.room - 1, s.places ++ [⟨b, ((0 : Nat) : Int), (s.tree.length : Int)⟩], s.tree ++ [(o.b, (s.places.length : Int))]⟩ s.tree (o.b, (s.places.length : Int)) ⟨b, ((0 : Nat) : Int), (s.tree.length : Int)⟩ := hfill.pend (by simp) hob (by simp) (by rw [hop]; exact ⟨c1, rfl⟩) (s.room - 1)
        have hrr : 0 ≤ (layI p bud f o.b (b :: ar) ⟨s.room - 1, s.places ++ [⟨b, ((0 : Nat) : Int), (s.tree.length : Int)⟩], s.tree ++ [(o.b, (s.places.length : Int))]⟩).room := by
          refine Int.not_lt.1 fun hn => ?_
          have := layB_neg (rec := layI p bud f) (p := p) (bud := bud) (fn := b) (ar := b :: ar) (k := (s.tree.length : Int)) l (0 + 1) _ hn
          omega
        obtain ⟨e1, e2, e3⟩ := ih o.b _ hob.1 hob.2 c2 (.inr ⟨_, _, _, hpend, rfl⟩) hrr
        obtain ⟨t, ht⟩ : ∃ t, t = layI p bud f o.b (b :: ar) ⟨s.room - 1, s.places ++ [⟨b, ((0 : Nat) : Int), (s.tree.length : Int)⟩], s.tree ++ [(o.b, (s.places.length : Int))]⟩ := ⟨_, rfl⟩
        rw [← ht] at e1 e2 e3 hroom ⊢
        have e4 := e2.len
        simp only [List.length_append, List.length_cons, List.length_nil] at e4
        have hst : Ext s t := Ext.trans ⟨⟨[⟨b, ((0 : Nat) : Int), (s.tree.length : Int)⟩], rfl⟩, ⟨[(o.b, (s.places.length : Int))], rfl⟩⟩ e2
        have hst2 := hst
        obtain ⟨_, Y, hY⟩ := hst2
        obtain ⟨f1, f2, f3⟩ := layB_good (k := s.tree.length) ih ⟨hb1, hb2⟩ l (0 + 1) t hd0 (fun o' ho' => hcall o' (by simp [ho'])) e1 (by omega) (by rw [hY, fnK_ext (Nat.le_refl _)]; exact hfk) (fun j hj => by
            have hj0 : j = 0 := by omega
            subst hj0
            exact ⟨⟨b, ((0 : Nat) : Int), (s.tree.length : Int)⟩, e2.mem (by simp), rfl, rfl⟩) (fun m m1 m2 => e3 m (by simp; omega) m2) hroom
        exact ⟨f1, hst.trans f2, f3⟩
      · rw [if_neg h2] at hroom ⊢
        have hst : Ext s ⟨s.room - 1, s.places ++ [⟨b, ((0 : Nat) : Int), (s.tree.length : Int)⟩], s.tree⟩ := ⟨⟨[⟨b, ((0 : Nat) : Int), (s.tree.length : Int)⟩], rfl⟩, ⟨[], by simp⟩⟩
        obtain ⟨f1, f2, f3⟩ := layB_good (k := s.tree.length) ih ⟨hb1, hb2⟩ l (0 + 1) ⟨s.room - 1, s.places ++ [⟨b, ((0 : Nat) : Int), (s.tree.length : Int)⟩], s.tree⟩ hd0 (fun o' ho' => hcall o' (by simp [ho'])) hfill (Nat.le_refl _) hfk (fun j hj => by
            have hj0 : j = 0 := by omega
            subst hj0
            exact ⟨⟨b, ((0 : Nat) : Int), (s.tree.length : Int)⟩, by simp, rfl, rfl⟩) (fun m m1 m2 => absurd m2 (by exact Nat.not_le.2 m1)) hroom
        exact ⟨f1, hst.trans f2, f3⟩
end Go.Proofs.YtffnfjkjlmlonaaGreatDoor
namespace Go.Proofs.YtffnfjkjlmlonaaGreatDoor
open Go.RowKit

def stripO (o : OpD) : OpD := if o.code = 5 then o else ⟨o.code, o.line, o.a, o.b, o.c, []⟩
def stripF (x : FnD) : FnD := ⟨x.name, x.file, x.params, x.locals, x.body.map stripO⟩
def strip (p : List FnD) : List FnD := p.map stripF

theorem strip_code (o : OpD) : (stripO o).code = o.code := by unfold stripO; split <;> rfl
theorem strip_line (o : OpD) : (stripO o).line = o.line := by unfold stripO; split <;> rfl
theorem strip_a (o : OpD) : (stripO o).a = o.a := by unfold stripO; split <;> rfl
theorem strip_b (o : OpD) : (stripO o).b = o.b := by unfold stripO; split <;> rfl
theorem strip_c (o : OpD) : (stripO o).c = o.c := by unfold stripO; split <;> rfl
theorem strip_args {o : OpD} (h : o.code = 5) : (stripO o).args = o.args := by unfold stripO; rw [if_pos h]

theorem fnAt_strip (p : List FnD) (n : Int) : fnAt (strip p) n = stripF (fnAt p n) := by
  unfold fnAt strip
  rw [List.getElem?_map]
  cases p[n.toNat]? with
  | none => rfl
  | some x => rfl
theorem fnOf_strip (p : List FnD) (x : LiveD) : fnOf (strip p) x = stripF (fnOf p x) := fnAt_strip p x.fn
theorem opOf_strip (p : List FnD) (x : LiveD) : opOf (strip p) x = stripO (opOf p x) := by
  unfold opOf
  rw [fnOf_strip]
  show ((List.map stripO _)[_]?).getD noOp = _
  rw [List.getElem?_map]
  cases (fnOf p x).body[x.next.toNat]? with
  | none => rfl
  | some o => rfl

theorem stepTop_strip (p : List FnD) (ini : List LiveD) (x : LiveD) : stepTop (strip p) ini x = stepTop p ini x := by
  unfold stepTop
  simp only [opOf_strip, strip_code, strip_a, strip_b, strip_c]
  split
  · next h5 =>
    split
    · rfl
    · unfold calleeD
      rw [fnAt_strip, strip_b, strip_args h5]; rfl
  · rfl
theorem nextD_strip (p : List FnD) (s : StandD) : nextD (strip p) s = nextD p s := by
  unfold nextD
  simp only [stepTop_strip]
theorem runD_strip (p : List FnD) (s : StandD) : ∀ n, runD (strip p) s n = runD p s n
  | 0 => rfl
  | n + 1 => by show nextD _ _ = nextD _ _; rw [runD_strip p s n, nextD_strip]
theorem toldD_strip (p : List FnD) (s : StandD) : toldD (strip p) s = toldD p s := by
  unfold toldD
  simp only [fnOf_strip, opOf_strip, strip_line]; rfl
theorem begunD_strip (p : List FnD) (args : List Int) : begunD (strip p) args = begunD p args := by
  unfold begunD
  rw [fnAt_strip]; rfl

theorem good_strip {p : List FnD} (g : Good p) : Good (strip p) := by
  refine ⟨by simpa [strip] using g.len, fun f x hx => ?_⟩
  unfold strip at hx
  rw [List.getElem?_map] at hx
  obtain ⟨y, hy, rfl⟩ := Option.map_eq_some_iff.1 hx
  have hf := g.fns f y hy
  refine ⟨hf.locals, hf.params, by simpa [stripF] using hf.body, fun s o ho => ?_⟩
  have ho' : (y.body.map stripO)[s]? = some o := ho
  rw [List.getElem?_map] at ho'
  obtain ⟨q, hq, rfl⟩ := Option.map_eq_some_iff.1 ho'
  have hok := hf.ops s q hq
  have hbl : (stripF y).body.length = y.body.length := by simp [stripF]
  have hpl : (strip p).length = p.length := by simp [strip]
  refine ⟨by rw [strip_line]; exact hok.line, by rw [strip_a]; exact hok.a, by rw [strip_code]; exact hok.code, by rw [strip_code, hbl]; exact hok.last, by rw [strip_code, strip_b]; exact hok.set, by rw [strip_code, strip_b, strip_c]; exact hok.three, by rw [strip_code, strip_b, hbl]; exact hok.jump, fun h => ?_⟩
  rw [strip_code] at h
  rw [strip_b, hpl, strip_args h, fnAt_strip]
  exact hok.call h
end Go.Proofs.YtffnfjkjlmlonaaGreatDoor
namespace Go.Proofs.YtffnfjkjlmlonaaGreatDoor
open Go.RowKit

theorem isLet_byte : ∀ n : Nat, n < 256 → isLet (n : Int) = (decide (97 ≤ n ∧ n ≤ 122) || (decide (48 ≤ n ∧ n ≤ 57) || (n == 46 || n == 47))) := by decide +kernel

set_option maxHeartbeats 1000000 in
set_option maxRecDepth 100000 in
theorem mayStand_any (n : Nat) (hn : n < 256) (w : World) :
    Calls Tryz.prog 216 #[.int .u8 (n : Int)] w fun r w' => r = .returned (.bool (isLet n)) ∧ w' = w := by
  have H := hid (isLet_byte n hn)
  obtain ⟨c, hc⟩ : ∃ c : Int, c = (n : Int) := ⟨_, rfl⟩
  by_cases h1 : 97 ≤ n
  · have g1 : (97 : Int) ≤ c := by omega
    by_cases h2 : n ≤ 122
    · have g2 : c ≤ 122 := by omega
      have HF : Hid (isLet c = true) := by show _ = _; rw [hc, H.out]; simp [h1, h2]
      rw [← hc]
      clear hc H
      go_enter Tryz.func216, Tryz.ntmps216
      go_wp2
      go_ret
      exact ⟨ret_bool HF.out.symm, rfl⟩
    · have g2 : decide (c ≤ 122) = false := by simp; omega
      have g3 : (48 : Int) ≤ c := by omega
      have g4 : decide (c ≤ 57) = false := by simp; omega
      have g5 : (c == 46) = false := by simp; omega
      have g6 : (c == 47) = false := by simp; omega
      have HF : Hid (isLet c = false) := by show _ = _; rw [hc, H.out]; simp; omega
      rw [← hc]
      clear hc H
      go_enter Tryz.func216, Tryz.ntmps216
      go_wp2
      go_ret
      exact ⟨ret_bool HF.out.symm, rfl⟩
  · have g1 : decide ((97 : Int) ≤ c) = false := by simp; omega
    by_cases h3 : 48 ≤ n
    · have g3 : (48 : Int) ≤ c := by omega
      have g5 : (c == 46) = false := by simp; omega
      have g6 : (c == 47) = false := by simp; omega
      by_cases h4 : n ≤ 57
      · have g4 : c ≤ 57 := by omega
        have HF : Hid (isLet c = true) := by show _ = _; rw [hc, H.out]; simp [h3, h4]
        rw [← hc]
        clear hc H
        go_enter Tryz.func216, Tryz.ntmps216
        go_wp2
        go_ret
        exact ⟨ret_bool HF.out.symm, rfl⟩
      · have g4 : decide (c ≤ 57) = false := by simp; omega
        have HF : Hid (isLet c = false) := by show _ = _; rw [hc, H.out]; simp; omega
        rw [← hc]
        clear hc H
        go_enter Tryz.func216, Tryz.ntmps216
        go_wp2
        go_ret
        exact ⟨ret_bool HF.out.symm, rfl⟩
    · have g3 : decide ((48 : Int) ≤ c) = false := by simp; omega
      by_cases h5 : n = 46
      · have g5 : (c == 46) = true := by simp; omega
        have HF : Hid (isLet c = true) := by show _ = _; rw [hc, H.out]; simp [h5]
        rw [← hc]
        clear hc H
        go_enter Tryz.func216, Tryz.ntmps216
        go_wp2
        go_ret
        exact ⟨ret_bool HF.out.symm, rfl⟩
      · have g5 : (c == 46) = false := by simp; omega
        have HF : Hid (isLet c = (c == 47)) := by
          show _ = _
          rw [hc, H.out]
          by_cases h : n = 47
          · subst h; decide
          · have : ((n : Int) == 47) = false := by simp; omega
            rw [this]; simp; omega
        rw [← hc]
        clear hc H
        go_enter Tryz.func216, Tryz.ntmps216
        go_wp2
        go_ret
        exact ⟨ret_bool HF.out.symm, rfl⟩

set_option maxHeartbeats 1000000 in
set_option maxRecDepth 100000 in
theorem isWord_any (s : ByteArray) (w : World) (hs : s.size ≤ maxLen) :
    Calls Tryz.prog 186 #[.string s] w fun e w' => e = .returned (.bool (wordB s)) ∧ Below w.heap.size w w' := by
  unfold maxLen at hs
  by_cases h1 : s.size < 1
  · have g1 : (s.size : Int) < 1 := by omega
    have HF : Hid (wordB s = false) := by show _ = _; unfold wordB; rw [decide_eq_false (by omega)]; rfl
    go_enter Tryz.func186, Tryz.ntmps186
    go_wp2
    go_ret
    exact ⟨ret_bool HF.out.symm, Below.refl _ _⟩
  · have g1 : decide ((s.size : Int) < 1) = false := by simp; omega
    by_cases h2 : 20 < s.size
    · have g2 : (20 : Int) < (s.size : Int) := by omega
      have HF : Hid (wordB s = false) := by show _ = _; unfold wordB; rw [decide_eq_false (by omega)]; rfl
      go_enter Tryz.func186, Tryz.ntmps186
      go_wp2
      go_ret
      exact ⟨ret_bool HF.out.symm, Below.refl _ _⟩
    · have g2 : decide ((20 : Int) < (s.size : Int)) = false := by simp; omega
      have HW : Hid (wordB s = (byteL s).all isLet) := by show _ = _; unfold wordB; rw [decide_eq_true (by omega)]; rfl
      go_enter Tryz.func186, Tryz.ntmps186
      go_wp2
      go_loopw [3] (fun i wr => ∃ k : Nat, i = .int .i64 k ∧ k ≤ s.size ∧ ((byteL s).take k).all isLet = true ∧ Below w.heap.size w wr) (fun i _ => s.size - (intOf i).toNat)
      case atStart => exact ⟨0, rfl, by omega, rfl, Below.refl _ _⟩
      case round =>
        obtain ⟨k, rfl, hk, hall, hbel⟩ := hrel
        have HA := hid hall
        clear hall
        by_cases hlt : k < s.size
        · have hlt' : (k : Int) < (s.size : Int) := by omega
          have hstep : ((byteL s).take (k + 1)).all isLet = isLet (s[k].toNat : Int) := by
            rw [byteL_take s k hlt, List.all_append, HA.out]; simp
          have HM := hid (fun W => mayStand_any s[k].toNat s[k].toNat_lt W)
          obtain ⟨t, ht⟩ : ∃ t, t = isLet (s[k].toNat : Int) := ⟨_, rfl⟩
          rw [← ht] at hstep HM
          have HS := hid hstep
          clear ht hstep
          cases t with
          | true =>
            go_wp2_with fail
            refine (HM.out _).mono ?_
            rintro e w' ⟨rfl, rfl⟩
            go_wp2
            go_roundw
            case rel => exact ⟨k + 1, by go_num, by omega, HS.out, hbel⟩
            case measure => simp [intOf]; omega
          | false =>
            have HF : Hid (wordB s = false) := by
              show _ = _
              rw [HW.out]
              have h1 : byteL s = (byteL s).take (k + 1) ++ (byteL s).drop (k + 1) := (List.take_append_drop _ _).symm
              rw [h1, List.all_append, HS.out]; rfl
            go_wp2_with fail
            refine (HM.out _).mono ?_
            rintro e w' ⟨rfl, rfl⟩
            go_wp2
            go_ret
            exact ⟨ret_bool HF.out.symm, hbel⟩
        · have hks : k = s.size := by omega
          have HF : Hid (wordB s = true) := by show _ = _; have := HA.out; rw [hks, List.take_of_length_le (by rw [byteL_len]; omega)] at this; rw [HW.out]; exact this
          have hge : decide ((k : Int) < (s.size : Int)) = false := by simp; omega
          clear hks
          go_wp2
          go_ret
          exact ⟨ret_bool HF.out.symm, hbel⟩

end Go.Proofs.YtffnfjkjlmlonaaGreatDoor
