/- The instances and the nodes of a code that was laid fit together; nothing is claimed of the program here. Contracts of table.At and table.Put: they give what the plain functions give; what comes out lies in a row of the call's own; nothing that was there is written. Contracts of unfold.PutTable, unfold.GetTable and unfold.At: they hand on what table.Put, table.Get and table.At give. The contract of unfoldkeep.pick: for whatever integer it gives its fold into the numbers below n, the world being left as it was. The contract of the law's own function rolled: it gives the spans of some values, in a row of the call's own; nothing that was there is written. Plain mathematics of rolled: the spans of some values make a table of just these values; no program is spoken of. -/
import Derived.Test.YthaganponmnanaaGreatDoorZ16
import Derived.Test.YthaganponmnanaaGreatDoorZ2
import Derived.Test.YthaganponmnanaaGreatDoorZ0
import Derived.Deep.QuietTactic
import Derived.BigQuiet
import Derived.Test.YthaganponmnanaaGreatDoorZ3
namespace Go.Proofs.YthaganponmnanaaGreatDoor
open Go.RowKit

def opAt (p : List FnD) (a : PlD) : OpD := ((fnAt p a.fn).body[a.op.toNat]?).getD noOp
def PlOk (p : List FnD) (a : PlD) : Prop := (0 ≤ a.fn ∧ a.fn < p.length) ∧ 0 ≤ a.op ∧ a.op < (fnAt p a.fn).body.length
/-- The function of an instance, in the code of function r. -/
def fnK (r : Int) (t : List (Int × Int)) (k : Nat) : Option Int := if k = 0 then some r else (t[k - 1]?).map (·.1)
/-- The nodes and the instances of a code fit together. -/
structure GoodLy (p : List FnD) (r : Int) (s : LyD) : Prop where
  node : ∀ (i : Nat) (nd : Int × Int), s.tree[i]? = some nd → (0 ≤ nd.1 ∧ nd.1 < p.length) ∧ ∃ (pc : Nat) (a b : PlD), nd.2 = (pc : Int) ∧ s.places[pc]? = some a ∧ s.places[pc + 1]? = some b ∧ a.inst < (i : Int) + 1 ∧ b.inst = (i : Int) + 1 ∧ (opAt p a).code = 5 ∧ (opAt p a).b = nd.1
  inc : ∀ (i j : Nat) (x y : Int × Int), i < j → s.tree[i]? = some x → s.tree[j]? = some y → x.2 < y.2
  inst : ∀ a ∈ s.places, ∃ k : Nat, a.inst = (k : Int) ∧ k ≤ s.tree.length ∧ fnK r s.tree k = some a.fn
  pl : ∀ a ∈ s.places, PlOk p a
/-- The last node's instance has not begun yet. -/
structure PendLy (p : List FnD) (r : Int) (s : LyD) (t0 : List (Int × Int)) (nd : Int × Int) (c : PlD) : Prop where
  tree : s.tree = t0 ++ [nd]
  good : GoodLy p r ⟨s.room, s.places, t0⟩
  func : 0 ≤ nd.1 ∧ nd.1 < p.length
  last : s.places.getLast? = some c
  at_ : nd.2 + 1 = (s.places.length : Int)
  call : (opAt p c).code = 5 ∧ (opAt p c).b = nd.1
def Ext (s t : LyD) : Prop := (∃ X, t.places = s.places ++ X) ∧ ∃ Y, t.tree = s.tree ++ Y
theorem Ext.refl (s : LyD) : Ext s s := ⟨⟨[], by simp⟩, ⟨[], by simp⟩⟩
theorem Ext.trans {s t u : LyD} (h : Ext s t) (h' : Ext t u) : Ext s u := by
  obtain ⟨⟨X, hx⟩, Y, hy⟩ := h
  obtain ⟨⟨X', hx'⟩, Y', hy'⟩ := h'
  exact ⟨⟨X ++ X', by rw [hx', hx, List.append_assoc]⟩, ⟨Y ++ Y', by rw [hy', hy, List.append_assoc]⟩⟩
theorem Ext.len {s t : LyD} (h : Ext s t) : s.tree.length ≤ t.tree.length := by
  obtain ⟨_, Y, hy⟩ := h
  rw [hy, List.length_append]; omega
theorem Ext.mem {s t : LyD} (h : Ext s t) {a : PlD} (ha : a ∈ s.places) : a ∈ t.places := by
  obtain ⟨⟨X, hx⟩, _⟩ := h
  rw [hx]; exact List.mem_append_left _ ha
theorem fnK_ext {r : Int} {t : List (Int × Int)} {k : Nat} (h : k ≤ t.length) (Y : List (Int × Int)) : fnK r (t ++ Y) k = fnK r t k := by
  unfold fnK
  split
  · rfl
  · rw [List.getElem?_append_left (by omega)]
/-- All ops of the instance m are laid. -/
def Full (p : List FnD) (r : Int) (s : LyD) (m : Nat) : Prop := ∀ g, fnK r s.tree m = some g → ∀ j : Nat, j < (fnAt p g).body.length → ∃ a ∈ s.places, a.inst = (m : Int) ∧ a.op = (j : Int)
theorem Full.ext {p : List FnD} {r : Int} {s t : LyD} {m : Nat} (h : Full p r s m) (he : Ext s t) (hm : m ≤ s.tree.length) : Full p r t m := fun g hg j hj => by
  have h2 := he
  obtain ⟨_, Y, hy⟩ := h2
  rw [hy, fnK_ext hm] at hg
  obtain ⟨a, ha, h1⟩ := h g hg j hj
  exact ⟨a, he.mem ha, h1⟩

theorem getElem?_snoc {α : Type} {l : List α} {x : α} {i : Nat} {y : α} (h : (l ++ [x])[i]? = some y) : l[i]? = some y ∨ (i = l.length ∧ y = x) := by
  by_cases hi : i < l.length
  · rw [List.getElem?_append_left hi] at h; exact .inl h
  · rw [List.getElem?_append_right (by omega)] at h
    have hlt : i - l.length < [x].length := (List.getElem?_eq_some_iff.1 h).1
    simp at hlt
    have : i - l.length = 0 := by omega
    rw [this] at h
    simp at h
    exact .inr ⟨by omega, h.symm⟩
theorem getElem?_old {α : Type} {l : List α} {i : Nat} {y : α} (h : l[i]? = some y) (r : List α) : (l ++ r)[i]? = some y := by
  rw [List.getElem?_append_left (List.getElem?_eq_some_iff.1 h).1]; exact h

theorem GoodLy.add {p : List FnD} {r : Int} {s : LyD} (h : GoodLy p r s) {c : PlD} (h0 : ∃ k : Nat, c.inst = (k : Int) ∧ k ≤ s.tree.length ∧ fnK r s.tree k = some c.fn) (hc : PlOk p c) (m : Int) : GoodLy p r ⟨m, s.places ++ [c], s.tree⟩ where
  node := fun i nd hn => by
    obtain ⟨h1, pc, a, b, e1, e2, e3, e4⟩ := h.node i nd hn
    exact ⟨h1, pc, a, b, e1, getElem?_old e2 _, getElem?_old e3 _, e4⟩
  inc := h.inc
  inst := fun a ha => by
    rcases List.mem_append.1 ha with g | g
    · exact h.inst a g
    · rw [List.mem_singleton.1 g]; exact h0
  pl := fun a ha => by
    rcases List.mem_append.1 ha with g | g
    · exact h.pl a g
    · rw [List.mem_singleton.1 g]; exact hc

theorem GoodLy.pend {p : List FnD} {r : Int} {s : LyD} (h : GoodLy p r s) {c : PlD} (hl : s.places.getLast? = some c) {nd : Int × Int} (h1 : 0 ≤ nd.1 ∧ nd.1 < p.length) (h2 : nd.2 + 1 = (s.places.length : Int)) (h3 : (opAt p c).code = 5 ∧ (opAt p c).b = nd.1) (m : Int) : PendLy p r ⟨m, s.places, s.tree ++ [nd]⟩ s.tree nd c :=
  ⟨rfl, ⟨h.node, h.inc, h.inst, h.pl⟩, h1, hl, h2, h3⟩

theorem PendLy.fill {p : List FnD} {r : Int} {s : LyD} {t0 : List (Int × Int)} {nd : Int × Int} {c d : PlD} (h : PendLy p r s t0 nd c) (hd : d.inst = (s.tree.length : Int)) (hf : d.fn = nd.1) (hp : PlOk p d) (m : Int) : GoodLy p r ⟨m, s.places ++ [d], s.tree⟩ := by
  have hlen : s.tree.length = t0.length + 1 := by rw [h.tree]; simp
  have hpl : s.places.length ≠ 0 := fun e => by
    have := h.last
    rw [List.length_eq_zero_iff.1 e] at this
    simp at this
  have hlast : s.places[s.places.length - 1]? = some c := by rw [← List.getLast?_eq_getElem?]; exact h.last
  obtain ⟨kc, hc1, hc2, -⟩ := h.good.inst c (List.mem_of_getLast? h.last)
  refine ⟨fun i x hx => ?_, fun i j x y hij hx hy => ?_, fun a ha => ?_, fun a ha => ?_⟩
  · dsimp only at hx ⊢
    rw [h.tree] at hx
    rcases getElem?_snoc hx with g | ⟨g1, g2⟩
    · obtain ⟨h1, pc, a, b, e1, e2, e3, e4⟩ := h.good.node i x g
      exact ⟨h1, pc, a, b, e1, getElem?_old e2 _, getElem?_old e3 _, e4⟩
    · subst g2
      refine ⟨h.func, s.places.length - 1, c, d, ?_, getElem?_old hlast _, ?_, ?_, ?_, h.call⟩
      · have := h.at_; omega
      · rw [List.getElem?_append_right (by omega)]
        have : s.places.length - 1 + 1 - s.places.length = 0 := by omega
        rw [this]; rfl
      · dsimp only at hc2; omega
      · rw [hd]; omega
  · dsimp only at hx hy
    rw [h.tree] at hx hy
    rcases getElem?_snoc hy with g | ⟨g1, g2⟩
    · rcases getElem?_snoc hx with k | ⟨k1, k2⟩
      · exact h.good.inc i j x y hij k g
      · have := (List.getElem?_eq_some_iff.1 g).1
        omega
    · subst g2
      rcases getElem?_snoc hx with k | ⟨k1, k2⟩
      · obtain ⟨_, pc, a, b, e1, e2, e3, e4⟩ := h.good.node i x k
        have hb := (List.getElem?_eq_some_iff.1 e3).1
        have := h.at_
        dsimp only at hb
        omega
      · omega
  · dsimp only at ha ⊢
    rcases List.mem_append.1 ha with g | g
    · obtain ⟨k, k1, k2, k3⟩ := h.good.inst a g
      dsimp only at k2 k3
      exact ⟨k, k1, by omega, by rw [h.tree, fnK_ext k2]; exact k3⟩
    · rw [List.mem_singleton.1 g]
      refine ⟨s.tree.length, hd, Nat.le_refl _, ?_⟩
      unfold fnK
      rw [if_neg (by omega), h.tree]
      simp [hf]
  · rcases List.mem_append.1 ha with g | g
    · exact h.good.pl a g
    · rw [List.mem_singleton.1 g]; exact hp

def Fresh (p : List FnD) (r : Int) (s : LyD) (b : Int) : Prop := (s.places = [] ∧ s.tree = [] ∧ b = r) ∨ ∃ t0 nd c, PendLy p r s t0 nd c ∧ nd.1 = b

theorem Fresh.fill {p : List FnD} {r : Int} {s : LyD} {b : Int} (h : Fresh p r s b) {d : PlD} (hd : d.inst = (s.tree.length : Int)) (hf : d.fn = b) (hp : PlOk p d) (m : Int) : GoodLy p r ⟨m, s.places ++ [d], s.tree⟩ := by
  rcases h with ⟨h1, h2, h3⟩ | ⟨t0, nd, c, h, hb⟩
  · rw [h1, h2]
    refine ⟨fun i nd h => by simp at h, fun i j x y _ h => by simp at h, fun a ha => ?_, fun a ha => ?_⟩
    · simp at ha; subst ha; exact ⟨0, by rw [hd, h2]; rfl, Nat.le_refl _, by unfold fnK; rw [if_pos rfl, hf, h3]⟩
    · simp at ha; subst ha; exact hp
  · exact h.fill hd (hf.trans hb.symm) hp m
theorem Fresh.fnK {p : List FnD} {r : Int} {s : LyD} {b : Int} (h : Fresh p r s b) : Proofs.YthaganponmnanaaGreatDoor.fnK r s.tree s.tree.length = some b := by
  unfold Proofs.YthaganponmnanaaGreatDoor.fnK
  rcases h with ⟨h1, h2, h3⟩ | ⟨t0, nd, c, h, hb⟩
  · rw [h2, if_pos (by rfl), h3]
  · rw [h.tree, if_neg (by simp)]
    simp [hb]

/-- What an instance keeps, of those that begin within it. -/
def RecOk (p : List FnD) (r : Int) (ar : List Int) (rec : Int → List Int → LyD → LyD) : Prop := ∀ (b : Int) (s : LyD), 0 ≤ b → b < p.length → b ∉ ar → Fresh p r s b → 0 ≤ (rec b ar s).room →
  GoodLy p r (rec b ar s) ∧ Ext s (rec b ar s) ∧ ∀ m, s.tree.length ≤ m → m ≤ (rec b ar s).tree.length → Full p r (rec b ar s) m

theorem inlB_true {p : List FnD} {bud : Int} {ar : List Int} {o : OpD} (h : inlB p bud ar o = true) : o.code = 5 ∧ o.b ∉ ar ∧ ((fnAt p o.b).body.length : Int) ≤ bud := by
  unfold inlB at h
  rw [Bool.and_eq_true, Bool.and_eq_true] at h
  obtain ⟨h1, h2, h3⟩ := h
  refine ⟨by simpa using h1, fun hm => ?_, of_decide_eq_true h3⟩
  rw [Bool.not_eq_true'] at h2
  have : ar.contains o.b = true := List.contains_iff_mem.2 hm
  rw [h2] at this
  cases this

theorem layB_good {p : List FnD} {r bud fn : Int} {ar : List Int} {k : Nat} {rec : Int → List Int → LyD → LyD} (hr : RecOk p r ar rec) (hf : 0 ≤ fn ∧ fn < p.length) : ∀ (l : List OpD) (i : Nat) (s : LyD), (fnAt p fn).body.drop i = l → (∀ o ∈ l, o.code = 5 → 0 ≤ o.b ∧ o.b < p.length) →
    GoodLy p r s → k ≤ s.tree.length → fnK r s.tree k = some fn → (∀ j : Nat, j < i → ∃ a ∈ s.places, a.inst = (k : Int) ∧ a.op = (j : Int)) → (∀ m, k < m → m ≤ s.tree.length → Full p r s m) → 0 ≤ (layB rec p bud fn ar k l i s).room →
    GoodLy p r (layB rec p bud fn ar k l i s) ∧ Ext s (layB rec p bud fn ar k l i s) ∧ ∀ m, k ≤ m → m ≤ (layB rec p bud fn ar k l i s).tree.length → Full p r (layB rec p bud fn ar k l i s) m
  | [], i, s, hi, _, hg, hk, hfn, hd, hfull, _ => by
    refine ⟨hg, Ext.refl _, fun m h1 h2 => ?_⟩
    rcases Nat.lt_or_eq_of_le h1 with h3 | h3
    · exact hfull m h3 h2
    · subst h3
      intro g hg2 j hj
      have hge : some g = some fn := hg2.symm.trans hfn
      obtain rfl := Option.some.inj hge
      have : (fnAt p g).body.length ≤ i := by
        have := congrArg List.length hi
        simp at this
        omega
      exact hd j (by omega)
  | o :: l, i, s, hi, ho, hg, hk, hfn, hd, hfull, hroom => by
    have hget : (fnAt p fn).body[i]? = some o := by
      have h2 : ((fnAt p fn).body.drop i)[0]? = some o := by rw [hi]; rfl
      simpa using h2
    have hil := (List.getElem?_eq_some_iff.1 hget).1
    have hi2 : (fnAt p fn).body.drop (i + 1) = l := by
      have h2 : ((fnAt p fn).body.drop i).drop 1 = l := by rw [hi]; rfl
      rw [List.drop_drop] at h2
      exact h2
    have hop : opAt p ⟨fn, i, k⟩ = o := by unfold opAt; simp [hget]
    unfold layB at hroom ⊢
    by_cases h1 : s.room - 1 < 0
    · rw [if_pos h1] at hroom
      dsimp only at hroom
      omega
    · rw [if_neg h1] at hroom ⊢
      have hpl : PlOk p ⟨fn, i, k⟩ := ⟨hf, by dsimp only; omega, by dsimp only; omega⟩
      have hadd := hg.add (c := ⟨fn, i, k⟩) ⟨k, rfl, hk, hfn⟩ hpl (s.room - 1)
      by_cases h2 : inlB p bud ar o = true
      · rw [if_pos h2] at hroom ⊢
        obtain ⟨c1, c2, c3⟩ := inlB_true h2
        have hb := ho o (by simp) c1
        have hpend : PendLy p r ⟨s.room - 1, s.places ++ [⟨fn, i, k⟩], s.tree ++ [(o.b, (s.places.length : Int))]⟩ s.tree (o.b, (s.places.length : Int)) ⟨fn, i, k⟩ := hadd.pend (by simp) hb (by simp) (by rw [hop]; exact ⟨c1, rfl⟩) (s.room - 1)
        obtain ⟨t, ht⟩ : ∃ t, t = rec o.b ar ⟨s.room - 1, s.places ++ [⟨fn, i, k⟩], s.tree ++ [(o.b, (s.places.length : Int))]⟩ := ⟨_, rfl⟩
        have hrr : 0 ≤ (rec o.b ar ⟨s.room - 1, s.places ++ [⟨fn, i, k⟩], s.tree ++ [(o.b, (s.places.length : Int))]⟩).room := by
          refine Int.not_lt.1 fun hn => ?_
          have := layB_neg (rec := rec) (p := p) (bud := bud) (fn := fn) (ar := ar) (k := k) l (i + 1) _ hn
          omega
        obtain ⟨e1, e2, e3⟩ := hr o.b _ hb.1 hb.2 c2 (.inr ⟨_, _, _, hpend, rfl⟩) hrr
        rw [← ht] at e1 e2 e3 hroom ⊢
        have e4 := e2.len
        simp only [List.length_append, List.length_cons, List.length_nil] at e4
        have hst : Ext s t := Ext.trans ⟨⟨[⟨fn, i, k⟩], rfl⟩, ⟨[(o.b, (s.places.length : Int))], rfl⟩⟩ e2
        have hst2 := hst
        obtain ⟨_, Y, hY⟩ := hst2
        obtain ⟨f1, f2, f3⟩ := layB_good hr hf l (i + 1) t hi2 (fun o' ho' => ho o' (by simp [ho'])) e1 (by omega) (by rw [hY, fnK_ext hk]; exact hfn) (fun j hj => by
            by_cases hji : j = i
            · subst hji
              exact ⟨⟨fn, j, k⟩, e2.mem (by simp), rfl, rfl⟩
            · obtain ⟨a, a1, a2⟩ := hd j (by omega)
              exact ⟨a, hst.mem a1, a2⟩) (fun m m1 m2 => by
            by_cases hm : m ≤ s.tree.length
            · exact (hfull m m1 hm).ext hst hm
            · exact e3 m (by simp; omega) m2) hroom
        exact ⟨f1, hst.trans f2, f3⟩
      · rw [if_neg h2] at hroom ⊢
        have hst : Ext s ⟨s.room - 1, s.places ++ [⟨fn, i, k⟩], s.tree⟩ := ⟨⟨[⟨fn, i, k⟩], rfl⟩, ⟨[], by simp⟩⟩
        obtain ⟨f1, f2, f3⟩ := layB_good hr hf l (i + 1) ⟨s.room - 1, s.places ++ [⟨fn, i, k⟩], s.tree⟩ hi2 (fun o' ho' => ho o' (by simp [ho'])) hadd (by exact hk) hfn (fun j hj => by
            by_cases hji : j = i
            · subst hji
              exact ⟨⟨fn, j, k⟩, by simp, rfl, rfl⟩
            · obtain ⟨a, a1, a2⟩ := hd j (by omega)
              exact ⟨a, hst.mem a1, a2⟩) (fun m m1 m2 => (hfull m m1 m2).ext hst m2) hroom
        exact ⟨f1, hst.trans f2, f3⟩

/-- What of a program the laying needs: bodies that are not empty, Calls of its functions. -/
structure LayOk (p : List FnD) : Prop where
  body : ∀ fn : Int, 0 ≤ fn → fn < p.length → (fnAt p fn).body ≠ []
  call : ∀ fn : Int, 0 ≤ fn → fn < p.length → ∀ o ∈ (fnAt p fn).body, o.code = 5 → 0 ≤ o.b ∧ o.b < p.length

theorem layI_good {p : List FnD} {r bud : Int} (hp : LayOk p) : ∀ (f : Nat) (ar : List Int), freeN ar p.length ≤ f → RecOk p r ar (layI p bud f)
  | 0, ar, hf => fun b s hb1 hb2 hb3 _ _ => by
    have := freeN_cons hb3 hb1 p.length hb2
    omega
  | f + 1, ar, hf => fun b s hb1 hb2 hb3 hfr hroom => by
    have hfc := freeN_cons hb3 hb1 p.length hb2
    have ih := layI_good (r := r) (bud := bud) hp f (b :: ar) (by omega)
    have hfk := hfr.fnK
    rw [layI_zero] at hroom ⊢
    have hcall := hp.call b hb1 hb2
    obtain ⟨o, l, hbody⟩ : ∃ o l, (fnAt p b).body = o :: l := by
      cases h : (fnAt p b).body with
      | nil => exact absurd h (hp.body b hb1 hb2)
      | cons o l => exact ⟨o, l, rfl⟩
    rw [hbody] at hcall
    have hd0 : (fnAt p b).body.drop 1 = l := by rw [hbody]; rfl
    have hlen : (fnAt p b).body.length = l.length + 1 := by rw [hbody]; rfl
    have hop : opAt p ⟨b, ((0 : Nat) : Int), (s.tree.length : Int)⟩ = o := by unfold opAt; simp [hbody]
    rw [hbody] at hroom ⊢
    have hpl : PlOk p ⟨b, ((0 : Nat) : Int), (s.tree.length : Int)⟩ := ⟨⟨hb1, hb2⟩, by dsimp only; omega, by dsimp only; omega⟩
    have hfill := hfr.fill (d := ⟨b, ((0 : Nat) : Int), (s.tree.length : Int)⟩) rfl rfl hpl (s.room - 1)
    unfold layB at hroom ⊢
    by_cases h1 : s.room - 1 < 0
    · rw [if_pos h1] at hroom
      dsimp only at hroom
      omega
    · rw [if_neg h1] at hroom ⊢
      by_cases h2 : inlB p bud (b :: ar) o = true
      · rw [if_pos h2] at hroom ⊢
        obtain ⟨c1, c2, c3⟩ := inlB_true h2
        have hob := hcall o (by simp) c1
        have hpend : PendLy p r ⟨s.room - 1, s.places ++ [⟨b, ((0 : Nat) : Int), (s.tree.length : Int)⟩], s.tree ++ [(o.b, (s.places.length : Int))]⟩ s.tree (o.b, (s.places.length : Int)) ⟨b, ((0 : Nat) : Int), (s.tree.length : Int)⟩ := hfill.pend (by simp) hob (by simp) (by rw [hop]; exact ⟨c1, rfl⟩) (s.room - 1)
        have hrr : 0 ≤ (layI p bud f o.b (b :: ar) ⟨s.room - 1, s.places ++ [⟨b, ((0 : Nat) : Int), (s.tree.length : Int)⟩], s.tree ++ [(o.b, (s.places.length : Int))]⟩).room := by
          refine Int.not_lt.1 fun hn => ?_
          have := layB_neg (rec := layI p bud f) (p := p) (bud := bud) (fn := b) (ar := b :: ar) (k := (s.tree.length : Int)) l (0 + 1) _ hn
          omega
        obtain ⟨e1, e2, e3⟩ := ih o.b _ hob.1 hob.2 c2 (.inr ⟨_, _, _, hpend, rfl⟩) hrr
        obtain ⟨t, ht⟩ : ∃ t, t = layI p bud f o.b (b :: ar) ⟨s.room - 1, s.places ++ [⟨b, ((0 : Nat) : Int), (s.tree.length : Int)⟩], s.tree ++ [(o.b, (s.places.length : Int))]⟩ := ⟨_, rfl⟩
        rw [← ht] at e1 e2 e3 hroom ⊢
        have e4 := e2.len
        simp only [List.length_append, List.length_cons, List.length_nil] at e4
        have hst : Ext s t := Ext.trans ⟨⟨[⟨b, ((0 : Nat) : Int), (s.tree.length : Int)⟩], rfl⟩, ⟨[(o.b, (s.places.length : Int))], rfl⟩⟩ e2
        have hst2 := hst
        obtain ⟨_, Y, hY⟩ := hst2
        obtain ⟨f1, f2, f3⟩ := layB_good (k := s.tree.length) ih ⟨hb1, hb2⟩ l (0 + 1) t hd0 (fun o' ho' => hcall o' (by simp [ho'])) e1 (by omega) (by rw [hY, fnK_ext (Nat.le_refl _)]; exact hfk) (fun j hj => by
            have hj0 : j = 0 := by omega
            subst hj0
            exact ⟨⟨b, ((0 : Nat) : Int), (s.tree.length : Int)⟩, e2.mem (by simp), rfl, rfl⟩) (fun m m1 m2 => e3 m (by simp; omega) m2) hroom
        exact ⟨f1, hst.trans f2, f3⟩
      · rw [if_neg h2] at hroom ⊢
        have hst : Ext s ⟨s.room - 1, s.places ++ [⟨b, ((0 : Nat) : Int), (s.tree.length : Int)⟩], s.tree⟩ := ⟨⟨[⟨b, ((0 : Nat) : Int), (s.tree.length : Int)⟩], rfl⟩, ⟨[], by simp⟩⟩
        obtain ⟨f1, f2, f3⟩ := layB_good (k := s.tree.length) ih ⟨hb1, hb2⟩ l (0 + 1) ⟨s.room - 1, s.places ++ [⟨b, ((0 : Nat) : Int), (s.tree.length : Int)⟩], s.tree⟩ hd0 (fun o' ho' => hcall o' (by simp [ho'])) hfill (Nat.le_refl _) hfk (fun j hj => by
            have hj0 : j = 0 := by omega
            subst hj0
            exact ⟨⟨b, ((0 : Nat) : Int), (s.tree.length : Int)⟩, by simp, rfl, rfl⟩) (fun m m1 m2 => absurd m2 (by exact Nat.not_le.2 m1)) hroom
        exact ⟨f1, hst.trans f2, f3⟩
end Go.Proofs.YthaganponmnanaaGreatDoor
namespace Go.Proofs.YthaganponmnanaaGreatDoor
open Go.RowKit

/-- The relation of table.At's loop. -/
def RelA (w : World) (l : List (Int × Int)) (pc0 : Int) (pc i : Value) (wr : World) : Prop :=
  ∃ (k : Nat) (q : Int), pc = .int .i64 q ∧ i = .int .i64 k ∧ k ≤ l.length ∧ 0 ≤ q ∧ q ≤ 9223372036854775807 ∧ atS l pc0 = atS (l.drop k) q ∧ Below w.heap.size w wr

end Go.Proofs.YthaganponmnanaaGreatDoor
namespace Go.Proofs.YthaganponmnanaaGreatDoor
open Go.RowKit

end Go.Proofs.YthaganponmnanaaGreatDoor
namespace Go.Proofs.YthaganponmnanaaGreatDoor
open Go.RowKit

def pickI (c n : Int) : Int := (if c < 0 then -(c + 1) else c) % n

set_option maxHeartbeats 400000 in
theorem pick_any (c n : Int) (w : World) (h1 : -9223372036854775808 ≤ c) (h2 : c ≤ 9223372036854775807) (h3 : 0 < n) (h4 : n ≤ 1000000000) :
    Calls Tryz.prog 8 #[.int .i64 c, .int .i64 n] w fun e w' => e = .returned (.int .i64 (pickI c n)) ∧ w' = w := by
  by_cases h : c < 0
  · obtain ⟨m, hm⟩ : ∃ m : Int, m = -(c + 1) := ⟨_, rfl⟩
    have hc : c = -(m + 1) := by omega
    clear hm
    subst hc
    have hm0 : 0 ≤ m := by omega
    have e1 : pickI (-(m + 1)) n = m % n := by unfold pickI; rw [if_pos h]; congr 1; omega
    have e2 : -(-(m + 1) + 1) = m := by omega
    rw [e1]
    go_enter Tryz.func8, Tryz.ntmps8
    go_wp2
    go_ret
    exact ⟨rfl, rfl⟩
  · have e1 : pickI c n = c % n := by unfold pickI; rw [if_neg h]
    have h0 : 0 ≤ c := by omega
    go_enter Tryz.func8, Tryz.ntmps8
    go_wp2
    go_ret
    exact ⟨rfl, rfl⟩

end Go.Proofs.YthaganponmnanaaGreatDoor
namespace Go.Proofs.YthaganponmnanaaGreatDoor
open Go.RowKit

def rollStep (acc : List (Int × Int)) (x : Int) : List (Int × Int) :=
  match acc.getLast? with
  | some p => if p.1 = x then acc.dropLast ++ [(x, p.2 + 1)] else acc ++ [(x, 1)]
  | none => acc ++ [(x, 1)]
def rollL (vs : List Int) : List (Int × Int) := vs.foldl rollStep []
theorem rollL_snoc (vs : List Int) (x : Int) : rollL (vs ++ [x]) = rollStep (rollL vs) x := by simp [rollL]
theorem rollStep_same (pre : List (Int × Int)) (x n : Int) : rollStep (pre ++ [(x, n)]) x = pre ++ [(x, n + 1)] := by simp [rollStep]
theorem rollStep_other (pre : List (Int × Int)) (x y n : Int) (h : y ≠ x) : rollStep (pre ++ [(y, n)]) x = pre ++ [(y, n)] ++ [(x, 1)] := by simp [rollStep, h]
theorem rollStep_nil (x : Int) : rollStep [] x = [(x, 1)] := rfl
/-- Behind at least one value: the last span has the last value. -/
theorem roll_last : ∀ (n : Nat) (vs : List Int), vs.length = n + 1 → ∃ pre m, rollL vs = pre ++ [(vs.getD n 0, m)] ∧ 1 ≤ m ∧ m ≤ (n : Int) + 1 ∧ pre.length ≤ n := by
  intro n
  induction n with
  | zero =>
    intro vs h
    match vs, h with
    | [x], _ => exact ⟨[], 1, by simp [rollL, rollStep], by omega, by omega, by simp⟩
  | succ n ih =>
    intro vs h
    obtain ⟨us, x, rfl⟩ : ∃ us x, vs = us ++ [x] := by
      have hne : vs ≠ [] := by intro e; simp [e] at h
      exact ⟨vs.dropLast, vs.getLast hne, (List.dropLast_concat_getLast hne).symm⟩
    have hl : us.length = n + 1 := by simpa using h
    obtain ⟨pre, m, e, h1, h2, h3⟩ := ih us hl
    have ex : (us ++ [x]).getD (n + 1) 0 = x := by simp [List.getD, hl]
    rw [rollL_snoc, e, ex]
    by_cases hx : us.getD n 0 = x
    · rw [hx]; exact ⟨pre, m + 1, rollStep_same pre x m, by omega, by omega, by omega⟩
    · refine ⟨pre ++ [(us.getD n 0, m)], 1, rollStep_other pre x _ m hx, by omega, by omega, by simp; omega⟩

theorem take_snoc (vs : List Int) (k : Nat) (h : k < vs.length) : vs.take (k + 1) = vs.take k ++ [vs.getD k 0] := by
  rw [List.take_succ_eq_append_getElem h]; simp [List.getD, h]

theorem below_draws {B : Nat} {a w : World} (h : Below B a w) (n : Nat) : Below B a (w.drewN n) := h.trans ⟨rfl, rfl, rfl, Nat.le_refl _, fun _ _ => rfl⟩
theorem two_newP (w : World) (x y : Value) (e : TypeId) : ∀ (j : Nat) (u : Value), [x, y][j]? = some u → (w.alloc (.cells #[x, y] e)).cell? ((⟨w.heap.size, 0, none⟩ : Addr).add j) = some u := by
  intro j u hj
  match j, hj with
  | 0, hj => simp at hj; subst hj; simp [Addr.add]
  | 1, hj => simp at hj; subst hj; simp [Addr.add]
theorem two_oneP (a b : Int) : ∀ u ∈ [Value.int .i64 a, .int .i64 b], u.oneCell' = true := by
  intro u hu; simp at hu; rcases hu with rfl | rfl <;> rfl
theorem flat_last (pre : List (Int × Int)) (y m : Int) (n : Nat) (h : n = pre.length) : (flat (pre ++ [(y, m)]))[n * 2 + 1]? = some (.int .i64 m) := by
  rw [flat_snoc, List.getElem?_append_right (by rw [flat_len]; omega), flat_len, h]
  simp
theorem flat_set (pre : List (Int × Int)) (y m : Int) (n : Nat) (h : n = pre.length) : (flat (pre ++ [(y, m)])).set (n * 2 + 1) (.int .i64 (m + 1)) = flat (pre ++ [(y, m + 1)]) := by
  rw [flat_snoc, flat_snoc, List.set_append_right _ _ (by rw [flat_len]; omega), flat_len, h]
  simp

/-- The relation of rolled's loop. -/
def RelR (w : World) (vs : List Int) (l i : Value) (wr : World) : Prop :=
  ∃ (k : Nat), i = .int .i64 k ∧ k ≤ vs.length ∧ wr.ownsRow w.heap.size 150 2 l (rollL (vs.take k)).length (flat (rollL (vs.take k))) ∧ Below w.heap.size w wr

end Go.Proofs.YthaganponmnanaaGreatDoor
namespace Go.Proofs.YthaganponmnanaaGreatDoor

/-- The spans of some values make a table of just these values. -/
theorem roll_ok : ∀ (n : Nat) (vs : List Int), vs.length = n → (∀ x ∈ vs, isV x = true) → wfN (rollL vs) (-1) ∧ sumS (rollL vs) = n ∧ unroll (rollL vs) = vs := by
  intro n
  induction n with
  | zero =>
    intro vs h _
    have : vs = [] := List.eq_nil_of_length_eq_zero h
    subst this
    exact ⟨trivial, rfl, rfl⟩
  | succ n ih =>
    intro vs h hv
    obtain ⟨us, x, rfl⟩ : ∃ us x, vs = us ++ [x] := by
      have hne : vs ≠ [] := by intro e; simp [e] at h
      exact ⟨vs.dropLast, vs.getLast hne, (List.dropLast_concat_getLast hne).symm⟩
    have hl : us.length = n := by simpa using h
    have hx : isV x = true := hv x (by simp)
    have hx' := of_decide_eq_true hx
    obtain ⟨h1, h2, h3⟩ := ih us hl (fun y hy => hv y (by simp [hy]))
    rw [rollL_snoc]
    cases n with
    | zero =>
      have : us = [] := List.eq_nil_of_length_eq_zero hl
      subst this
      exact ⟨⟨hx, by show x ≠ -1; omega, by show (1 : Int) ≤ 1; omega, trivial⟩, rfl, rfl⟩
    | succ n =>
      obtain ⟨pre, m, e, m1, _, _⟩ := roll_last n us hl
      rw [e] at h1 h2 h3 ⊢
      by_cases hxy : us.getD n 0 = x
      · rw [hxy] at h1 h2 h3 ⊢
        rw [rollStep_same]
        rw [wfN_snoc] at h1 ⊢
        rw [sumS_snoc] at h2 ⊢
        rw [unroll_snoc] at h3 ⊢
        refine ⟨⟨h1.1, h1.2.1, h1.2.2.1, by show 1 ≤ m + 1; omega⟩, by simp only at h2 ⊢; omega, ?_⟩
        have e2 : (m + 1).toNat = m.toNat + 1 := by omega
        simp only [e2] at h3 ⊢
        rw [List.replicate_succ', ← List.append_assoc, h3]
      · rw [rollStep_other _ _ _ _ hxy]
        rw [wfN_snoc, sumS_snoc, unroll_snoc, lastV_snoc]
        refine ⟨⟨h1, hx, fun e => hxy e.symm, by show (1 : Int) ≤ 1; omega⟩, by simp only at h2 ⊢; omega, ?_⟩
        rw [h3]; rfl

theorem atS_unroll : ∀ (l : List (Int × Int)) (b pc : Int), wfN l b → 0 ≤ pc → atS l pc = if pc.toNat < (unroll l).length then ((unroll l).getD pc.toNat 0, 0) else (0, 1)
  | [], b, pc, _, h => by simp [atS, unroll]
  | p :: t, b, pc, hw, h => by
    obtain ⟨hv, hvb, hn, hw2⟩ := hw
    have e : unroll (p :: t) = List.replicate p.2.toNat p.1 ++ unroll t := by simp [unroll]
    unfold atS
    by_cases hp : pc < p.2
    · rw [if_pos hp, if_pos (by rw [e]; simp; omega), e]
      have : pc.toNat < p.2.toNat := by omega
      simp [List.getD, List.getElem?_append, this]
    · rw [if_neg hp, atS_unroll t p.1 (pc - p.2) hw2 (by omega), e]
      have e2 : (pc - p.2).toNat = pc.toNat - p.2.toNat := by omega
      rw [e2]
      have hlen : (List.replicate p.2.toNat p.1 ++ unroll t).length = p.2.toNat + (unroll t).length := by simp
      rw [hlen]
      have hge : p.2.toNat ≤ pc.toNat := by omega
      by_cases h3 : pc.toNat - p.2.toNat < (unroll t).length
      · rw [if_pos h3, if_pos (by omega)]
        have : ¬ pc.toNat < p.2.toNat := by omega
        simp [List.getD, List.getElem?_append, this]
      · rw [if_neg h3, if_neg (by omega)]

theorem roll_wfT (vs : List Int) (hv : ∀ x ∈ vs, isV x = true) (h1 : 1 ≤ vs.length) (h2 : vs.length ≤ 1000) : wfT (rollL vs) = true := by
  obtain ⟨a, b, c⟩ := roll_ok vs.length vs rfl hv
  rw [wfT_iff]
  refine ⟨⟨a, by omega⟩, fun e => ?_⟩
  rw [e] at b
  simp [sumS] at b
  omega
theorem atT_roll (vs : List Int) (hv : ∀ x ∈ vs, isV x = true) (h1 : 1 ≤ vs.length) (h2 : vs.length ≤ 1000) (pc : Int) (hp : 0 ≤ pc) :
    atT (rollL vs) pc = if pc.toNat < vs.length then (vs.getD pc.toNat 0, 0) else (0, 1) := by
  obtain ⟨a, b, c⟩ := roll_ok vs.length vs rfl hv
  unfold atT
  rw [if_neg (by rw [roll_wfT vs hv h1 h2]; simp), if_neg (by omega), atS_unroll _ (-1) pc a hp, c]
theorem atT_roll_neg (vs : List Int) (hv : ∀ x ∈ vs, isV x = true) (h1 : 1 ≤ vs.length) (h2 : vs.length ≤ 1000) (pc : Int) (hp : pc < 0) : atT (rollL vs) pc = (0, 1) := by
  unfold atT
  rw [if_neg (by rw [roll_wfT vs hv h1 h2]; simp), if_pos hp]
end Go.Proofs.YthaganponmnanaaGreatDoor
