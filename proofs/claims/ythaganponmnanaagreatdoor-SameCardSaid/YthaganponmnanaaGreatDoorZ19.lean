/- The image of a program's code is well-formed; nothing is claimed of the program here. What stands at the pcs of an image, and the frames that they stand for, as plain data; nothing is claimed of the program here. Contract of the developers' table.Of: the table that has a value at each pc. -/
import Derived.Test.YthaganponmnanaaGreatDoorZ17
import Derived.Test.YthaganponmnanaaGreatDoorZ18
import Derived.Test.YthaganponmnanaaGreatDoorZ14
import Derived.Test.YthaganponmnanaaGreatDoorZ15
namespace Go.Proofs.YthaganponmnanaaGreatDoor
open Go.RowKit

/-- What the image tells of a function's code. -/
def entOfD (p : List FnD) (f : FnD) (c : CodeD) : EntD := ⟨f.name, f.file, rollL (c.places.map fun a => (opAt p a).line), rollL (c.places.map fun a => a.inst), c.tree⟩
def imgD (p : List FnD) (cs : List CodeD) : List EntD := List.zipWith (entOfD p) p cs

theorem heads_of {p : List FnD} (h : chk p = (0, 0, 0)) (f : Nat) (x : FnD) (hx : p[f]? = some x) : headB p f x = true := by
  unfold chk at h
  split at h
  · simp at h
  · have := (chkF_ok h f x hx).1
    rwa [Nat.zero_add] at this
theorem fnAt_nat {p : List FnD} {n : Int} (h0 : 0 ≤ n) (h1 : n < p.length) : p[n.toNat]? = some (fnAt p n) := by
  unfold fnAt
  rw [List.getElem?_eq_getElem (by omega)]; rfl
theorem layOk_of {p : List FnD} (h : Good p) : LayOk p where
  body := fun fn h0 h1 => by
    have := (h.fns _ _ (fnAt_nat h0 h1)).body
    intro e
    rw [e] at this
    simp at this
  call := fun fn h0 h1 o ho hc => by
    obtain ⟨i, hi⟩ := List.mem_iff_getElem?.1 ho
    have := ((h.fns _ _ (fnAt_nat h0 h1)).ops i o hi).call hc
    exact ⟨this.1, this.2.1⟩
theorem opAt_ok {p : List FnD} (h : Good p) {a : PlD} (ha : PlOk p a) : 1 ≤ (opAt p a).line ∧ (opAt p a).line ≤ 9999 := by
  obtain ⟨h1, h2, h3⟩ := ha
  have hg : (fnAt p a.fn).body[a.op.toNat]? = some (opAt p a) := by
    unfold opAt
    rw [List.getElem?_eq_getElem (by omega)]; rfl
  exact ((h.fns _ _ (fnAt_nat h1.1 h1.2)).ops _ _ hg).line

theorem plc_all {s : ByteArray} : ∀ {l : List ByteArray}, (∀ x ∈ l, eqB x s = false) → plc s l = l.length
  | [], _ => rfl
  | x :: r, h => by
    unfold plc
    rw [if_neg (by rw [h x (by simp)]; decide), plc_all (fun y hy => h y (by simp [hy]))]
    rfl
theorem mem_unroll {l : List (Int × Int)} {q : Int × Int} (h : q ∈ l) (h1 : 1 ≤ q.2) : q.1 ∈ unroll l := by
  unfold unroll
  rw [List.mem_flatMap]
  exact ⟨q, h, by rw [List.mem_replicate]; exact ⟨by omega, rfl⟩⟩
theorem wfN_pos : ∀ {l : List (Int × Int)} {b : Int}, wfN l b → ∀ q ∈ l, 1 ≤ q.2
  | [], _, _, q, hq => by simp at hq
  | x :: r, b, h, q, hq => by
    rcases List.mem_cons.1 hq with e | e
    · subst e; exact h.2.2.1
    · exact wfN_pos h.2.2.2 q e
theorem mem_of_unroll {l : List (Int × Int)} {v : Int} (h : v ∈ unroll l) : ∃ q ∈ l, q.1 = v := by
  unfold unroll at h
  rw [List.mem_flatMap] at h
  obtain ⟨q, hq, hv⟩ := h
  exact ⟨q, hq, (List.mem_replicate.1 hv).2.symm⟩
theorem most_spec : ∀ (l : List (Int × Int)) (n m : Int), n ≤ m → (∀ q ∈ l, q.1 ≤ m) → (n = m ∨ ∃ q ∈ l, q.1 = m) → l.foldl (fun n p => if n < p.1 then p.1 else n) n = m
  | [], n, m, _, _, h => by
    rcases h with h | ⟨q, hq, _⟩
    · exact h
    · simp at hq
  | x :: r, n, m, hn, hall, h => by
    rw [List.foldl_cons]
    have hx := hall x (by simp)
    by_cases hlt : n < x.1
    · rw [if_pos hlt]
      refine most_spec r x.1 m hx (fun q hq => hall q (by simp [hq])) ?_
      rcases h with h | ⟨q, hq, he⟩
      · omega
      · rcases List.mem_cons.1 hq with e | e
        · subst e; exact .inl he
        · exact .inr ⟨q, e, he⟩
    · rw [if_neg hlt]
      refine most_spec r n m hn (fun q hq => hall q (by simp [hq])) ?_
      rcases h with h | ⟨q, hq, he⟩
      · exact .inl h
      · rcases List.mem_cons.1 hq with e | e
        · subst e; exact .inl (by omega)
        · exact .inr ⟨q, e, he⟩

theorem GoodLy.pcs {p : List FnD} {r : Int} {s : LyD} (h : GoodLy p r s) : ∀ (i : Nat) (nd : Int × Int), s.tree[i]? = some nd → (i : Int) ≤ nd.2 ∧ nd.2 + 1 < s.places.length
  | 0, nd, hn => by
    obtain ⟨_, pc, a, b, e1, _, e3, _⟩ := h.node 0 nd hn
    have := (List.getElem?_eq_some_iff.1 e3).1
    omega
  | i + 1, nd, hn => by
    obtain ⟨_, pc, a, b, e1, _, e3, _⟩ := h.node (i + 1) nd hn
    have h3 := (List.getElem?_eq_some_iff.1 e3).1
    have hlt := (List.getElem?_eq_some_iff.1 hn).1
    obtain ⟨x, hx⟩ : ∃ x, s.tree[i]? = some x := ⟨_, List.getElem?_eq_getElem (by omega)⟩
    have ih := h.pcs i x hx
    have := h.inc i (i + 1) x nd (by omega) hx hn
    omega
theorem GoodLy.few {p : List FnD} {r : Int} {s : LyD} (h : GoodLy p r s) : s.tree.length ≤ s.places.length := by
  cases hl : s.tree.length with
  | zero => omega
  | succ n =>
    obtain ⟨x, hx⟩ : ∃ x, s.tree[n]? = some x := ⟨_, List.getElem?_eq_getElem (by omega)⟩
    have := h.pcs n x hx
    omega

theorem GoodLy.treeOk {p : List FnD} {r : Int} {s : LyD} (h : GoodLy p r s) : ∀ (tr : List (Int × Int)) (i : Nat), s.tree.drop i = tr → ∀ before : Int, (∀ x, s.tree[i]? = some x → before < x.2) →
    Proofs.YthaganponmnanaaGreatDoor.treeOk p.length (s.places.map fun a => a.inst) tr ((i : Int) + 1) before = true
  | [], _, _, _, _ => rfl
  | x :: t, i, ht, before, hb => by
    have hx : s.tree[i]? = some x := by
      have h2 : (s.tree.drop i)[0]? = some x := by rw [ht]; rfl
      simpa using h2
    have ht2 : s.tree.drop (i + 1) = t := by
      have h2 : (s.tree.drop i).drop 1 = t := by rw [ht]; rfl
      rw [List.drop_drop] at h2
      exact h2
    obtain ⟨h1, pc, a, b, e1, e2, e3, e4, e5, _⟩ := h.node i x hx
    have h3 := (List.getElem?_eq_some_iff.1 e3).1
    have hbx := hb x hx
    unfold Proofs.YthaganponmnanaaGreatDoor.treeOk
    rw [Bool.and_eq_true, Bool.and_eq_true]
    refine ⟨⟨by unfold withB; exact decide_eq_true h1, ?_⟩, ?_⟩
    · unfold pcB
      rw [Bool.and_eq_true, Bool.and_eq_true]
      have g1 : (s.places.map fun a => a.inst).getD x.2.toNat 0 = a.inst := by rw [e1, Int.toNat_natCast]; simp [List.getD, e2]
      have g2 : (s.places.map fun a => a.inst).getD (x.2.toNat + 1) 0 = b.inst := by rw [e1, Int.toNat_natCast]; simp [List.getD, e3]
      refine ⟨decide_eq_true ⟨hbx, by rw [List.length_map]; omega⟩, by rw [g1]; exact decide_eq_true (by omega), by rw [g2, e5]; simp⟩
    · have := h.treeOk t (i + 1) ht2 x.2 (fun y hy => h.inc i (i + 1) x y (by omega) hx hy)
      have e : ((i + 1 : Nat) : Int) + 1 = (i : Int) + 1 + 1 := by omega
      rw [e] at this
      exact this

theorem ent_ok {p : List FnD} (hc : chk p = (0, 0, 0)) {f : Nat} {x : FnD} (hx : p[f]? = some x) {room : Int} {c : CodeD} (hg : GoodLy p f ⟨0, c.places, c.tree⟩) (h1 : 1 ≤ c.places.length) (h2 : (c.places.length : Int) ≤ room) (hr : room ≤ 1000) :
    entOk p.length (entOfD p x c) ((p.take f).map fun y => y.name) room = true ∧ sumS (entOfD p x c).lines = c.places.length := by
  have hgd := good_of hc
  have hh := heads_of hc f x hx
  unfold headB at hh
  simp only [Bool.and_eq_true, Bool.not_eq_true'] at hh
  obtain ⟨hany, _, ⟨hw1, hw2⟩, _⟩ := hh
  have hpl : ∀ a ∈ c.places, PlOk p a := hg.pl
  have hfew := hg.few
  dsimp only at hfew
  have hv1 : ∀ v ∈ (c.places.map fun a => (opAt p a).line), isV v = true := fun v hv => by
    obtain ⟨a, ha, rfl⟩ := List.mem_map.1 hv
    have := opAt_ok hgd (hpl a ha)
    unfold isV
    exact decide_eq_true (by omega)
  have hv2 : ∀ v ∈ (c.places.map fun a => a.inst), isV v = true := fun v hv => by
    obtain ⟨a, ha, rfl⟩ := List.mem_map.1 hv
    obtain ⟨k, k1, k2, _⟩ := hg.inst a ha
    dsimp only at k2
    unfold isV
    exact decide_eq_true (by omega)
  obtain ⟨l1, l2, l3⟩ := roll_ok _ _ rfl hv1
  obtain ⟨m1, m2, m3⟩ := roll_ok _ _ rfl hv2
  rw [List.length_map] at l2 m2
  have hwt1 := roll_wfT _ hv1 (by rw [List.length_map]; exact h1) (by rw [List.length_map]; omega)
  have hwt2 := roll_wfT _ hv2 (by rw [List.length_map]; exact h1) (by rw [List.length_map]; omega)
  refine ⟨?_, l2⟩
  unfold entOk entOfD
  dsimp only
  simp only [Bool.and_eq_true]
  refine ⟨⟨?_, hw2⟩, ⟨⟨hwt1, hwt2⟩, ?_, ?_⟩, ?_, ?_⟩
  · unfold newB
    rw [hw1, plc_all (l := (p.take f).map fun y => y.name) (fun y hy => ?_)]
    · simp
    · obtain ⟨z, hz, rfl⟩ := List.mem_map.1 hy
      have := List.any_eq_false.1 hany z hz
      simpa using this
  · unfold linesB
    rw [Bool.and_eq_true]
    refine ⟨List.all_eq_true.2 fun q hq => ?_, decide_eq_true (by rw [l2]; exact h2)⟩
    have hm := mem_unroll hq (wfN_pos l1 q hq)
    rw [l3] at hm
    obtain ⟨a, ha, he⟩ := List.mem_map.1 hm
    have := opAt_ok hgd (hpl a ha)
    have hne : ¬ q.1 = 0 := by omega
    simpa using hne
  · rw [l2, m2]; simp
  · have : mostT (rollL (c.places.map fun a => a.inst)) = c.tree.length := by
      refine most_spec _ 0 _ (by omega) (fun q hq => ?_) ?_
      · have hm := mem_unroll hq (wfN_pos m1 q hq)
        rw [m3] at hm
        obtain ⟨a, ha, he⟩ := List.mem_map.1 hm
        obtain ⟨k, k1, k2, _⟩ := hg.inst a ha
        dsimp only at k2
        omega
      · cases hl : c.tree.length with
        | zero => left; rfl
        | succ n =>
          right
          obtain ⟨nd, hnd⟩ : ∃ x, c.tree[n]? = some x := ⟨_, List.getElem?_eq_getElem (by omega)⟩
          obtain ⟨_, pc, a, b, e1, e2, e3, e4, e5, _⟩ := hg.node n nd hnd
          have hb : b.inst ∈ unroll (rollL (c.places.map fun a => a.inst)) := by
            rw [m3]
            exact List.mem_map.2 ⟨b, List.mem_of_getElem? e3, rfl⟩
          obtain ⟨q, hq, he⟩ := mem_of_unroll hb
          exact ⟨q, hq, by rw [he, e5]; omega⟩
    rw [this]; simp
  · rw [m3]
    exact hg.treeOk c.tree 0 rfl (-1) (fun y hy => by have := hg.pcs 0 y hy; omega)

theorem layAll_img {p : List FnD} (hc : chk p = (0, 0, 0)) (bud : Int) : ∀ (n fn : Nat) (room : Int) (l cs : List CodeD), fn + n = p.length → 0 ≤ room → room ≤ 1000 → layAll p bud n fn room l = some cs →
    ∃ cs', cs = l ++ cs' ∧ cs'.length = n ∧ wfIF p.length (List.zipWith (entOfD p) (p.drop fn) cs') ((p.take fn).map fun y => y.name) room = true ∧
      (∀ (i : Nat) (c : CodeD), cs'[i]? = some c → GoodLy p ((fn + i : Nat) : Int) ⟨0, c.places, c.tree⟩ ∧ (∀ m, m ≤ c.tree.length → Full p ((fn + i : Nat) : Int) ⟨0, c.places, c.tree⟩ m) ∧ c.first = 1000 - room + ((cs'.take i).map fun c => (c.places.length : Int)).sum)
  | 0, fn, room, l, cs, hn, _, _, h => by
    have : l = cs := Option.some.inj h
    refine ⟨[], by rw [this]; simp, rfl, ?_, fun i c h => by simp at h⟩
    have : p.drop fn = [] := List.drop_of_length_le (by omega)
    rw [this]
    rfl
  | n + 1, fn, room, l, cs, hn, h0, h1, h => by
    unfold layAll at h
    split at h
    · cases h
    · next hr =>
      have hgd := good_of hc
      have hlen := hgd.len
      obtain ⟨x, hx⟩ : ∃ x, p[fn]? = some x := ⟨_, List.getElem?_eq_getElem (by omega)⟩
      obtain ⟨g1, g2, g3⟩ := layI_good (r := fn) (bud := bud) (layOk_of hgd) 12 [] (by have := freeN_le [] p.length; omega) fn ⟨room, [], []⟩ (by omega) (by omega) (by simp) (.inl ⟨rfl, rfl, rfl⟩) (by omega)
      obtain ⟨r1, r2⟩ := layI_room p bud 12 fn [] ⟨room, [], []⟩ h0
      obtain ⟨s, hs⟩ : ∃ s, s = layI p bud 12 fn [] ⟨room, [], []⟩ := ⟨_, rfl⟩
      rw [← hs] at g1 g2 g3 r1 r2 hr h
      dsimp only at r1 r2
      have hsz : (sizI p bud 12 fn [] : Int) ≤ room := Int.not_lt.1 fun hl => hr (r2 hl)
      obtain ⟨q1, q2⟩ := r1 hsz
      rw [List.length_nil, Nat.zero_add] at q2
      have hne : 1 ≤ s.places.length := by
        obtain ⟨a, ha, _⟩ := g3 0 (by simp) (by omega) fn (by unfold fnK; rw [if_pos rfl]) 0 (by
          have := layOk_of hgd
          exact List.length_pos_iff.2 (this.body fn (by omega) (by omega)))
        exact List.length_pos_iff.2 (List.ne_nil_of_mem ha)
      have hg' : GoodLy p fn ⟨0, s.places, s.tree⟩ := ⟨g1.node, g1.inc, g1.inst, g1.pl⟩
      obtain ⟨o1, o2⟩ := ent_ok hc hx (c := ⟨1000 - room, s.places, s.tree⟩) (room := room) hg' hne (by dsimp only; omega) h1
      obtain ⟨cs', e1, e2, e3, e4⟩ := layAll_img hc bud n (fn + 1) s.room _ cs (by omega) (by omega) (by omega) h
      refine ⟨⟨1000 - room, s.places, s.tree⟩ :: cs', by rw [e1]; simp, by simp [e2], ?_, fun i c hi => ?_⟩
      · have hd : p.drop fn = x :: p.drop (fn + 1) := by
          obtain ⟨hlt, he⟩ := List.getElem?_eq_some_iff.1 hx
          rw [List.drop_eq_getElem_cons hlt, he]
        rw [hd, List.zipWith_cons_cons]
        unfold wfIF
        rw [Bool.and_eq_true]
        refine ⟨o1, ?_⟩
        have ht : (p.take fn).map (fun y => y.name) ++ [x.name] = (p.take (fn + 1)).map fun y => y.name := by
          obtain ⟨hlt, he⟩ := List.getElem?_eq_some_iff.1 hx
          rw [List.take_succ_eq_append_getElem hlt, he, List.map_append]; rfl
        show wfIF _ _ ((p.take fn).map (fun y => y.name) ++ [x.name]) (room - sumS (entOfD p x ⟨1000 - room, s.places, s.tree⟩).lines) = true
        rw [ht, o2]
        dsimp only
        have : room - (s.places.length : Int) = s.room := by omega
        rw [this]
        exact e3
      · match i, hi with
        | 0, hi =>
          simp at hi
          subst hi
          refine ⟨hg', fun m hm => ?_, by simp⟩
          exact g3 m (by simp) hm
        | i + 1, hi =>
          obtain ⟨k1, k2, k3⟩ := e4 i c (by simpa using hi)
          have ee : ((fn + 1 + i : Nat) : Int) = ((fn + (i + 1) : Nat) : Int) := by omega
          rw [ee] at k1 k2
          refine ⟨k1, k2, ?_⟩
          rw [k3, List.take_succ_cons, List.map_cons, List.sum_cons]
          dsimp only
          omega

theorem img_wf {p : List FnD} (hc : chk p = (0, 0, 0)) {bud : Int} {cs : List CodeD} (h : codesD p bud = some cs) : wfI (imgD p cs) = true ∧ cs.length = p.length ∧
    ∀ (i : Nat) (c : CodeD), cs[i]? = some c → GoodLy p i ⟨0, c.places, c.tree⟩ ∧ (∀ m, m ≤ c.tree.length → Full p i ⟨0, c.places, c.tree⟩ m) ∧ c.first = ((cs.take i).map fun c => (c.places.length : Int)).sum := by
  obtain ⟨cs', e1, e2, e3, e4⟩ := layAll_img hc bud p.length 0 1000 [] cs (by omega) (by decide) (by decide) h
  rw [List.nil_append] at e1
  subst e1
  rw [List.drop_zero] at e3
  have hlen := (good_of hc).len
  have hl : (imgD p cs).length = p.length := by unfold imgD; rw [List.length_zipWith, e2, Nat.min_self]
  refine ⟨?_, e2, fun i c hi => ?_⟩
  · unfold wfI
    rw [hl, Bool.and_eq_true]
    exact ⟨decide_eq_true (by omega), e3⟩
  · have := e4 i c hi
    rw [Nat.zero_add] at this
    exact ⟨this.1, this.2.1, by rw [this.2.2]; omega⟩
end Go.Proofs.YthaganponmnanaaGreatDoor
namespace Go.Proofs.YthaganponmnanaaGreatDoor
open Go.RowKit

structure PlcD where
  fn : Int
  first : Int
  line : Int
  inst : Int
def noP : PlcD := ⟨0, 0, 0, 0⟩
def noE : EntD := ⟨⟨#[]⟩, ⟨#[]⟩, [], [], []⟩
def plcE (fn first : Int) (x : EntD) : List PlcD := List.zipWith (fun a b => ⟨fn, first, a, b⟩) (unroll x.lines) (unroll x.index)
def plcF : List EntD → Nat → List PlcD → List PlcD
  | [], _, acc => acc
  | x :: r, fn, acc => plcF r (fn + 1) (acc ++ plcE fn acc.length x)
def plcD (L : List EntD) : List PlcD := plcF L 0 []

/-- What is known of an entry of a well-formed image of n functions. -/
structure EntG (n : Nat) (x : EntD) : Prop where
  wl : wfS x.lines (-1) 1000 = true
  wi : wfS x.index (-1) 1000 = true
  len : (unroll x.index).length = (unroll x.lines).length
  most : (unroll x.lines).length ≤ 1000
  sum : ((unroll x.lines).length : Int) = sumS x.lines
  inst : ∀ k ∈ unroll x.index, 0 ≤ k ∧ k ≤ x.tree.length
  node : ∀ (t : Nat) (nd : Int × Int), x.tree[t]? = some nd → (0 ≤ nd.1 ∧ nd.1 < n) ∧ (0 ≤ nd.2 ∧ nd.2 < (unroll x.lines).length) ∧ (unroll x.index).getD nd.2.toNat 0 ≤ t
  line : ∀ v ∈ unroll x.lines, 1 ≤ v ∧ v ≤ 9999
  name : x.name.size ≤ 20
  file : x.file.size ≤ 20
  trees : x.tree.length ≤ 9999

theorem mostT_top {l : List (Int × Int)} {q : Int × Int} (h : q ∈ l) : q.1 ≤ mostT l := by
  have key : ∀ (l : List (Int × Int)) (n : Int), n ≤ l.foldl (fun n p => if n < p.1 then p.1 else n) n ∧ ∀ q ∈ l, q.1 ≤ l.foldl (fun n p => if n < p.1 then p.1 else n) n := by
    intro l
    induction l with
    | nil => intro n; exact ⟨Int.le_refl _, fun q hq => by cases hq⟩
    | cons p t ih =>
      intro n
      obtain ⟨h1, h2⟩ := ih (if n < p.1 then p.1 else n)
      rw [List.foldl_cons]
      refine ⟨?_, fun q hq => ?_⟩
      · split at h1 <;> rename_i hc <;> simp only [hc, if_true, if_false] at h1 ⊢ <;> omega
      · rcases List.mem_cons.1 hq with rfl | hq
        · split at h1 <;> rename_i hc <;> simp only [hc, if_true, if_false] at h1 ⊢ <;> omega
        · exact h2 q hq
  exact (key l 0).2 q h
theorem wfS_vals {l : List (Int × Int)} (h : wfS l (-1) 1000 = true) : ∀ q ∈ l, isV q.1 = true := fun q hq => by
  obtain ⟨i, hi, rfl⟩ := List.getElem_of_mem hq
  have g := (sum_take (l := l) (-1) 1000 i h (by omega) hi).2.2.2.2
  simpa [List.getD, hi] using g
theorem entG_of {n : Nat} {x : EntD} {names : List ByteArray} {room : Int} (h : entOk n x names room = true) : EntG n x := by
  obtain ⟨p1, p2, p3, p4, p5, p6, p7, p8⟩ := entOk_parts h
  have hwl : wfS x.lines (-1) 1000 = true := by unfold wfT at p3; rw [Bool.and_eq_true] at p3; exact p3.1
  have hwi : wfS x.index (-1) 1000 = true := by unfold wfT at p4; rw [Bool.and_eq_true] at p4; exact p4.1
  have hul := unroll_all_len hwl
  have hui := unroll_all_len hwi
  have hlen : (unroll x.index).length = (unroll x.lines).length := by omega
  refine ⟨hwl, hwi, hlen, by omega, hul.1, fun k hk => ?_, fun t nd ht => ?_, fun v hv => ?_, ?_, wordB_size p2, by have := mostT_le hwi; omega⟩
  · obtain ⟨q, hq, rfl⟩ := mem_of_unroll hk
    have h1 := mostT_top hq
    have h2 := of_decide_eq_true (wfS_vals hwi q hq)
    omega
  · have hlt := (List.getElem?_eq_some_iff.1 ht).1
    have hg : x.tree.getD t (0, 0) = nd := by rw [List.getD, ht]; rfl
    obtain ⟨q1, q2⟩ := treeOk_at n (unroll x.index) x.tree t 1 (-1) p8 hlt
    have q3 := treeOk_nn n (unroll x.index) x.tree 1 (-1) (by omega) p8 t hlt
    rw [hg] at q1 q2 q3
    have q4 := withB_true q1
    unfold pcB at q2
    simp only [Bool.and_eq_true, decide_eq_true_eq] at q2
    exact ⟨q4, ⟨q3, by omega⟩, by omega⟩
  · obtain ⟨q, hq, rfl⟩ := mem_of_unroll hv
    have h2 := of_decide_eq_true (wfS_vals hwl q hq)
    unfold linesB at p5
    rw [Bool.and_eq_true, List.all_eq_true] at p5
    have h3 := p5.1 q hq
    have h4 : q.1 ≠ 0 := by simpa using h3
    omega
  · unfold newB at p1; rw [Bool.and_eq_true] at p1; exact wordB_size p1.1
theorem wfI_entG {L : List EntD} (h : wfI L = true) : ∀ x ∈ L, EntG L.length x := fun x hx => by
  unfold wfI at h
  rw [Bool.and_eq_true] at h
  obtain ⟨k, hk⟩ := List.mem_iff_getElem?.1 hx
  obtain ⟨names, room, he⟩ := wfIF_at h.2 hk
  exact entG_of he

/-- What stands at each pc. -/
def PlcOk (L : List EntD) (P : List PlcD) : Prop := ∀ (pc : Nat) (a : PlcD), P[pc]? = some a → ∃ (f s : Nat) (x : EntD), a.fn = f ∧ a.first = s ∧ L[f]? = some x ∧ s ≤ pc ∧ pc < s + (unroll x.lines).length ∧
  ∀ j, j < (unroll x.lines).length → P[s + j]? = some ⟨f, s, (unroll x.lines).getD j 0, (unroll x.index).getD j 0⟩
theorem plcE_len {fn first : Int} {n : Nat} {x : EntD} (h : EntG n x) : (plcE fn first x).length = (unroll x.lines).length := by
  unfold plcE
  rw [List.length_zipWith, h.len, Nat.min_self]
theorem plcE_at {fn first : Int} {n : Nat} {x : EntD} (h : EntG n x) {j : Nat} (hj : j < (unroll x.lines).length) : (plcE fn first x)[j]? = some ⟨fn, first, (unroll x.lines).getD j 0, (unroll x.index).getD j 0⟩ := by
  unfold plcE
  have hj2 : j < (unroll x.index).length := by rw [h.len]; exact hj
  rw [List.getElem?_zipWith, List.getElem?_eq_getElem hj, List.getElem?_eq_getElem hj2]
  simp [List.getD, hj, hj2]
theorem plcOk_snoc {L : List EntD} {P : List PlcD} {n fn : Nat} {x : EntD} (h : PlcOk L P) (hx : L[fn]? = some x) (hg : EntG n x) : PlcOk L (P ++ plcE fn P.length x) := fun pc a ha => by
  rcases Nat.lt_or_ge pc P.length with hp | hp
  · rw [List.getElem?_append_left hp] at ha
    obtain ⟨f, s, y, h1, h2, h3, h4, h5, h6⟩ := h pc a ha
    exact ⟨f, s, y, h1, h2, h3, h4, h5, fun j hj => getElem?_old (h6 j hj) _⟩
  · rw [List.getElem?_append_right hp] at ha
    have hlt : pc - P.length < (unroll x.lines).length := by
      have := (List.getElem?_eq_some_iff.1 ha).1
      rwa [plcE_len hg] at this
    rw [plcE_at hg hlt] at ha
    cases ha
    refine ⟨fn, P.length, x, rfl, rfl, hx, hp, by omega, fun j hj => ?_⟩
    rw [List.getElem?_append_right (by omega), show P.length + j - P.length = j by omega]
    exact plcE_at hg hj
theorem plcF_ok {L : List EntD} {n : Nat} : ∀ (r : List EntD) (fn : Nat) (acc : List PlcD), L.drop fn = r → (∀ x ∈ r, EntG n x) → PlcOk L acc → PlcOk L (plcF r fn acc)
  | [], _, _, _, _, h => h
  | x :: r, fn, acc, hd, hg, h => by
    have hx : L[fn]? = some x := by
      have h0 : (L.drop fn)[0]? = some x := by rw [hd]; rfl
      simpa using h0
    have hd' : L.drop (fn + 1) = r := by
      have := congrArg List.tail hd
      simpa using this
    exact plcF_ok r (fn + 1) _ hd' (fun y hy => hg y (List.mem_cons_of_mem _ hy)) (plcOk_snoc h hx (hg x (List.mem_cons_self ..)))
theorem plcD_ok {L : List EntD} {n : Nat} (hg : ∀ x ∈ L, EntG n x) : PlcOk L (plcD L) := plcF_ok L 0 [] rfl hg (fun pc a h => by simp at h)
theorem plcF_len {n : Nat} : ∀ (r : List EntD) (fn : Nat) (acc : List PlcD), (∀ x ∈ r, EntG n x) → (plcF r fn acc).length = acc.length + (r.map fun x => (unroll x.lines).length).sum
  | [], _, _, _ => rfl
  | x :: r, fn, acc, hg => by
    show (plcF r (fn + 1) _).length = _
    rw [plcF_len r (fn + 1) _ (fun y hy => hg y (List.mem_cons_of_mem _ hy)), List.length_append, plcE_len (hg x (List.mem_cons_self ..)), List.map_cons, List.sum_cons]
    omega

/-- In whose code a pc is. -/
def ofD : List EntD → Int → Nat → Int
  | [], _, _ => -1
  | x :: r, pc, f => if pc < sumS x.lines then f else ofD r (pc - sumS x.lines) (f + 1)
theorem plcF_of {n : Nat} : ∀ (r : List EntD) (fn : Nat) (acc : List PlcD) (pc : Nat) (a : PlcD), (∀ x ∈ r, EntG n x) → acc.length ≤ pc → (plcF r fn acc)[pc]? = some a → ofD r ((pc : Int) - acc.length) fn = a.fn
  | [], _, acc, pc, a, _, hp, h => by
    have := (List.getElem?_eq_some_iff.1 (show acc[pc]? = some a from h)).1
    omega
  | x :: r, fn, acc, pc, a, hg, hp, h => by
    have hx := hg x (List.mem_cons_self ..)
    have hs := hx.sum
    have h' : (plcF r (fn + 1) (acc ++ plcE fn acc.length x))[pc]? = some a := h
    have hl : (acc ++ plcE fn acc.length x).length = acc.length + (unroll x.lines).length := by rw [List.length_append, plcE_len hx]
    unfold ofD
    by_cases hc : (pc : Int) - acc.length < sumS x.lines
    · rw [if_pos hc]
      -- it is one of x
      have hold : ∀ (r : List EntD) (fn : Nat) (acc : List PlcD) (pc : Nat), pc < acc.length → (plcF r fn acc)[pc]? = acc[pc]? := by
        intro r
        induction r with
        | nil => intro _ _ _ _; rfl
        | cons y r ih =>
          intro fn acc pc hp
          show (plcF r (fn + 1) _)[pc]? = _
          rw [ih (fn + 1) _ pc (by rw [List.length_append]; omega), List.getElem?_append_left hp]
      rw [hold r (fn + 1) _ pc (by omega), List.getElem?_append_right hp, plcE_at hx (by omega)] at h'
      cases h'
      rfl
    · rw [if_neg hc]
      have := plcF_of r (fn + 1) _ pc a (fun y hy => hg y (List.mem_cons_of_mem _ hy)) (by omega) h'
      rw [hl] at this
      rw [← this]
      congr 1
      omega

/-- The frames of a pc: those of the Calls that were inlined, and that of the function in whose code it is. -/
def frs (L : List EntD) (P : List PlcD) (own : EntD) : Nat → PlcD → List FrameD → List FrameD
  | 0, a, acc => acc ++ [⟨own.name, own.file, a.line⟩]
  | f + 1, a, acc => if a.inst ≤ 0 then acc ++ [⟨own.name, own.file, a.line⟩] else
      frs L P own f (P.getD (a.first + (own.tree.getD (a.inst - 1).toNat (0, 0)).2).toNat noP) (acc ++ [⟨(L.getD (own.tree.getD (a.inst - 1).toNat (0, 0)).1.toNat noE).name, (L.getD (own.tree.getD (a.inst - 1).toNat (0, 0)).1.toNat noE).file, a.line⟩])
def frsD (L : List EntD) (P : List PlcD) (pc : Nat) : List FrameD := frs L P (L.getD (P.getD pc noP).fn.toNat noE) (P.getD pc noP).inst.toNat (P.getD pc noP) []
theorem frs_zero {L : List EntD} {P : List PlcD} {own : EntD} {a : PlcD} (h : a.inst ≤ 0) (f : Nat) (acc : List FrameD) : frs L P own f a acc = acc ++ [⟨own.name, own.file, a.line⟩] := by
  cases f with
  | zero => rfl
  | succ f => unfold frs; rw [if_pos h]

/-- Does a list of pcs tell of places, of n that there are? -/
def pcsB (n : Int) : List Int → Nat → Bool
  | [], _ => true
  | pc :: r, k => decide ((if k = 0 then 0 else 1) ≤ pc ∧ pc < n + (if k = 0 then 0 else 1)) && pcsB n r (k + 1)
def symB (n : Int) (pcs : List Int) : Bool := decide (pcs.length ≤ 20) && pcsB n pcs 0
def symF (L : List EntD) (P : List PlcD) : List Int → Nat → List FrameD → List FrameD
  | [], _, acc => acc
  | pc :: r, k, acc => symF L P r (k + 1) (acc ++ frsD L P (pc - (if k = 0 then 0 else 1)).toNat)
end Go.Proofs.YthaganponmnanaaGreatDoor
namespace Go.Proofs.YthaganponmnanaaGreatDoor
open Go.RowKit

set_option maxHeartbeats 4000000 in
set_option maxRecDepth 100000 in
theorem tOf_any (a : Option Addr) (cap : Nat) (vs : List Int) (w : World) (hr : Rd .i64 w a vs.length cap vs) (h1000 : vs.length ≤ 1000) :
    Calls Tryz.prog 50 #[.slice a vs.length cap] w fun e w' => ∃ a' cap', e = .returned (.slice a' (rollL vs).length cap') ∧
      w'.ownsRow w.heap.size 150 2 (.slice a' (rollL vs).length cap') (rollL vs).length (flat (rollL vs)) ∧ Below w.heap.size w w' := by
  have HR := hid hr
  have hmax := hr.hmax
  have hcap := hr.hcap
  unfold maxLen at hmax
  obtain ⟨len, hlen⟩ : ∃ v, v = vs.length := ⟨_, rfl⟩
  rw [← hlen] at hcap h1000 HR ⊢
  have HL := hid hlen
  clear hlen hr
  obtain ⟨i0, hi, hz0, hz1, hz2⟩ := info_parts Tryz.infoSpan
  go_enter Tryz.func50, Tryz.ntmps50
  go_wp2
  go_loopw [3, 9] (fun lv i wr => ∃ k : Nat, i = .int .i64 k ∧ k ≤ len ∧ wr.ownsRow w.heap.size 150 2 lv (rollL (vs.take k)).length (flat (rollL (vs.take k))) ∧ Below w.heap.size w wr) (fun _ i _ => len - (intOf i).toNat)
  case atStart => exact ⟨0, rfl, by omega, World.ownsRow_nil _ _ _ _, Below.refl _ _⟩
  case round =>
    obtain ⟨k, rfl, hk, hown, hbel⟩ := hrel
    have hsz := hbel.size
    by_cases hlt : k < len
    · have hlt' : (k : Int) < (len : Int) := by omega
      obtain ⟨b0, off, rfl, hc⟩ := (HR.out.below hbel (Nat.le_refl _)).cell k hlt
      have hts := take_snoc vs k (by rw [← HL.out]; exact hlt)
      have hb0 := World.block_lt_of_cell? wr _ hc
      simp only at hb0
      have hnx : rollL (vs.take (k + 1)) = rollStep (rollL (vs.take k)) (vs.getD k 0) := by rw [hts, rollL_snoc]
      obtain ⟨x, hx⟩ : ∃ x, x = vs.getD k 0 := ⟨_, rfl⟩
      rw [← hx] at hc hnx
      clear hx hts
      have HBX := hid hbel
      by_cases hk0 : k = 0
      · subst hk0
        rw [Nat.add_zero] at hc
        have hr0 : rollL (vs.take 0) = [] := rfl
        rw [hr0] at hown hnx
        have HN : Hid (rollL (vs.take (0 + 1)) = [(x, 1)]) := by rw [hnx]; exact rollStep_nil x
        obtain ⟨la, lcap, rfl⟩ : ∃ la lcap, u3 = .slice la 0 lcap := by
          rcases hown.2 with ⟨h1, h2⟩ | ⟨g, c', cur, h1, _⟩
          · exact ⟨none, 0, h1⟩
          · exact ⟨_, _, h1⟩
        have hown0 : wr.ownsRow w.heap.size 150 2 (.slice la 0 lcap) 0 [] := hown
        have HOW := hid hown0
        clear hown hown0 hnx hr0 hbel
        go_wp2_with (at_builtin; refine wpList_append_own _ rfl (.tmp 37) (.tmp 40) 88 rfl w.heap.size 150 i0 (.agg #[.int .i64 0, .int .i64 0]) 2 16 Tryz.underlying88 hi hz0 hz1 hz2 rfl (by decide) _ _ _ rfl (HOW.out.alloc _) ⟨wr.heap.size, 0, none⟩ 1 1 [.int .i64 x, .int .i64 1] rfl rfl (two_newP _ _ _ _) (two_oneP _ _) (by unfold maxLen; omega) (by omega) (by simp; omega) ?_)
        intro v' w2 hown2 hgrow _
        have hbel2 : Below w.heap.size w w2 := (HBX.out.alloc hsz _).grown hgrow (by simp; omega) (fun k hk => (HOW.out.lt k hk).1)
        have HO := hid hown2
        have HB := hid hbel2
        clear hown2 hgrow HOW hc hbel2
        go_wp2
        go_roundw
        case rel =>
          refine ⟨1, rfl, by omega, ?_, HB.out⟩
          rw [HN.out]
          exact HO.out
        case measure => simp [intOf]; omega
      · obtain ⟨k', rfl⟩ : ∃ k', k = k' + 1 := ⟨k - 1, by omega⟩
        obtain ⟨pre, m, hroll, hm1, hm2, hm3⟩ := roll_last k' (vs.take (k' + 1)) (by rw [List.length_take, ← HL.out]; omega)
        obtain ⟨y, hy⟩ : ∃ y, y = (vs.take (k' + 1)).getD k' 0 := ⟨_, rfl⟩
        rw [← hy] at hroll
        clear hy
        rw [hroll, List.length_append] at hown
        rw [hroll] at hnx
        obtain ⟨n, hn⟩ : ∃ n, n = pre.length := ⟨_, rfl⟩
        have HNL := hid hn
        have hown0 : wr.ownsRow w.heap.size 150 2 u3 (n + 1) (flat (pre ++ [(y, m)])) := by rw [hn]; exact hown
        have hn3 : n ≤ 1000 := by omega
        clear hown hn hroll
        obtain ⟨n1, hn1⟩ : ∃ v, v = n + 1 := ⟨_, rfl⟩
        rw [← hn1] at hown0
        obtain ⟨g, gcap, rfl, hg1, hg2, _⟩ := owns_some hown0 (by omega)
        have hcy := hown0.cellAt (n * 2) (by omega)
        have hfy : (flat (pre ++ [(y, m)]))[n * 2]? = some (.int .i64 y) := by
          rw [flat_snoc, List.getElem?_append_right (by rw [flat_len, HNL.out]; omega), flat_len, HNL.out]
          simp
        rw [hfy] at hcy
        have hcm := hown0.cellAt (n * 2 + 1) (by omega)
        rw [flat_last pre y m n HNL.out] at hcm
        have ewn : IntKind.i64.wrap ((n1 : Int) - 1) = (n : Int) := by rw [IntKind.wrap_i64]; omega
        have ewm : IntKind.i64.wrap (m + 1) = m + 1 := by rw [IntKind.wrap_i64]; omega
        have hnn1 : (n : Int) < (n1 : Int) := by omega
        by_cases hxy : y = x
        · subst hxy
          have HN2 : Hid (rollL (vs.take (k' + 1 + 1)) = pre ++ [(y, m + 1)]) := by rw [hnx]; exact rollStep_same _ _ _
          have hfz := hown0.frozenAt (n * 2 + 1)
          have hst := (hown0.stored (n * 2 + 1) (.int .i64 (m + 1))).1
          rw [flat_set pre y m n HNL.out] at hst
          have HST := hid hst
          have HB : Hid (Below w.heap.size w (wr.setCell ⟨g, n * 2 + 1, none⟩ (.int .i64 (m + 1)))) := hbel.setCell (by exact hg1) _
          have HN1 := hid hn1
          clear hst hown0 hfy hnx hbel hn1
          go_wp2
          go_roundw
          case rel =>
            refine ⟨k' + 1 + 1, by go_num, by omega, ?_, HB.out⟩
            rw [HN2.out, List.length_append, ← HNL.out]
            show World.ownsRow _ _ _ _ _ (n + 1) _
            rw [← HN1.out]
            exact HST.out
          case measure => simp [intOf]; omega
        · have hxy' : (y == x) = false := by simpa using hxy
          have HN2 : Hid (rollL (vs.take (k' + 1 + 1)) = pre ++ [(y, m)] ++ [(x, 1)]) := by rw [hnx]; exact rollStep_other _ _ _ _ hxy
          have HOW := hid hown0
          have HN1 := hid hn1
          have hn12 : n1 ≤ 1001 := by omega
          clear hown0 hfy hnx hbel hn1 hxy hcm
          go_wp2_with (at_builtin; refine wpList_append_own _ rfl (.tmp 37) (.tmp 40) 88 rfl w.heap.size 150 i0 (.agg #[.int .i64 0, .int .i64 0]) 2 16 Tryz.underlying88 hi hz0 hz1 hz2 rfl (by decide) _ _ _ rfl (HOW.out.alloc _) ⟨wr.heap.size, 0, none⟩ 1 1 [.int .i64 x, .int .i64 1] rfl rfl (two_newP _ _ _ _) (two_oneP _ _) (by unfold maxLen; omega) (by omega) (by simp; omega) ?_)
          intro v' w2 hown2 hgrow _
          have hbel2 : Below w.heap.size w w2 := (HBX.out.alloc hsz _).grown hgrow (by simp; omega) (fun k hk => (HOW.out.lt k hk).1)
          have HO := hid hown2
          have HB := hid hbel2
          clear hown2 hgrow HOW hc hbel2 hcy
          go_wp2
          go_roundw
          case rel =>
            refine ⟨k' + 1 + 1, by go_num, by omega, ?_, HB.out⟩
            rw [HN2.out, flat_snoc, List.length_append, List.length_append, ← HNL.out]
            show World.ownsRow _ _ _ _ _ (n + 1 + 1) _
            rw [← HN1.out]
            exact HO.out
          case measure => simp [intOf]; omega
    · have hk' : k = len := by omega
      subst hk'
      have hlt' : decide ((k : Int) < (k : Int)) = false := by simp
      have HN : vs.take k = vs := List.take_of_length_le (by rw [HL.out]; exact Nat.le_refl _)
      rw [HN] at hown
      obtain ⟨n, hn⟩ : ∃ v, v = (rollL vs).length := ⟨_, rfl⟩
      rw [← hn] at hown
      obtain ⟨la, lcap, rfl⟩ : ∃ la lcap, u3 = .slice la n lcap := by
        rcases hown.2 with ⟨h1, h2⟩ | ⟨g, c', cur, h1, _⟩
        · exact ⟨none, 0, by rw [h1, h2]⟩
        · exact ⟨_, _, h1⟩
      have HOW := hid hown
      have HNN := hid hn
      clear hown hn HN
      go_wp2
      exact bodyPost_ret (v := .slice la n lcap) (by simp [results, Tryz.results50, go_sem]) rfl ⟨la, lcap, by rw [← HNN.out], by rw [← HNN.out]; exact HOW.out, hbel⟩
end Go.Proofs.YthaganponmnanaaGreatDoor
