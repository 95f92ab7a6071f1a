/- Rows that are readable whatever becomes of some blocks, and that a program made of fit heads and fit ops is well-formed. What is told of the image of a program: its functions, in their order, each with as many pcs as ops at least; by no budget there is always room; nothing is claimed of the program here. Contracts of machine.Trace, unfold.Trace and unfold.Print, where all is well. -/
import Derived.Test.YtebjndcokkefhaaDoorZ43
import Derived.Test.YtebjndcokkefhaaDoorT3
import Derived.Test.YtebjndcokkefhaaDoorZ33
import Derived.Test.YtebjndcokkefhaaDoorZ34
namespace Go.Proofs.YtebjndcokkefhaaDoor
open Go.RowKit

/-- Elements of so many cells, readable whatever becomes of the blocks L. -/
def RdBut {α : Type} (size : Nat) (R : World → List Value → α → Prop) (L : Nat → Prop) (w : World) (css : List (List Value)) (l : List α) : Prop :=
  css.length = l.length ∧ ∀ (i : Nat) (cs : List Value) (x : α), css[i]? = some cs → l[i]? = some x → cs.length = size ∧ ∀ W : World, (∀ b, b < w.heap.size → ¬ L b → W.heap[b]? = w.heap[b]?) → R W cs x
theorem RdBut.nil {α : Type} {size : Nat} {R : World → List Value → α → Prop} {L : Nat → Prop} {w : World} : RdBut size R L w [] [] := ⟨rfl, fun i cs x h => by simp at h⟩
theorem RdBut.same {α : Type} {size : Nat} {R : World → List Value → α → Prop} {L L' : Nat → Prop} {w w' : World} {css : List (List Value)} {l : List α} (h : RdBut size R L w css l) (hs : ∀ b, b < w.heap.size → ¬ L b → b < w'.heap.size ∧ ¬ L' b ∧ w'.heap[b]? = w.heap[b]?) : RdBut size R L' w' css l :=
  ⟨h.1, fun i cs x h1 h2 => ⟨(h.2 i cs x h1 h2).1, fun W hW => (h.2 i cs x h1 h2).2 W (fun b hb hne => (hW b (hs b hb hne).1 (hs b hb hne).2.1).trans (hs b hb hne).2.2)⟩⟩
theorem RdBut.snoc {α : Type} {size : Nat} {R : World → List Value → α → Prop} {L : Nat → Prop} {w : World} {css : List (List Value)} {l : List α} {cs : List Value} {x : α} (h : RdBut size R L w css l) (h5 : cs.length = size) (hx : ∀ W : World, (∀ b, b < w.heap.size → ¬ L b → W.heap[b]? = w.heap[b]?) → R W cs x) : RdBut size R L w (css ++ [cs]) (l ++ [x]) := by
  refine ⟨by simp [h.1], fun i c y h1 h2 => ?_⟩
  rcases Nat.lt_or_ge i css.length with hi | hi
  · rw [List.getElem?_append_left hi] at h1
    rw [List.getElem?_append_left (by rw [← h.1]; exact hi)] at h2
    exact h.2 i c y h1 h2
  · rw [List.getElem?_append_right hi] at h1
    rw [List.getElem?_append_right (by rw [← h.1]; exact hi), ← h.1] at h2
    cases hj : i - css.length with
    | zero => rw [hj] at h1 h2; simp at h1 h2; subst h1; subst h2; exact ⟨h5, hx⟩
    | succ j => rw [hj] at h1; simp at h1
theorem RdBut.all {α : Type} {size : Nat} {R : World → List Value → α → Prop} {L : Nat → Prop} {w : World} {css : List (List Value)} {l : List α} (h : RdBut size R L w css l) : ∀ c ∈ css, c.length = size := by
  intro c hc
  obtain ⟨i, hi, rfl⟩ := List.getElem_of_mem hc
  have hil : i < l.length := by rw [← h.1]; exact hi
  exact (h.2 i _ l[i] (List.getElem?_eq_getElem hi) (List.getElem?_eq_getElem hil)).1
theorem RdBut.rd {α : Type} {size : Nat} {R : World → List Value → α → Prop} {e : TypeId} {L : Nat → Prop} {w : World} {base : Nat} {fv : Value} {css : List (List Value)} {l : List α} (he : RdBut size R L w css l) (h : w.ownsRow base e size fv l.length css.flatten) : ∃ a cap, fv = .slice a l.length cap ∧ RdL size R w a l.length cap l := by
  have h5 := he.all
  rcases h.2 with ⟨rfl, h0⟩ | ⟨g, cap, cur, rfl, hg, hh, h1, h2, h3, h4⟩
  · refine ⟨none, 0, by rw [h0], rfl, by omega, by unfold maxLen; omega, fun i x hx => ?_⟩
    have : l = [] := List.length_eq_zero_iff.1 h0
    rw [this] at hx; simp at hx
  · refine ⟨some ⟨g, 0, none⟩, cap, rfl, rfl, h1, h2, fun i x hx => ?_⟩
    have hi : i < l.length := (List.getElem?_eq_some_iff.1 hx).1
    obtain ⟨cs, hcs⟩ : ∃ cs, css[i]? = some cs := ⟨_, List.getElem?_eq_getElem (by rw [he.1]; exact hi)⟩
    have hE := he.2 i cs x hcs hx
    refine ⟨g, 0, cs, rfl, h5 cs (List.mem_of_getElem? hcs), fun j v hj => ?_, hE.2 w (fun _ _ _ => rfl)⟩
    have hw : w.ownsRow base e size (.slice (some ⟨g, 0, none⟩) l.length cap) l.length css.flatten := ⟨h.1, .inr ⟨g, cap, cur, rfl, hg, hh, h1, h2, h3, h4⟩⟩
    have hjl : j < size := by have := (List.getElem?_eq_some_iff.1 hj).1; rw [h5 cs (List.mem_of_getElem? hcs)] at this; exact this
    have hlt : i * size + j < l.length * size := by
      have : (i + 1) * size ≤ l.length * size := Nat.mul_le_mul_right _ hi
      rw [Nat.add_mul] at this
      omega
    rw [Nat.zero_add, hw.cellAt (i * size + j) hlt]
    exact flatten_at h5 i j cs v hcs hj

/-- A function with its body, made of the heads l. -/
def FnFit (l : List FnD) (ops : Nat) (ahead : Bool) (f : Nat) (x : FnD) : Prop :=
  (1 ≤ x.body.length ∧ x.body.length ≤ ops) ∧ ∀ s o, x.body[s]? = some o →
    if s + 1 = x.body.length then o.code = 6 ∧ (1 ≤ o.line ∧ o.line ≤ 9999) ∧ withB o.a x.locals = true else OpFit l x.locals x.body.length (if ahead then f + 1 else 0) o
def SameHead (x y : FnD) : Prop := x.name = y.name ∧ x.file = y.file ∧ x.params = y.params ∧ x.locals = y.locals
/-- A program that was made of the heads l. -/
def Fit (l : List FnD) (ops : Nat) (ahead : Bool) (q : List FnD) : Prop :=
  q.length = l.length ∧ ∀ f x y, q[f]? = some x → l[f]? = some y → SameHead x y ∧ FnFit l ops ahead f x

theorem chkB_all (p : List FnD) (x : FnD) (f : Nat) : ∀ (r : List OpD) (s : Nat), (∀ i o, r[i]? = some o → opB p x (s + i) o = true) → chkB p x f r s = none
  | [], _, _ => rfl
  | o :: r, s, h => by
    unfold chkB
    have h0 : opB p x s o = true := h 0 o rfl
    rw [if_pos h0]
    exact chkB_all p x f r (s + 1) fun i o' hi => by
      have := h (i + 1) o' (by simpa using hi)
      rwa [show s + 1 + i = s + (i + 1) by omega]
theorem chkF_all (p : List FnD) : ∀ (r : List FnD) (f : Nat), (∀ i x, r[i]? = some x → headB p (f + i) x = true ∧ ∀ s o, x.body[s]? = some o → opB p x s o = true) → chkF p r f = (0, 0, 0)
  | [], _, _ => rfl
  | x :: r, f, h => by
    unfold chkF
    have h0 : headB p f x = true ∧ ∀ s o, x.body[s]? = some o → opB p x s o = true := h 0 x rfl
    rw [if_pos h0.1, chkB_all p x f x.body 0 (fun i o hi => by rw [Nat.zero_add]; exact h0.2 i o hi)]
    exact chkF_all p r (f + 1) fun i y hi => by
      have := h (i + 1) y (by simpa using hi)
      rwa [show f + 1 + i = f + (i + 1) by omega]

theorem letterD_ne (i : Nat) (hi : i < 12) (j : Nat) (hj : j < 12) (hji : j < i) : eqB (letterD j) (letterD i) = false := by
  cases h : eqB (letterD j) (letterD i) with
  | false => rfl
  | true =>
    have e := eqB_eq h
    have e1 : byteL (letterD j) = [97 + (j : Int)] := byteL_str _ (fun x hx => by simp at hx; omega)
    have e2 : byteL (letterD i) = [97 + (i : Int)] := byteL_str _ (fun x hx => by simp at hx; omega)
    rw [e, e2] at e1
    simp at e1
    omega
theorem letterD_word : ∀ i : Nat, i < 12 → wordB (letterD i) = true := by decide

theorem fit_chk {l : List FnD} {ops : Nat} {ahead : Bool} {q : List FnD} (h : Fit l ops ahead q) (hl : HeadsOk l) (h1 : 1 ≤ l.length) (h12 : l.length ≤ 12) (hops : ops ≤ 30) : chk q = (0, 0, 0) := by
  obtain ⟨hn, hq⟩ := h
  have heads : ∀ i x, q[i]? = some x → ∃ y, l[i]? = some y ∧ SameHead x y ∧ FnFit l ops ahead i x ∧ HeadOk i y := fun i x hx => by
    have hi := (List.getElem?_eq_some_iff.1 hx).1
    obtain ⟨y, hy⟩ : ∃ y, l[i]? = some y := ⟨_, List.getElem?_eq_getElem (by rw [← hn]; exact hi)⟩
    exact ⟨y, hy, (hq i x y hx hy).1, (hq i x y hx hy).2, hl i y hy⟩
  unfold chk
  rw [if_neg (by omega)]
  refine chkF_all q q 0 fun i x hx => ?_
  rw [Nat.zero_add]
  have hi := (List.getElem?_eq_some_iff.1 hx).1
  obtain ⟨y, hy, ⟨e1, e2, e3, e4⟩, ⟨hb, hfit⟩, ⟨k1, k2, k3, k4⟩⟩ := heads i x hx
  constructor
  · unfold headB
    have hany : ((q.take i).any fun z => eqB z.name x.name) = false := by
      rw [List.any_eq_false]
      intro z hz
      obtain ⟨j, hj, rfl⟩ := List.getElem_of_mem hz
      rw [List.length_take] at hj
      rw [List.getElem_take]
      obtain ⟨y', -, ⟨e1', -⟩, -, ⟨k1', -⟩⟩ := heads j _ (List.getElem?_eq_getElem (by omega))
      rw [e1', k1', e1, k1, letterD_ne i (by omega) j (by omega) (by omega)]
      decide
    rw [hany, e1, e2, e3, e4, k1, k2, letterD_word i (by omega)]
    simp only [Bool.not_false, Bool.true_and, Bool.and_true, Bool.and_eq_true, decide_eq_true_eq]
    exact ⟨⟨k3.1, k3.2, k4.1, k4.2⟩, hb.1, by omega⟩
  · intro s o ho
    have hs := (List.getElem?_eq_some_iff.1 ho).1
    have hf := hfit s o ho
    unfold opB
    split at hf
    · obtain ⟨f1, f2, f3⟩ := hf
      rw [if_neg (by simp [f2, f3]), if_pos f1]
    · next hne =>
      obtain ⟨f1, f2, f3⟩ := hf
      rw [if_neg (by simp [f1, f2])]
      rcases f3 with h6 | ⟨h0, hb0⟩ | ⟨h3, hb3, hc3⟩ | ⟨h4, hb4⟩ | ⟨h5, hr, ⟨z, hz, hzp⟩, ha⟩
      · rw [if_pos h6]
      · rw [if_neg (by omega), if_neg hne, if_pos h0]; exact hb0
      · rw [if_neg (by omega), if_neg hne, if_neg (by omega), if_pos h3, hb3, hc3]; rfl
      · rw [if_neg (by omega), if_neg hne, if_neg (by omega), if_neg (by omega), if_pos h4]; exact hb4
      · rw [if_neg (by omega), if_neg hne, if_neg (by omega), if_neg (by omega), if_neg (by omega), if_pos h5]
        unfold callB
        obtain ⟨x', hx'⟩ : ∃ x', q[o.b.toNat]? = some x' := ⟨_, List.getElem?_eq_getElem (by omega)⟩
        have e3' := (hq _ x' z hx' hz).1.2.2.1
        rw [hx']
        simp only [Bool.and_eq_true, List.all_eq_true]
        refine ⟨by unfold withB; rw [decide_eq_true_eq]; omega, ?_, ha⟩
        simp [e3', hzp]
theorem fit_ops {l : List FnD} {ops : Nat} {ahead : Bool} {q : List FnD} (h : Fit l ops ahead q) : ∀ x ∈ q, x.body.length ≤ ops := fun x hx => by
  obtain ⟨i, hi, rfl⟩ := List.getElem_of_mem hx
  exact (h.2 i _ _ (List.getElem?_eq_getElem hi) (List.getElem?_eq_getElem (by rw [← h.1]; exact hi))).2.1.2
theorem fit_ahead {l : List FnD} {ops : Nat} {q : List FnD} (h : Fit l ops true q) : ∀ (f : Nat) (x : FnD), q[f]? = some x → ∀ o ∈ x.body, o.code = 5 → (f : Int) < o.b := fun f x hx o ho h5 => by
  have hi := (List.getElem?_eq_some_iff.1 hx).1
  have hfit := (h.2 f x _ hx (List.getElem?_eq_getElem (by rw [← h.1]; exact hi))).2.2
  obtain ⟨s, hs, rfl⟩ := List.getElem_of_mem ho
  have := hfit s _ (List.getElem?_eq_getElem hs)
  split at this
  · omega
  · obtain ⟨-, -, h'⟩ := this
    simp only [if_true] at h'
    omega
end Go.Proofs.YtebjndcokkefhaaDoor
namespace Go.Proofs.YtebjndcokkefhaaDoor
open Go.RowKit

theorem sizB_ge (rec : Int → List Int → Nat) (p : List FnD) (bud : Int) (ar : List Int) : ∀ l : List OpD, l.length ≤ sizB rec p bud ar l
  | [] => Nat.le_refl _
  | o :: r => by
    have := sizB_ge rec p bud ar r
    simp only [sizB, List.length_cons]
    omega
theorem sizB_eq (rec : Int → List Int → Nat) (p : List FnD) (bud : Int) (ar : List Int) : ∀ l : List OpD, (∀ o ∈ l, inlB p bud ar o = false) → sizB rec p bud ar l = l.length
  | [], _ => rfl
  | o :: r, h => by
    have ih := sizB_eq rec p bud ar r (fun x hx => h x (List.mem_cons_of_mem _ hx))
    have h0 := h o (List.mem_cons_self ..)
    simp only [sizB, List.length_cons, ih, h0]
    simp
    omega
theorem sizI_ge (p : List FnD) (bud : Int) (f : Nat) (fn : Int) (ar : List Int) : (fnAt p fn).body.length ≤ sizI p bud (f + 1) fn ar := sizB_ge _ _ _ _ _
theorem sizI_none {p : List FnD} (hp : LayOk p) (f : Nat) (fn : Int) (h0 : 0 ≤ fn) (h1 : fn < p.length) (ar : List Int) : sizI p 0 (f + 1) fn ar = (fnAt p fn).body.length := by
  refine sizB_eq _ _ _ _ _ fun o ho => ?_
  unfold inlB
  by_cases hc : o.code = 5
  · obtain ⟨b0, b1⟩ := hp.call fn h0 h1 o ho hc
    have hb := List.length_pos_iff.2 (hp.body o.b b0 b1)
    have : decide (((fnAt p o.b).body.length : Int) ≤ 0) = false := by rw [decide_eq_false_iff_not]; omega
    rw [this]; simp
  · have : (o.code == 5) = false := by simpa using hc
    rw [this]; rfl

theorem layAll_sizes (p : List FnD) (bud : Int) : ∀ (n fn : Nat) (room : Int) (l cs : List CodeD), 0 ≤ room → layAll p bud n fn room l = some cs →
    ∃ cs', cs = l ++ cs' ∧ cs'.length = n ∧ ∀ (i : Nat) (c : CodeD), cs'[i]? = some c → c.places.length = sizI p bud 12 ((fn + i : Nat) : Int) []
  | 0, fn, room, l, cs, _, h => ⟨[], by rw [← (Option.some.inj h : l = cs)]; simp, rfl, fun i c h => by simp at h⟩
  | n + 1, fn, room, l, cs, h0, h => by
    unfold layAll at h
    split at h
    · cases h
    · next hr =>
      obtain ⟨r1, r2⟩ := layI_room p bud 12 fn [] ⟨room, [], []⟩ h0
      dsimp only at r1 r2
      have hsz : (sizI p bud 12 fn [] : Int) ≤ room := Int.not_lt.1 fun hl => hr (r2 hl)
      obtain ⟨q1, q2⟩ := r1 hsz
      rw [List.length_nil, Nat.zero_add] at q2
      obtain ⟨cs', e1, e2, e3⟩ := layAll_sizes p bud n (fn + 1) _ _ cs (by omega) h
      refine ⟨_ :: cs', by rw [e1, List.append_assoc]; rfl, by rw [List.length_cons, e2], fun i c hi => ?_⟩
      match i, hi with
      | 0, hi =>
        simp at hi
        subst hi
        exact q2
      | i + 1, hi =>
        have := e3 i c (by simpa using hi)
        rw [this, show fn + 1 + i = fn + (i + 1) by omega]

theorem layAll_zero {p : List FnD} (hp : LayOk p) (hb : ∀ fn : Int, 0 ≤ fn → fn < p.length → (fnAt p fn).body.length ≤ 30) : ∀ (n fn : Nat) (room : Int) (l : List CodeD), fn + n = p.length → 30 * (n : Int) ≤ room → (layAll p 0 n fn room l).isSome = true
  | 0, _, _, _, _, _ => rfl
  | n + 1, fn, room, l, hn, hr => by
    unfold layAll
    obtain ⟨r1, -⟩ := layI_room p 0 12 fn [] ⟨room, [], []⟩ (by dsimp only; omega)
    dsimp only at r1
    have e : sizI p 0 12 fn [] = _ := sizI_none hp 11 fn (by omega) (by omega) []
    have b := hb fn (by omega) (by omega)
    obtain ⟨q1, -⟩ := r1 (by omega)
    rw [if_neg (by omega)]
    exact layAll_zero hp hb n (fn + 1) _ _ (by omega) (by omega)

theorem layE_zero {p : List FnD} (hc : chk p = (0, 0, 0)) : layE p 0 = 0 := by
  have hg := good_of hc
  have hl := hg.len
  unfold layE
  rw [hc, if_neg (by simp), if_pos (by omega), if_pos]
  refine layAll_zero (layOk_of hg) (fun fn h0 h1 => ?_) p.length 0 1000 [] (by omega) (by omega)
  have := (hg.fns _ _ (fnAt_nat h0 h1)).body
  omega
theorem layE_cases {p : List FnD} (hc : chk p = (0, 0, 0)) {bud : Int} (h0 : 0 ≤ bud) (h1 : bud ≤ 30) : layE p bud = 0 ∨ layE p bud = 11 := by
  unfold layE
  rw [hc, if_neg (by simp), if_pos ⟨h0, h1⟩]
  split
  · exact .inl rfl
  · exact .inr rfl

/-- What an image tells of a function. -/
theorem img_at {p : List FnD} (hc : chk p = (0, 0, 0)) {bud : Int} {cs : List CodeD} (h : codesD p bud = some cs) (i : Nat) (x : FnD) (hx : p[i]? = some x) :
    ∃ c, cs[i]? = some c ∧ (imgD p cs)[i]? = some (entOfD p x c) ∧ sumS (entOfD p x c).lines = (c.places.length : Int) ∧ x.body.length ≤ c.places.length ∧ (bud = 0 → c.places.length = x.body.length) ∧ 1 ≤ c.places.length ∧ c.places.length = sizI p bud 12 (i : Int) [] ∧ wfT (entOfD p x c).lines = true ∧ wfT (entOfD p x c).index = true := by
  have hg := good_of hc
  obtain ⟨cs', e1, e2, e3⟩ := layAll_sizes p bud p.length 0 1000 [] cs (by decide) h
  rw [List.nil_append] at e1
  subst e1
  have hi := (List.getElem?_eq_some_iff.1 hx).1
  obtain ⟨c, hcc⟩ : ∃ c, cs[i]? = some c := ⟨_, List.getElem?_eq_getElem (by omega)⟩
  have hs := e3 i c hcc
  rw [Nat.zero_add] at hs
  have hfn : fnAt p (i : Int) = x := by unfold fnAt; rw [show ((i : Int)).toNat = i by omega, hx]; rfl
  have hge : _ ≤ sizI p bud 12 (i : Int) [] := sizI_ge p bud 11 (i : Int) []
  have hz : sizI p 0 12 (i : Int) [] = _ := sizI_none (layOk_of hg) 11 (i : Int) (by omega) (by omega) []
  rw [hfn] at hge hz
  have hb := (hg.fns i x hx).body
  have h1000 : c.places.length ≤ 1000 := codes_small h (List.mem_of_getElem? hcc)
  obtain ⟨-, -, hw⟩ := img_wf hc h
  obtain ⟨k1, k2⟩ := ent_ok hc hx (hw i c hcc).1 (by omega) (room := 1000) (by omega) (by omega)
  unfold entOk at k1
  simp only [Bool.and_eq_true] at k1
  refine ⟨c, hcc, ?_, k2, by omega, fun hb0 => ?_, by omega, hs, k1.2.1.1.1, k1.2.1.1.2⟩
  · unfold imgD
    rw [List.getElem?_zipWith, hx, hcc]
  · subst hb0
    omega
end Go.Proofs.YtebjndcokkefhaaDoor
namespace Go.Proofs.YtebjndcokkefhaaDoor
open Go.RowKit

theorem told_ok {p : List FnD} (hc : chk p = (0, 0, 0)) {s : StandD} (hw : Wf p s) : ∀ f ∈ toldD p s, FrOk f := fun f hf => by
  unfold toldD at hf
  obtain ⟨x, hx, rfl⟩ := List.mem_map.1 hf
  have hx' : x ∈ s.live := by simpa using hx
  have hwx := hw.live x hx'
  have hh := heads_of hc _ _ (fnOf_some hwx)
  unfold headB at hh
  simp only [Bool.and_eq_true] at hh
  have hl := (hwx.opOk (good_of hc)).line
  exact ⟨⟨hh.2.2.1.1, (wordB_bd hh.2.2.1.1).2⟩, ⟨hh.2.2.1.2, (wordB_bd hh.2.2.1.2).2⟩, hl.1, hl.2⟩
theorem rdF_owns {w : World} {base : Nat} {a : Option Addr} {cap : Nat} {fr : List FrameD} (h : w.ownsRow base 93 3 (.slice a fr.length cap) fr.length (fr.map frCells).flatten) : RdL 3 RdFrame w a fr.length cap fr := by
  have hb : RdBut 3 RdFrame (fun _ => False) w (fr.map frCells) fr := ⟨by simp, fun i cs x h1 h2 => by
    rw [List.getElem?_map, h2] at h1
    obtain rfl : frCells x = cs := by simpa using h1
    exact ⟨rfl, fun _ _ => rfl⟩⟩
  obtain ⟨a', cap', e, hr⟩ := hb.rd h
  cases e
  exact hr

set_option maxHeartbeats 2000000 in
set_option maxRecDepth 100000 in
theorem uPrint_any (a : Option Addr) (cap : Nat) (fr : List FrameD) (w : World) (hr : RdL 3 RdFrame w a fr.length cap fr) (hok : ∀ f ∈ fr, FrOk f) (h20 : fr.length ≤ 20) (ht : Tab w) :
    Calls Tryd.prog 17 #[.slice a fr.length cap] w fun e w' => e = .returned (.tuple #[.string (strOfNums (printD fr)), .int .i64 0]) ∧ Below w.heap.size w w' := by
  have HP := hid (fPrint_any a cap fr w hr hok h20 ht)
  generalize strOfNums (printD fr) = s at *
  generalize fr.length = n at *
  clear hr hok ht
  go_enter Tryd.func17, Tryd.ntmps17
  go_wp2_with fail
  refine HP.out.mono ?_
  rintro e w1 ⟨rfl, hb⟩
  go_wp2
  exact bodyPost_ret (v := .tuple #[.string s, .int .i64 0]) (by simp [results, Tryd.results17, go_sem]) rfl ⟨rfl, hb⟩

set_option maxHeartbeats 4000000 in
set_option maxRecDepth 100000 in
theorem mTrace_any (pa : Option Addr) (pcap : Nat) (p : List FnD) (bud : Int) (aa : Option Addr) (acap : Nat) (args : List Int) (n : Nat) (w : World) (hp : RdP w pa p.length pcap p) (ha : Rd .i64 w aa args.length acap args)
    (hc : chk p = (0, 0, 0)) (hg : givenB p args = true) (hn : n ≤ 2000) (hb : R64 bud) (hl : layE p bud = 0) (ht : Tab w) :
    Calls Tryd.prog 29 #[.agg #[.slice pa p.length pcap], .int .i64 bud, .slice aa args.length acap, .int .i64 n] w fun e w' =>
      e = .returned (.tuple #[.string (strOfNums (printD (toldD p (runD p (begunD p args) n)))), .int .i64 0]) ∧ Below w.heap.size w w' := by
  obtain ⟨wA, hwA⟩ : ∃ v, v = w.alloc (Obj.cells #[.slice pa p.length pcap] 24) := ⟨_, rfl⟩
  have hbA : Below w.heap.size w wA := by rw [hwA]; exact (Below.refl _ _).alloc (Nat.le_refl _) _
  have hsA : wA.heap.size = w.heap.size + 1 := by rw [hwA]; simp
  have kA : wA.heap[w.heap.size]? = some (.cells #[.slice pa p.length pcap] 24 (0, 0)) := by rw [hwA]; exact heap_new_at rfl
  have hgt := given_true hg
  have hwN : Wf p (runD p (begunD p args) n) := wf_run (good_of hc) (wf_begun (good_of hc) hgt.1 hgt.2) n
  have hre : runE p args (n : Int) = 0 := by
    unfold runE
    rw [hc, hg]
    simp
    omega
  have hrs : runS p args (n : Int) = runD p (begunD p args) n := by
    unfold runS
    rw [if_pos hre]
    rfl
  have HRUN := hid (Behind_any pa pcap p aa acap args (n : Int) wA (hp.below hbA) (ha.below hbA (Nat.le_refl _)) ⟨by omega, by omega⟩)
  rw [hre, hrs] at HRUN
  have HLAY := hid (fun (W : World) (hW : Below w.heap.size w W) => Lay_any pa pcap p bud W (hp.below hW) hb)
  have HOK := hid (told_ok hc hwN)
  have HFL : Hid ((toldD p (runD p (begunD p args) n)).length ≤ 20) := hid (by have := hwN.len; unfold toldD; simpa using this)
  have HT := hid ht
  have HKA := hid kA
  have HBA := hid hbA
  have HL := hid hl
  generalize toldD p (runD p (begunD p args) n) = fr at *
  generalize runD p (begunD p args) n = sN at *
  generalize p.length = pl at *
  generalize args.length = al at *
  clear hp ha hc hg hl ht kA hbA hwN hre hrs hgt
  go_enter Tryd.func29, Tryd.ntmps29
  go_wp2_with fail
  rw [← hwA]
  clear hwA
  refine HRUN.out.mono ?_
  rintro e w1 ⟨fa, fcap, rfl, hfo, hb1⟩
  have hs1 := hb1.size
  obtain ⟨w2, hw2⟩ : ∃ v, v = w1.alloc (Obj.cells #[.int .i64 sN.status, .int .i64 sN.value, .slice fa fr.length fcap] 47) := ⟨_, rfl⟩
  have hb2 : Below w1.heap.size w1 w2 := by rw [hw2]; exact (Below.refl _ _).alloc (Nat.le_refl _) _
  have hs2 : w2.heap.size = w1.heap.size + 1 := by rw [hw2]; simp
  have k2 : w2.heap[w1.heap.size]? = some (.cells #[.int .i64 sN.status, .int .i64 sN.value, .slice fa fr.length fcap] 47 (0, 0)) := by rw [hw2]; exact heap_new_at rfl
  have hbA2 : Below wA.heap.size wA w2 := hb1.trans (hb2.mono hs1)
  have kA1 := (hb1.block w.heap.size (by omega)).trans HKA.out
  have p1 : w1.cell? ⟨w.heap.size, 0, none⟩ = some (.slice pa pl pcap) := by simp [World.cell?, kA1]
  have hlt : w.heap.size < w1.heap.size := by omega
  have hbw2 : Below w.heap.size w w2 := HBA.out.trans (hbA2.mono HBA.out.size)
  have HLY := hid (HLAY.out w2 hbw2)
  have HFR2 := hid (rdF_owns (ownsRow_below hfo hb2))
  have HBW2 := hid hbw2
  have HK2 := hid k2
  clear hfo hb1 hb2 k2 hbA2 kA1 hbw2 HRUN HLAY
  go_wp2_with fail
  rw [← hw2]
  clear hw2 p1
  refine HLY.out.mono ?_
  rintro e w3 ⟨hb3, hcase⟩
  rcases hcase with ⟨h, -⟩ | ⟨-, cs, ca, ccap, -, rfl, -⟩
  · exact absurd HL.out h
  have hs3 := hb3.size
  have k3 := (hb3.block w1.heap.size (by omega)).trans HK2.out
  have z3 : w3.cell? ⟨w1.heap.size, 2, none⟩ = some (.slice fa fr.length fcap) := by simp [World.cell?, k3]
  have hbw3 : Below w.heap.size w w3 := HBW2.out.trans (hb3.mono HBW2.out.size)
  have HPR := hid (fPrint_any fa fcap fr w3 (HFR2.out.below hb3 (fun _ _ h => h)) HOK.out HFL.out (HT.out.below hbw3))
  have HBW3 := hid hbw3
  clear hb3 k3 hbw3 HLY HFR2
  go_wp2_with fail
  refine HPR.out.mono ?_
  rintro e w4 ⟨rfl, hb4⟩
  have HF := hid (HBW3.out.trans (hb4.mono HBW3.out.size))
  clear hb4
  go_wp2
  exact bodyPost_ret (v := .tuple #[.string (strOfNums (printD fr)), .int .i64 0]) (by simp [results, Tryd.results29, go_sem]) rfl ⟨rfl, HF.out⟩

set_option maxHeartbeats 4000000 in
set_option maxRecDepth 100000 in
theorem uTrace_any (pa : Option Addr) (pcap : Nat) (p : List FnD) (bud : Int) (aa : Option Addr) (acap : Nat) (args : List Int) (n : Nat) (w : World) (hp : RdP w pa p.length pcap p) (ha : Rd .i64 w aa args.length acap args)
    (hc : chk p = (0, 0, 0)) (hg : givenB p args = true) (hn : n ≤ 2000) (hb : R64 bud) (hl : layE p bud = 0) (ht : Tab w) :
    Calls Tryd.prog 15 #[.agg #[.slice pa p.length pcap], .int .i64 bud, .slice aa args.length acap, .int .i64 n] w fun e w' =>
      e = .returned (.tuple #[.string (strOfNums (printD (toldD p (runD p (begunD p args) n)))), .int .i64 0]) ∧ Below w.heap.size w w' := by
  obtain ⟨wA, hwA⟩ : ∃ v, v = w.alloc (Obj.cells #[.slice pa p.length pcap] 24) := ⟨_, rfl⟩
  have hbA : Below w.heap.size w wA := by rw [hwA]; exact (Below.refl _ _).alloc (Nat.le_refl _) _
  have HM := hid (mTrace_any pa pcap p bud aa acap args n wA (hp.below hbA) (ha.below hbA (Nat.le_refl _)) hc hg hn hb hl (ht.below hbA))
  have HBA := hid hbA
  generalize strOfNums (printD (toldD p (runD p (begunD p args) n))) = str at *
  generalize p.length = pl at *
  generalize args.length = al at *
  clear hp ha hc hg hl ht hbA
  go_enter Tryd.func15, Tryd.ntmps15
  go_wp2_with fail
  rw [← hwA]
  clear hwA
  refine HM.out.mono ?_
  rintro e w1 ⟨rfl, hb1⟩
  have HF := hid (HBA.out.trans (hb1.mono HBA.out.size))
  clear hb1
  go_wp2
  exact bodyPost_ret (v := .tuple #[.string str, .int .i64 0]) (by simp [results, Tryd.results15, go_sem]) rfl ⟨rfl, HF.out⟩
end Go.Proofs.YtebjndcokkefhaaDoor
