/- Rows that are readable whatever becomes of some blocks, and that a program made of fit heads and fit ops is well-formed. Rows of functions whose bodies are being made: what lies where. -/
import Derived.Test.YtebjndcokkefhaaDoorZ43
namespace Go.Proofs.YtebjndcokkefhaaDoor
open Go.RowKit

/-- Elements of so many cells, readable whatever becomes of the blocks L. -/
def RdBut {α : Type} (size : Nat) (R : World → List Value → α → Prop) (L : Nat → Prop) (w : World) (css : List (List Value)) (l : List α) : Prop :=
  css.length = l.length ∧ ∀ (i : Nat) (cs : List Value) (x : α), css[i]? = some cs → l[i]? = some x → cs.length = size ∧ ∀ W : World, (∀ b, b < w.heap.size → ¬ L b → W.heap[b]? = w.heap[b]?) → R W cs x
theorem RdBut.nil {α : Type} {size : Nat} {R : World → List Value → α → Prop} {L : Nat → Prop} {w : World} : RdBut size R L w [] [] := ⟨rfl, fun i cs x h => by simp at h⟩
theorem RdBut.same {α : Type} {size : Nat} {R : World → List Value → α → Prop} {L L' : Nat → Prop} {w w' : World} {css : List (List Value)} {l : List α} (h : RdBut size R L w css l) (hs : ∀ b, b < w.heap.size → ¬ L b → b < w'.heap.size ∧ ¬ L' b ∧ w'.heap[b]? = w.heap[b]?) : RdBut size R L' w' css l :=
  ⟨h.1, fun i cs x h1 h2 => ⟨(h.2 i cs x h1 h2).1, fun W hW => (h.2 i cs x h1 h2).2 W (fun b hb hne => (hW b (hs b hb hne).1 (hs b hb hne).2.1).trans (hs b hb hne).2.2)⟩⟩
theorem RdBut.snoc {α : Type} {size : Nat} {R : World → List Value → α → Prop} {L : Nat → Prop} {w : World} {css : List (List Value)} {l : List α} {cs : List Value} {x : α} (h : RdBut size R L w css l) (h5 : cs.length = size) (hx : ∀ W : World, (∀ b, b < w.heap.size → ¬ L b → W.heap[b]? = w.heap[b]?) → R W cs x) : RdBut size R L w (css ++ [cs]) (l ++ [x]) := by
  refine ⟨by simp [h.1], fun i c y h1 h2 => ?_⟩
  rcases Nat.lt_or_ge i css.length with hi | hi
  · rw [List.getElem?_append_left hi] at h1
    rw [List.getElem?_append_left (by rw [← h.1]; exact hi)] at h2
    exact h.2 i c y h1 h2
  · rw [List.getElem?_append_right hi] at h1
    rw [List.getElem?_append_right (by rw [← h.1]; exact hi), ← h.1] at h2
    cases hj : i - css.length with
    | zero => rw [hj] at h1 h2; simp at h1 h2; subst h1; subst h2; exact ⟨h5, hx⟩
    | succ j => rw [hj] at h1; simp at h1
theorem RdBut.all {α : Type} {size : Nat} {R : World → List Value → α → Prop} {L : Nat → Prop} {w : World} {css : List (List Value)} {l : List α} (h : RdBut size R L w css l) : ∀ c ∈ css, c.length = size := by
  intro c hc
  obtain ⟨i, hi, rfl⟩ := List.getElem_of_mem hc
  have hil : i < l.length := by rw [← h.1]; exact hi
  exact (h.2 i _ l[i] (List.getElem?_eq_getElem hi) (List.getElem?_eq_getElem hil)).1
theorem RdBut.rd {α : Type} {size : Nat} {R : World → List Value → α → Prop} {e : TypeId} {L : Nat → Prop} {w : World} {base : Nat} {fv : Value} {css : List (List Value)} {l : List α} (he : RdBut size R L w css l) (h : w.ownsRow base e size fv l.length css.flatten) : ∃ a cap, fv = .slice a l.length cap ∧ RdL size R w a l.length cap l := by
  have h5 := he.all
  rcases h.2 with ⟨rfl, h0⟩ | ⟨g, cap, cur, rfl, hg, hh, h1, h2, h3, h4⟩
  · refine ⟨none, 0, by rw [h0], rfl, by omega, by unfold maxLen; omega, fun i x hx => ?_⟩
    have : l = [] := List.length_eq_zero_iff.1 h0
    rw [this] at hx; simp at hx
  · refine ⟨some ⟨g, 0, none⟩, cap, rfl, rfl, h1, h2, fun i x hx => ?_⟩
    have hi : i < l.length := (List.getElem?_eq_some_iff.1 hx).1
    obtain ⟨cs, hcs⟩ : ∃ cs, css[i]? = some cs := ⟨_, List.getElem?_eq_getElem (by rw [he.1]; exact hi)⟩
    have hE := he.2 i cs x hcs hx
    refine ⟨g, 0, cs, rfl, h5 cs (List.mem_of_getElem? hcs), fun j v hj => ?_, hE.2 w (fun _ _ _ => rfl)⟩
    have hw : w.ownsRow base e size (.slice (some ⟨g, 0, none⟩) l.length cap) l.length css.flatten := ⟨h.1, .inr ⟨g, cap, cur, rfl, hg, hh, h1, h2, h3, h4⟩⟩
    have hjl : j < size := by have := (List.getElem?_eq_some_iff.1 hj).1; rw [h5 cs (List.mem_of_getElem? hcs)] at this; exact this
    have hlt : i * size + j < l.length * size := by
      have : (i + 1) * size ≤ l.length * size := Nat.mul_le_mul_right _ hi
      rw [Nat.add_mul] at this
      omega
    rw [Nat.zero_add, hw.cellAt (i * size + j) hlt]
    exact flatten_at h5 i j cs v hcs hj

/-- A function with its body, made of the heads l. -/
def FnFit (l : List FnD) (ops : Nat) (ahead : Bool) (f : Nat) (x : FnD) : Prop :=
  (1 ≤ x.body.length ∧ x.body.length ≤ ops) ∧ ∀ s o, x.body[s]? = some o →
    if s + 1 = x.body.length then o.code = 6 ∧ (1 ≤ o.line ∧ o.line ≤ 9999) ∧ withB o.a x.locals = true else OpFit l x.locals x.body.length (if ahead then f + 1 else 0) o
def SameHead (x y : FnD) : Prop := x.name = y.name ∧ x.file = y.file ∧ x.params = y.params ∧ x.locals = y.locals
/-- A program that was made of the heads l. -/
def Fit (l : List FnD) (ops : Nat) (ahead : Bool) (q : List FnD) : Prop :=
  q.length = l.length ∧ ∀ f x y, q[f]? = some x → l[f]? = some y → SameHead x y ∧ FnFit l ops ahead f x

theorem chkB_all (p : List FnD) (x : FnD) (f : Nat) : ∀ (r : List OpD) (s : Nat), (∀ i o, r[i]? = some o → opB p x (s + i) o = true) → chkB p x f r s = none
  | [], _, _ => rfl
  | o :: r, s, h => by
    unfold chkB
    have h0 : opB p x s o = true := h 0 o rfl
    rw [if_pos h0]
    exact chkB_all p x f r (s + 1) fun i o' hi => by
      have := h (i + 1) o' (by simpa using hi)
      rwa [show s + 1 + i = s + (i + 1) by omega]
theorem chkF_all (p : List FnD) : ∀ (r : List FnD) (f : Nat), (∀ i x, r[i]? = some x → headB p (f + i) x = true ∧ ∀ s o, x.body[s]? = some o → opB p x s o = true) → chkF p r f = (0, 0, 0)
  | [], _, _ => rfl
  | x :: r, f, h => by
    unfold chkF
    have h0 : headB p f x = true ∧ ∀ s o, x.body[s]? = some o → opB p x s o = true := h 0 x rfl
    rw [if_pos h0.1, chkB_all p x f x.body 0 (fun i o hi => by rw [Nat.zero_add]; exact h0.2 i o hi)]
    exact chkF_all p r (f + 1) fun i y hi => by
      have := h (i + 1) y (by simpa using hi)
      rwa [show f + 1 + i = f + (i + 1) by omega]

theorem letterD_ne (i : Nat) (hi : i < 12) (j : Nat) (hj : j < 12) (hji : j < i) : eqB (letterD j) (letterD i) = false := by
  cases h : eqB (letterD j) (letterD i) with
  | false => rfl
  | true =>
    have e := eqB_eq h
    have e1 : byteL (letterD j) = [97 + (j : Int)] := byteL_str _ (fun x hx => by simp at hx; omega)
    have e2 : byteL (letterD i) = [97 + (i : Int)] := byteL_str _ (fun x hx => by simp at hx; omega)
    rw [e, e2] at e1
    simp at e1
    omega
theorem letterD_word : ∀ i : Nat, i < 12 → wordB (letterD i) = true := by decide

theorem fit_chk {l : List FnD} {ops : Nat} {ahead : Bool} {q : List FnD} (h : Fit l ops ahead q) (hl : HeadsOk l) (h1 : 1 ≤ l.length) (h12 : l.length ≤ 12) (hops : ops ≤ 30) : chk q = (0, 0, 0) := by
  obtain ⟨hn, hq⟩ := h
  have heads : ∀ i x, q[i]? = some x → ∃ y, l[i]? = some y ∧ SameHead x y ∧ FnFit l ops ahead i x ∧ HeadOk i y := fun i x hx => by
    have hi := (List.getElem?_eq_some_iff.1 hx).1
    obtain ⟨y, hy⟩ : ∃ y, l[i]? = some y := ⟨_, List.getElem?_eq_getElem (by rw [← hn]; exact hi)⟩
    exact ⟨y, hy, (hq i x y hx hy).1, (hq i x y hx hy).2, hl i y hy⟩
  unfold chk
  rw [if_neg (by omega)]
  refine chkF_all q q 0 fun i x hx => ?_
  rw [Nat.zero_add]
  have hi := (List.getElem?_eq_some_iff.1 hx).1
  obtain ⟨y, hy, ⟨e1, e2, e3, e4⟩, ⟨hb, hfit⟩, ⟨k1, k2, k3, k4⟩⟩ := heads i x hx
  constructor
  · unfold headB
    have hany : ((q.take i).any fun z => eqB z.name x.name) = false := by
      rw [List.any_eq_false]
      intro z hz
      obtain ⟨j, hj, rfl⟩ := List.getElem_of_mem hz
      rw [List.length_take] at hj
      rw [List.getElem_take]
      obtain ⟨y', -, ⟨e1', -⟩, -, ⟨k1', -⟩⟩ := heads j _ (List.getElem?_eq_getElem (by omega))
      rw [e1', k1', e1, k1, letterD_ne i (by omega) j (by omega) (by omega)]
      decide
    rw [hany, e1, e2, e3, e4, k1, k2, letterD_word i (by omega)]
    simp only [Bool.not_false, Bool.true_and, Bool.and_true, Bool.and_eq_true, decide_eq_true_eq]
    exact ⟨⟨k3.1, k3.2, k4.1, k4.2⟩, hb.1, by omega⟩
  · intro s o ho
    have hs := (List.getElem?_eq_some_iff.1 ho).1
    have hf := hfit s o ho
    unfold opB
    split at hf
    · obtain ⟨f1, f2, f3⟩ := hf
      rw [if_neg (by simp [f2, f3]), if_pos f1]
    · next hne =>
      obtain ⟨f1, f2, f3⟩ := hf
      rw [if_neg (by simp [f1, f2])]
      rcases f3 with h6 | ⟨h0, hb0⟩ | ⟨h3, hb3, hc3⟩ | ⟨h4, hb4⟩ | ⟨h5, hr, ⟨z, hz, hzp⟩, ha⟩
      · rw [if_pos h6]
      · rw [if_neg (by omega), if_neg hne, if_pos h0]; exact hb0
      · rw [if_neg (by omega), if_neg hne, if_neg (by omega), if_pos h3, hb3, hc3]; rfl
      · rw [if_neg (by omega), if_neg hne, if_neg (by omega), if_neg (by omega), if_pos h4]; exact hb4
      · rw [if_neg (by omega), if_neg hne, if_neg (by omega), if_neg (by omega), if_neg (by omega), if_pos h5]
        unfold callB
        obtain ⟨x', hx'⟩ : ∃ x', q[o.b.toNat]? = some x' := ⟨_, List.getElem?_eq_getElem (by omega)⟩
        have e3' := (hq _ x' z hx' hz).1.2.2.1
        rw [hx']
        simp only [Bool.and_eq_true, List.all_eq_true]
        refine ⟨by unfold withB; rw [decide_eq_true_eq]; omega, ?_, ha⟩
        simp [e3', hzp]
theorem fit_ops {l : List FnD} {ops : Nat} {ahead : Bool} {q : List FnD} (h : Fit l ops ahead q) : ∀ x ∈ q, x.body.length ≤ ops := fun x hx => by
  obtain ⟨i, hi, rfl⟩ := List.getElem_of_mem hx
  exact (h.2 i _ _ (List.getElem?_eq_getElem hi) (List.getElem?_eq_getElem (by rw [← h.1]; exact hi))).2.1.2
theorem fit_ahead {l : List FnD} {ops : Nat} {q : List FnD} (h : Fit l ops true q) : ∀ (f : Nat) (x : FnD), q[f]? = some x → ∀ o ∈ x.body, o.code = 5 → (f : Int) < o.b := fun f x hx o ho h5 => by
  have hi := (List.getElem?_eq_some_iff.1 hx).1
  have hfit := (h.2 f x _ hx (List.getElem?_eq_getElem (by rw [← h.1]; exact hi))).2.2
  obtain ⟨s, hs, rfl⟩ := List.getElem_of_mem ho
  have := hfit s _ (List.getElem?_eq_getElem hs)
  split at this
  · omega
  · obtain ⟨-, -, h'⟩ := this
    simp only [if_true] at h'
    omega
end Go.Proofs.YtebjndcokkefhaaDoor
namespace Go.Proofs.YtebjndcokkefhaaDoor
open Go.RowKit

theorem owns_alike {w W : World} {base : Nat} {e : TypeId} {size : Nat} {v : Value} {n : Nat} {xs : List Value} (h : w.ownsRow base e size v n xs) (hW : ∀ b, v.ownBlock = some b → W.heap[b]? = w.heap[b]?) : W.ownsRow base e size v n xs := by
  refine ⟨h.1, ?_⟩
  rcases h.2 with h2 | ⟨g, cap, cur, h1, h2, h3, h4⟩
  · exact .inl h2
  · exact .inr ⟨g, cap, cur, h1, h2, (hW g (by rw [h1]; rfl)).trans h3, h4⟩
theorem RdBut.rdW {α : Type} {size : Nat} {R : World → List Value → α → Prop} {e : TypeId} {L : Nat → Prop} {w W : World} {base : Nat} {a : Option Addr} {n cap : Nat} {css : List (List Value)} {l : List α} (he : RdBut size R L w css l) (hW : ∀ b, b < w.heap.size → ¬ L b → W.heap[b]? = w.heap[b]?)
    (hn : l.length = n) (h : W.ownsRow base e size (.slice a n cap) n css.flatten) : RdL size R W a n cap l := by
  have h5 := he.all
  subst hn
  rcases h.2 with ⟨h1, h0⟩ | ⟨g, cap', cur, h1, hg, hh, h2, h3, h4, h6⟩
  · injection h1 with h1 h1' h1''
    subst h1 h1''
    refine ⟨rfl, by omega, by unfold maxLen; omega, fun i x hx => ?_⟩
    have : l = [] := List.length_eq_zero_iff.1 h0
    rw [this] at hx; simp at hx
  · injection h1 with h1 h1' h1''
    subst h1 h1''
    refine ⟨rfl, h2, h3, fun i x hx => ?_⟩
    have hi : i < l.length := (List.getElem?_eq_some_iff.1 hx).1
    obtain ⟨cs, hcs⟩ : ∃ cs, css[i]? = some cs := ⟨_, List.getElem?_eq_getElem (by rw [he.1]; exact hi)⟩
    have hE := he.2 i cs x hcs hx
    refine ⟨g, 0, cs, rfl, h5 cs (List.mem_of_getElem? hcs), fun j v hj => ?_, hE.2 W hW⟩
    have hjl : j < size := by have := (List.getElem?_eq_some_iff.1 hj).1; rw [h5 cs (List.mem_of_getElem? hcs)] at this; exact this
    have hlt : i * size + j < l.length * size := by
      have : (i + 1) * size ≤ l.length * size := Nat.mul_le_mul_right _ hi
      rw [Nat.add_mul] at this
      omega
    rw [Nat.zero_add, h.cellAt (i * size + j) hlt]
    exact flatten_at h5 i j cs v hcs hj

/-- The cells of functions that are done, and of the heads that are left. -/
def rowF (css : List (List Value)) (l : List FnD) (k : Nat) : List (List Value) := css ++ (l.drop k).map fun x => fnC x (.slice none 0 0)
theorem rowF_all {css : List (List Value)} {l : List FnD} {k : Nat} (h : ∀ c ∈ css, c.length = 5) : ∀ c ∈ rowF css l k, c.length = 5 := by
  intro c hc
  rcases List.mem_append.1 hc with h' | h'
  · exact h c h'
  · obtain ⟨x, -, rfl⟩ := List.mem_map.1 h'
    rfl
theorem rowF_at {css : List (List Value)} {l : List FnD} {k : Nat} {x : FnD} (h : css.length = k) (hx : l[k]? = some x) : (rowF css l k)[k]? = some (fnC x (.slice none 0 0)) := by
  unfold rowF
  rw [List.getElem?_append_right (by omega), List.getElem?_map, List.getElem?_drop, h, show k + (k - k) = k by omega, hx]
  rfl
theorem rowF_new {css : List (List Value)} {l : List FnD} {k : Nat} {x : FnD} (h : css.length = k) (hx : l[k]? = some x) (bv : Value) : (rowF css l k).set k (fnC x bv) = rowF (css ++ [fnC x bv]) l (k + 1) := by
  obtain ⟨hk, he⟩ := List.getElem?_eq_some_iff.1 hx
  unfold rowF
  rw [List.drop_eq_getElem_cons hk, List.map_cons, List.set_append_right _ _ (by omega), h, Nat.sub_self, List.set_cons_zero, List.append_assoc]
  rfl
/-- A body is laid into its function. -/
theorem rowF_store {w : World} {base lb lcap k n : Nat} {l : List FnD} {css : List (List Value)} {x : FnD} (hrow : w.ownsRow base 74 5 (.slice (some ⟨lb, 0, none⟩) n lcap) n (rowF css l k).flatten)
    (h5 : ∀ c ∈ css, c.length = 5) (hc : css.length = k) (hx : l[k]? = some x) (bv : Value) : (w.setCell ⟨lb, k * 5 + 4, none⟩ bv).ownsRow base 74 5 (.slice (some ⟨lb, 0, none⟩) n lcap) n (rowF (css ++ [fnC x bv]) l (k + 1)).flatten := by
  have h := (hrow.stored (k * 5 + 4) bv).1
  have hlen : k < (rowF css l k).length := (List.getElem?_eq_some_iff.1 (rowF_at hc hx)).1
  rw [flatten_set 5 _ k 4 bv (rowF_all h5) hlen (by omega)] at h
  have e : ((rowF css l k).getD k []).set 4 bv = fnC x bv := by
    rw [List.getD, rowF_at hc hx]
    rfl
  rw [e, rowF_new hc hx] at h
  exact h

theorem rdHd_row {w : World} {base lb lcap k : Nat} {l q : List FnD} {css : List (List Value)} {L : Nat → Prop} (hrow : w.ownsRow base 74 5 (.slice (some ⟨lb, 0, none⟩) l.length lcap) l.length (rowF css l k).flatten)
    (hq : q.length = k) (hb : RdBut 5 RdFn L w css q) (hs : ∀ (f : Nat) (x y : FnD), q[f]? = some x → l[f]? = some y → SameHead x y) : RdHd w (some ⟨lb, 0, none⟩) lcap l := by
  have hcap : l.length ≤ lcap ∧ lcap ≤ maxLen := by
    rcases hrow.2 with ⟨h1, _⟩ | ⟨g, cap, cur, h1, _, _, h2, h3, _⟩
    · cases h1
    · cases h1; exact ⟨h2, h3⟩
  refine ⟨hcap.1, hcap.2, fun i y hy => ⟨lb, 0, rfl, ?_⟩⟩
  have hi := (List.getElem?_eq_some_iff.1 hy).1
  have hcl : css.length = k := by rw [hb.1, hq]
  obtain ⟨c, hc, h2, h3⟩ : ∃ c, (rowF css l k)[i]? = some c ∧ c[2]? = some (.int .i64 y.params) ∧ c[3]? = some (.int .i64 y.locals) := by
    unfold rowF
    rcases Nat.lt_or_ge i k with hik | hik
    · rw [List.getElem?_append_left (by omega)]
      obtain ⟨c, hc⟩ : ∃ c, css[i]? = some c := ⟨_, List.getElem?_eq_getElem (by omega)⟩
      obtain ⟨x, hx⟩ : ∃ x, q[i]? = some x := ⟨_, List.getElem?_eq_getElem (by omega)⟩
      obtain ⟨a, cap, e, -⟩ := (hb.2 i c x hc hx).2 w (fun _ _ _ => rfl)
      obtain ⟨-, -, e3, e4⟩ := hs i x y hx hy
      exact ⟨c, hc, by rw [e, ← e3]; rfl, by rw [e, ← e4]; rfl⟩
    · rw [List.getElem?_append_right (by omega), List.getElem?_map, List.getElem?_drop, hcl, show k + (i - k) = i by omega, hy]
      exact ⟨_, rfl, rfl, rfl⟩
  have h5 := rowF_all (l := l) (k := k) hb.all
  have e2 := hrow.cellAt (i * 5 + 2) (by omega)
  have e3 := hrow.cellAt (i * 5 + 3) (by omega)
  rw [flatten_at h5 i 2 c _ hc h2] at e2
  rw [flatten_at h5 i 3 c _ hc h3] at e3
  rw [Nat.zero_add]
  exact ⟨e2, e3⟩

/-- The ops of a body that are done: the last of rn is a Ret. -/
def OpsFit (l : List FnD) (locals : Int) (rn first : Nat) (xs : List OpD) : Prop := ∀ (i : Nat) (o : OpD), xs[i]? = some o → if i + 1 = rn then o.code = 6 ∧ (1 ≤ o.line ∧ o.line ≤ 9999) ∧ withB o.a locals = true else OpFit l locals rn first o
theorem OpsFit.snoc {l : List FnD} {locals : Int} {rn first : Nat} {xs : List OpD} {o : OpD} (h : OpsFit l locals rn first xs) (ho : if xs.length + 1 = rn then o.code = 6 ∧ (1 ≤ o.line ∧ o.line ≤ 9999) ∧ withB o.a locals = true else OpFit l locals rn first o) : OpsFit l locals rn first (xs ++ [o]) := fun i y hi => by
  rcases getElem?_snoc hi with h' | ⟨rfl, rfl⟩
  · exact h i y h'
  · exact ho
/-- Functions that are done. -/
def FnsFit (l : List FnD) (ops : Nat) (ahead : Bool) (q : List FnD) : Prop := ∀ (f : Nat) (x y : FnD), q[f]? = some x → l[f]? = some y → SameHead x y ∧ FnFit l ops ahead f x
theorem FnsFit.snoc {l : List FnD} {ops : Nat} {ahead : Bool} {q : List FnD} {hd : FnD} {xs : List OpD} (h : FnsFit l ops ahead q) (hx : l[q.length]? = some hd) (h1 : 1 ≤ xs.length) (h2 : xs.length ≤ ops)
    (ho : OpsFit l hd.locals xs.length (if ahead then q.length + 1 else 0) xs) : FnsFit l ops ahead (q ++ [⟨hd.name, hd.file, hd.params, hd.locals, xs⟩]) := fun f x y hf hy => by
  rcases getElem?_snoc hf with h' | ⟨rfl, rfl⟩
  · exact h f x y h' hy
  · rw [hx] at hy
    cases hy
    exact ⟨⟨rfl, rfl, rfl, rfl⟩, ⟨h1, h2⟩, ho⟩
/-- One more function is done. -/
theorem fnBut_snoc {w w' : World} {L L' : Nat → Prop} {css : List (List Value)} {q : List FnD} {hd : FnD} {xs : List OpD} {cb : List (List Value)} {ba : Option Addr} {bcap base base' : Nat} {Lo : Nat → Prop}
    (h : RdBut 5 RdFn L w css q) (hs : ∀ b, b < w.heap.size → ¬ L b → b < w'.heap.size ∧ ¬ L' b ∧ w'.heap[b]? = w.heap[b]?)
    (hn : hd.name.size ≤ maxLen) (hf : hd.file.size ≤ maxLen) (hx : w'.ownsRow base 77 6 (.slice ba xs.length bcap) xs.length cb.flatten) (hb : RdBut 6 RdOp Lo w' cb xs)
    (hL : ∀ b, b < w'.heap.size → base' ≤ b → ¬ L' b) (hLo : ∀ b, b < w'.heap.size → ¬ Lo b → base' ≤ b) (hob : ∀ b, (Value.slice ba xs.length bcap).ownBlock = some b → base' ≤ b ∧ b < w'.heap.size) :
    RdBut 5 RdFn L' w' (css ++ [fnC hd (.slice ba xs.length bcap)]) (q ++ [⟨hd.name, hd.file, hd.params, hd.locals, xs⟩]) := by
  refine RdBut.snoc (h.same hs) rfl (fun W hW => ?_)
  refine ⟨ba, bcap, rfl, ?_, hn, hf⟩
  exact hb.rdW (fun b hb1 hb2 => hW b hb1 (hL b hb1 (hLo b hb1 hb2))) rfl (owns_alike hx (fun b hb1 => hW b (hob b hb1).2 (hL b (hob b hb1).2 (hob b hb1).1)))
theorem rdI_owns {w : World} {base n : Nat} {v : Value} {l : List Int} (h : w.ownsRow base 3 1 v n (ints l)) : ∃ a cap, v = .slice a n cap ∧ Rd .i64 w a n cap l := by
  have hl : l.length = n := by have := h.1; simpa [ints] using this
  rcases h.2 with ⟨rfl, rfl⟩ | ⟨g, cap, cur, rfl, hg, hh, h1, h2, h3, h4⟩
  · exact ⟨none, 0, rfl, ⟨hl, Nat.le_refl _, by unfold maxLen; omega, fun i hi => by omega⟩⟩
  · refine ⟨some ⟨g, 0, none⟩, cap, rfl, ⟨hl, h1, h2, fun i hi => ⟨g, 0, rfl, ?_⟩⟩⟩
    have hc := World.ownsRow.cellAt (w := w) ⟨h.1, .inr ⟨g, cap, cur, rfl, hg, hh, h1, h2, h3, h4⟩⟩ i (by omega)
    rw [Nat.zero_add, hc]
    simp [ints, List.getD, show i < l.length by omega]
/-- One more op is done. -/
theorem opBut_snoc {w w' : World} {L L' : Nat → Prop} {cb : List (List Value)} {xs : List OpD} {o : OpD} {aa : Option Addr} {acap base : Nat}
    (h : RdBut 6 RdOp L w cb xs) (hs : ∀ b, b < w.heap.size → ¬ L b → b < w'.heap.size ∧ ¬ L' b ∧ w'.heap[b]? = w.heap[b]?)
    (hx : w'.ownsRow base 3 1 (.slice aa o.args.length acap) o.args.length (ints o.args)) (hob : ∀ b, (Value.slice aa o.args.length acap).ownBlock = some b → b < w'.heap.size ∧ ¬ L' b) :
    RdBut 6 RdOp L' w' (cb ++ [[.int .i64 o.code, .int .i64 o.line, .int .i64 o.a, .int .i64 o.b, .int .i64 o.c, .slice aa o.args.length acap]]) (xs ++ [o]) := by
  refine RdBut.snoc (h.same hs) rfl (fun W hW => ?_)
  obtain ⟨a, cap, e, hr⟩ := rdI_owns (owns_alike hx (fun b hb => hW b (hob b hb).1 (hob b hb).2))
  injection e with e1 e2 e3
  subst e1 e3
  exact ⟨aa, acap, rfl, hr⟩
end Go.Proofs.YtebjndcokkefhaaDoor
