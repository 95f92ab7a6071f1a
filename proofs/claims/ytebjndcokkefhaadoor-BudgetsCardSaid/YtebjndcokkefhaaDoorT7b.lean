/- Rows of functions whose bodies are being made: what lies where. -/
import Derived.Test.YtebjndcokkefhaaDoorZ44
namespace Go.Proofs.YtebjndcokkefhaaDoor
open Go.RowKit

theorem owns_alike {w W : World} {base : Nat} {e : TypeId} {size : Nat} {v : Value} {n : Nat} {xs : List Value} (h : w.ownsRow base e size v n xs) (hW : ∀ b, v.ownBlock = some b → W.heap[b]? = w.heap[b]?) : W.ownsRow base e size v n xs := by
  refine ⟨h.1, ?_⟩
  rcases h.2 with h2 | ⟨g, cap, cur, h1, h2, h3, h4⟩
  · exact .inl h2
  · exact .inr ⟨g, cap, cur, h1, h2, (hW g (by rw [h1]; rfl)).trans h3, h4⟩
theorem RdBut.rdW {α : Type} {size : Nat} {R : World → List Value → α → Prop} {e : TypeId} {L : Nat → Prop} {w W : World} {base : Nat} {a : Option Addr} {n cap : Nat} {css : List (List Value)} {l : List α} (he : RdBut size R L w css l) (hW : ∀ b, b < w.heap.size → ¬ L b → W.heap[b]? = w.heap[b]?)
    (hn : l.length = n) (h : W.ownsRow base e size (.slice a n cap) n css.flatten) : RdL size R W a n cap l := by
  have h5 := he.all
  subst hn
  rcases h.2 with ⟨h1, h0⟩ | ⟨g, cap', cur, h1, hg, hh, h2, h3, h4, h6⟩
  · injection h1 with h1 h1' h1''
    subst h1 h1''
    refine ⟨rfl, by omega, by unfold maxLen; omega, fun i x hx => ?_⟩
    have : l = [] := List.length_eq_zero_iff.1 h0
    rw [this] at hx; simp at hx
  · injection h1 with h1 h1' h1''
    subst h1 h1''
    refine ⟨rfl, h2, h3, fun i x hx => ?_⟩
    have hi : i < l.length := (List.getElem?_eq_some_iff.1 hx).1
    obtain ⟨cs, hcs⟩ : ∃ cs, css[i]? = some cs := ⟨_, List.getElem?_eq_getElem (by rw [he.1]; exact hi)⟩
    have hE := he.2 i cs x hcs hx
    refine ⟨g, 0, cs, rfl, h5 cs (List.mem_of_getElem? hcs), fun j v hj => ?_, hE.2 W hW⟩
    have hjl : j < size := by have := (List.getElem?_eq_some_iff.1 hj).1; rw [h5 cs (List.mem_of_getElem? hcs)] at this; exact this
    have hlt : i * size + j < l.length * size := by
      have : (i + 1) * size ≤ l.length * size := Nat.mul_le_mul_right _ hi
      rw [Nat.add_mul] at this
      omega
    rw [Nat.zero_add, h.cellAt (i * size + j) hlt]
    exact flatten_at h5 i j cs v hcs hj

/-- The cells of functions that are done, and of the heads that are left. -/
def rowF (css : List (List Value)) (l : List FnD) (k : Nat) : List (List Value) := css ++ (l.drop k).map fun x => fnC x (.slice none 0 0)
theorem rowF_all {css : List (List Value)} {l : List FnD} {k : Nat} (h : ∀ c ∈ css, c.length = 5) : ∀ c ∈ rowF css l k, c.length = 5 := by
  intro c hc
  rcases List.mem_append.1 hc with h' | h'
  · exact h c h'
  · obtain ⟨x, -, rfl⟩ := List.mem_map.1 h'
    rfl
theorem rowF_at {css : List (List Value)} {l : List FnD} {k : Nat} {x : FnD} (h : css.length = k) (hx : l[k]? = some x) : (rowF css l k)[k]? = some (fnC x (.slice none 0 0)) := by
  unfold rowF
  rw [List.getElem?_append_right (by omega), List.getElem?_map, List.getElem?_drop, h, show k + (k - k) = k by omega, hx]
  rfl
theorem rowF_new {css : List (List Value)} {l : List FnD} {k : Nat} {x : FnD} (h : css.length = k) (hx : l[k]? = some x) (bv : Value) : (rowF css l k).set k (fnC x bv) = rowF (css ++ [fnC x bv]) l (k + 1) := by
  obtain ⟨hk, he⟩ := List.getElem?_eq_some_iff.1 hx
  unfold rowF
  rw [List.drop_eq_getElem_cons hk, List.map_cons, List.set_append_right _ _ (by omega), h, Nat.sub_self, List.set_cons_zero, List.append_assoc]
  rfl
/-- A body is laid into its function. -/
theorem rowF_store {w : World} {base lb lcap k n : Nat} {l : List FnD} {css : List (List Value)} {x : FnD} (hrow : w.ownsRow base 74 5 (.slice (some ⟨lb, 0, none⟩) n lcap) n (rowF css l k).flatten)
    (h5 : ∀ c ∈ css, c.length = 5) (hc : css.length = k) (hx : l[k]? = some x) (bv : Value) : (w.setCell ⟨lb, k * 5 + 4, none⟩ bv).ownsRow base 74 5 (.slice (some ⟨lb, 0, none⟩) n lcap) n (rowF (css ++ [fnC x bv]) l (k + 1)).flatten := by
  have h := (hrow.stored (k * 5 + 4) bv).1
  have hlen : k < (rowF css l k).length := (List.getElem?_eq_some_iff.1 (rowF_at hc hx)).1
  rw [flatten_set 5 _ k 4 bv (rowF_all h5) hlen (by omega)] at h
  have e : ((rowF css l k).getD k []).set 4 bv = fnC x bv := by
    rw [List.getD, rowF_at hc hx]
    rfl
  rw [e, rowF_new hc hx] at h
  exact h

theorem rdHd_row {w : World} {base lb lcap k : Nat} {l q : List FnD} {css : List (List Value)} {L : Nat → Prop} (hrow : w.ownsRow base 74 5 (.slice (some ⟨lb, 0, none⟩) l.length lcap) l.length (rowF css l k).flatten)
    (hq : q.length = k) (hb : RdBut 5 RdFn L w css q) (hs : ∀ (f : Nat) (x y : FnD), q[f]? = some x → l[f]? = some y → SameHead x y) : RdHd w (some ⟨lb, 0, none⟩) lcap l := by
  have hcap : l.length ≤ lcap ∧ lcap ≤ maxLen := by
    rcases hrow.2 with ⟨h1, _⟩ | ⟨g, cap, cur, h1, _, _, h2, h3, _⟩
    · cases h1
    · cases h1; exact ⟨h2, h3⟩
  refine ⟨hcap.1, hcap.2, fun i y hy => ⟨lb, 0, rfl, ?_⟩⟩
  have hi := (List.getElem?_eq_some_iff.1 hy).1
  have hcl : css.length = k := by rw [hb.1, hq]
  obtain ⟨c, hc, h2, h3⟩ : ∃ c, (rowF css l k)[i]? = some c ∧ c[2]? = some (.int .i64 y.params) ∧ c[3]? = some (.int .i64 y.locals) := by
    unfold rowF
    rcases Nat.lt_or_ge i k with hik | hik
    · rw [List.getElem?_append_left (by omega)]
      obtain ⟨c, hc⟩ : ∃ c, css[i]? = some c := ⟨_, List.getElem?_eq_getElem (by omega)⟩
      obtain ⟨x, hx⟩ : ∃ x, q[i]? = some x := ⟨_, List.getElem?_eq_getElem (by omega)⟩
      obtain ⟨a, cap, e, -⟩ := (hb.2 i c x hc hx).2 w (fun _ _ _ => rfl)
      obtain ⟨-, -, e3, e4⟩ := hs i x y hx hy
      exact ⟨c, hc, by rw [e, ← e3]; rfl, by rw [e, ← e4]; rfl⟩
    · rw [List.getElem?_append_right (by omega), List.getElem?_map, List.getElem?_drop, hcl, show k + (i - k) = i by omega, hy]
      exact ⟨_, rfl, rfl, rfl⟩
  have h5 := rowF_all (l := l) (k := k) hb.all
  have e2 := hrow.cellAt (i * 5 + 2) (by omega)
  have e3 := hrow.cellAt (i * 5 + 3) (by omega)
  rw [flatten_at h5 i 2 c _ hc h2] at e2
  rw [flatten_at h5 i 3 c _ hc h3] at e3
  rw [Nat.zero_add]
  exact ⟨e2, e3⟩

/-- The ops of a body that are done: the last of rn is a Ret. -/
def OpsFit (l : List FnD) (locals : Int) (rn first : Nat) (xs : List OpD) : Prop := ∀ (i : Nat) (o : OpD), xs[i]? = some o → if i + 1 = rn then o.code = 6 ∧ (1 ≤ o.line ∧ o.line ≤ 9999) ∧ withB o.a locals = true else OpFit l locals rn first o
theorem OpsFit.snoc {l : List FnD} {locals : Int} {rn first : Nat} {xs : List OpD} {o : OpD} (h : OpsFit l locals rn first xs) (ho : if xs.length + 1 = rn then o.code = 6 ∧ (1 ≤ o.line ∧ o.line ≤ 9999) ∧ withB o.a locals = true else OpFit l locals rn first o) : OpsFit l locals rn first (xs ++ [o]) := fun i y hi => by
  rcases getElem?_snoc hi with h' | ⟨rfl, rfl⟩
  · exact h i y h'
  · exact ho
/-- Functions that are done. -/
def FnsFit (l : List FnD) (ops : Nat) (ahead : Bool) (q : List FnD) : Prop := ∀ (f : Nat) (x y : FnD), q[f]? = some x → l[f]? = some y → SameHead x y ∧ FnFit l ops ahead f x
theorem FnsFit.snoc {l : List FnD} {ops : Nat} {ahead : Bool} {q : List FnD} {hd : FnD} {xs : List OpD} (h : FnsFit l ops ahead q) (hx : l[q.length]? = some hd) (h1 : 1 ≤ xs.length) (h2 : xs.length ≤ ops)
    (ho : OpsFit l hd.locals xs.length (if ahead then q.length + 1 else 0) xs) : FnsFit l ops ahead (q ++ [⟨hd.name, hd.file, hd.params, hd.locals, xs⟩]) := fun f x y hf hy => by
  rcases getElem?_snoc hf with h' | ⟨rfl, rfl⟩
  · exact h f x y h' hy
  · rw [hx] at hy
    cases hy
    exact ⟨⟨rfl, rfl, rfl, rfl⟩, ⟨h1, h2⟩, ho⟩
/-- One more function is done. -/
theorem fnBut_snoc {w w' : World} {L L' : Nat → Prop} {css : List (List Value)} {q : List FnD} {hd : FnD} {xs : List OpD} {cb : List (List Value)} {ba : Option Addr} {bcap base base' : Nat} {Lo : Nat → Prop}
    (h : RdBut 5 RdFn L w css q) (hs : ∀ b, b < w.heap.size → ¬ L b → b < w'.heap.size ∧ ¬ L' b ∧ w'.heap[b]? = w.heap[b]?)
    (hn : hd.name.size ≤ maxLen) (hf : hd.file.size ≤ maxLen) (hx : w'.ownsRow base 77 6 (.slice ba xs.length bcap) xs.length cb.flatten) (hb : RdBut 6 RdOp Lo w' cb xs)
    (hL : ∀ b, b < w'.heap.size → base' ≤ b → ¬ L' b) (hLo : ∀ b, b < w'.heap.size → ¬ Lo b → base' ≤ b) (hob : ∀ b, (Value.slice ba xs.length bcap).ownBlock = some b → base' ≤ b ∧ b < w'.heap.size) :
    RdBut 5 RdFn L' w' (css ++ [fnC hd (.slice ba xs.length bcap)]) (q ++ [⟨hd.name, hd.file, hd.params, hd.locals, xs⟩]) := by
  refine RdBut.snoc (h.same hs) rfl (fun W hW => ?_)
  refine ⟨ba, bcap, rfl, ?_, hn, hf⟩
  exact hb.rdW (fun b hb1 hb2 => hW b hb1 (hL b hb1 (hLo b hb1 hb2))) rfl (owns_alike hx (fun b hb1 => hW b (hob b hb1).2 (hL b (hob b hb1).2 (hob b hb1).1)))
theorem rdI_owns {w : World} {base n : Nat} {v : Value} {l : List Int} (h : w.ownsRow base 3 1 v n (ints l)) : ∃ a cap, v = .slice a n cap ∧ Rd .i64 w a n cap l := by
  have hl : l.length = n := by have := h.1; simpa [ints] using this
  rcases h.2 with ⟨rfl, rfl⟩ | ⟨g, cap, cur, rfl, hg, hh, h1, h2, h3, h4⟩
  · exact ⟨none, 0, rfl, ⟨hl, Nat.le_refl _, by unfold maxLen; omega, fun i hi => by omega⟩⟩
  · refine ⟨some ⟨g, 0, none⟩, cap, rfl, ⟨hl, h1, h2, fun i hi => ⟨g, 0, rfl, ?_⟩⟩⟩
    have hc := World.ownsRow.cellAt (w := w) ⟨h.1, .inr ⟨g, cap, cur, rfl, hg, hh, h1, h2, h3, h4⟩⟩ i (by omega)
    rw [Nat.zero_add, hc]
    simp [ints, List.getD, show i < l.length by omega]
/-- One more op is done. -/
theorem opBut_snoc {w w' : World} {L L' : Nat → Prop} {cb : List (List Value)} {xs : List OpD} {o : OpD} {aa : Option Addr} {acap base : Nat}
    (h : RdBut 6 RdOp L w cb xs) (hs : ∀ b, b < w.heap.size → ¬ L b → b < w'.heap.size ∧ ¬ L' b ∧ w'.heap[b]? = w.heap[b]?)
    (hx : w'.ownsRow base 3 1 (.slice aa o.args.length acap) o.args.length (ints o.args)) (hob : ∀ b, (Value.slice aa o.args.length acap).ownBlock = some b → b < w'.heap.size ∧ ¬ L' b) :
    RdBut 6 RdOp L' w' (cb ++ [[.int .i64 o.code, .int .i64 o.line, .int .i64 o.a, .int .i64 o.b, .int .i64 o.c, .slice aa o.args.length acap]]) (xs ++ [o]) := by
  refine RdBut.snoc (h.same hs) rfl (fun W hW => ?_)
  obtain ⟨a, cap, e, hr⟩ := rdI_owns (owns_alike hx (fun b hb => hW b (hob b hb).1 (hob b hb).2))
  injection e with e1 e2 e3
  subst e1 e3
  exact ⟨aa, acap, rfl, hr⟩
end Go.Proofs.YtebjndcokkefhaaDoor
