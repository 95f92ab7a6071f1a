/- Contract of unfoldkeep's heads: functions without their bodies, fit for a well-formed program. What an op that was made fits, and the boxes of unfoldkeep's op. Rows that are readable whatever becomes of some blocks, and that a program made of fit heads and fit ops is well-formed. Rows of functions whose bodies are being made: what lies where. Contract of the developers' image.placesOf. -/
import Derived.Test.YtffnfjkjlmlonaaGreatDoorZB16
import Derived.Test.YtffnfjkjlmlonaaGreatDoorZB15
import Derived.Test.YtffnfjkjlmlonaaGreatDoorZB12
namespace Go.Proofs.YtffnfjkjlmlonaaGreatDoor
open Go.RowKit
def HeadOk (i : Nat) (x : FnD) : Prop := x.name = letterD i ∧ wordB x.file = true ∧ (1 ≤ x.locals ∧ x.locals ≤ 8) ∧ (0 ≤ x.params ∧ x.params ≤ x.locals)
def HeadsOk (l : List FnD) : Prop := ∀ i x, l[i]? = some x → HeadOk i x
theorem HeadsOk.snoc {l : List FnD} {x : FnD} (h : HeadsOk l) (hx : HeadOk l.length x) : HeadsOk (l ++ [x]) := fun i y hi => by
  rcases Nat.lt_or_ge i l.length with h1 | h1
  · rw [List.getElem?_append_left h1] at hi
    exact h i y hi
  · rw [List.getElem?_append_right h1] at hi
    have : i = l.length := by have := (List.getElem?_eq_some_iff.1 hi).1; simp at this; omega
    subst this
    simp at hi
    subst hi
    exact hx
end Go.Proofs.YtffnfjkjlmlonaaGreatDoor
namespace Go.Proofs.YtffnfjkjlmlonaaGreatDoor
open Go.RowKit
/-- The heads of functions, of which op reads the locals and the params. -/
def RdHd (w : World) (la : Option Addr) (lcap : Nat) (l : List FnD) : Prop := l.length ≤ lcap ∧ lcap ≤ maxLen ∧ ∀ i x, l[i]? = some x → ∃ b off, la = some ⟨b, off, none⟩ ∧ w.cell? ⟨b, off + i * 5 + 2, none⟩ = some (.int .i64 x.params) ∧ w.cell? ⟨b, off + i * 5 + 3, none⟩ = some (.int .i64 x.locals)
theorem RdHd.below {w w' : World} {la : Option Addr} {lcap : Nat} {l : List FnD} (h : RdHd w la lcap l) (hb : Below w.heap.size w w') : RdHd w' la lcap l :=
  ⟨h.1, h.2.1, fun i x hx => by
    obtain ⟨b, off, e, h1, h2⟩ := h.2.2 i x hx
    exact ⟨b, off, e, (hb.cell (World.block_lt_of_cell? w _ h1)).trans h1, (hb.cell (World.block_lt_of_cell? w _ h2)).trans h2⟩⟩
/-- What an op that was made fits: the heads l, the locals of its function, the length n of its body; first: the least function that may be called. -/
def OpFit (l : List FnD) (locals : Int) (n : Nat) (first : Nat) (x : OpD) : Prop :=
  (1 ≤ x.line ∧ x.line ≤ 9999) ∧ withB x.a locals = true ∧
  (x.code = 6 ∨ (x.code = 0 ∧ withB x.b 1000 = true) ∨ ((x.code = 1 ∨ x.code = 2 ∨ x.code = 3) ∧ withB x.b locals = true ∧ withB x.c locals = true) ∨ (x.code = 4 ∧ withB x.b n = true) ∨
   (x.code = 5 ∧ (first ≤ x.b ∧ x.b < l.length) ∧ (∃ y, l[x.b.toNat]? = some y ∧ y.params = (x.args.length : Int)) ∧ ∀ a ∈ x.args, withB a locals = true))
/-- The boxes of op: its argument, its result, the op that it makes. -/
def OpW (w : World) (ov : Array Value) (W : World) (xs : Array Value) : Prop :=
  Below w.heap.size w W ∧ W.heap[w.heap.size]? = some (.cells ov 183 (0, 0)) ∧ W.heap[w.heap.size + 1]? = some (.cells #[.int .i64 0, .int .i64 0, .int .i64 0, .int .i64 0, .int .i64 0, .slice none 0 0] 183 (0, 0)) ∧ W.heap[w.heap.size + 2]? = some (.cells xs 183 (0, 0))
theorem OpW.size {w W : World} {ov xs : Array Value} (h : OpW w ov W xs) : w.heap.size + 3 ≤ W.heap.size := by
  have := (Array.getElem?_eq_some_iff.1 h.2.2.2).1
  omega
theorem OpW.set {w W : World} {ov xs : Array Value} (h : OpW w ov W xs) (j : Nat) (v : Value) (ys : Array Value) (he : xs.setIfInBounds j v = ys) : OpW w ov (W.setCell ⟨w.heap.size + 2, j, none⟩ v) ys := by
  obtain ⟨h1, h2, h3, h4⟩ := h
  refine ⟨h1.setCell (p := ⟨w.heap.size + 2, j, none⟩) (by simp) v, ?_, ?_, ?_⟩
  · rw [Below.heap_setCell _ _ _ _ (by simp)]; exact h2
  · rw [Below.heap_setCell _ _ _ _ (by simp)]; exact h3
  · rw [heap_setCell_same _ _ j _ _ _ h4, he]
theorem OpW.below {w W W' : World} {ov xs : Array Value} (h : OpW w ov W xs) (hb : Below (w.heap.size + 3) W W') : OpW w ov W' xs := by
  obtain ⟨h1, h2, h3, h4⟩ := h
  exact ⟨h1.trans (hb.mono (by omega)), (hb.block _ (by omega)).trans h2, (hb.block _ (by omega)).trans h3, (hb.block _ (by omega)).trans h4⟩
theorem OpW.o {w W : World} {ov xs : Array Value} (h : OpW w ov W xs) (j : Nat) (v : Value) (hj : ov[j]? = some v) : W.cell? ⟨w.heap.size, j, none⟩ = some v := by simp [World.cell?, h.2.1, hj]
theorem OpW.x {w W : World} {ov xs : Array Value} (h : OpW w ov W xs) (j : Nat) (v : Value) (hj : xs[j]? = some v) : W.cell? ⟨w.heap.size + 2, j, none⟩ = some v := by simp [World.cell?, h.2.2.2, hj]
theorem OpW.r {w W : World} {ov xs : Array Value} (h : OpW w ov W xs) (j : Nat) (v : Value) (hj : (#[.int .i64 0, .int .i64 0, .int .i64 0, .int .i64 0, .int .i64 0, .slice none 0 0] : Array Value)[j]? = some v) : W.cell? ⟨w.heap.size + 1, j, none⟩ = some v := by simp [World.cell?, h.2.2.1, hj]
theorem OpW.fr {w W : World} {ov xs : Array Value} (h : OpW w ov W xs) (j : Nat) : W.frozen? ⟨w.heap.size + 1, j, none⟩ = false := by simp [World.frozen?, h.2.2.1]
end Go.Proofs.YtffnfjkjlmlonaaGreatDoor
namespace Go.Proofs.YtffnfjkjlmlonaaGreatDoor
open Go.RowKit
/-- Elements of so many cells, readable whatever becomes of the blocks L. -/
def RdBut {α : Type} (size : Nat) (R : World → List Value → α → Prop) (L : Nat → Prop) (w : World) (css : List (List Value)) (l : List α) : Prop :=
  css.length = l.length ∧ ∀ (i : Nat) (cs : List Value) (x : α), css[i]? = some cs → l[i]? = some x → cs.length = size ∧ ∀ W : World, (∀ b, b < w.heap.size → ¬ L b → W.heap[b]? = w.heap[b]?) → R W cs x
theorem RdBut.nil {α : Type} {size : Nat} {R : World → List Value → α → Prop} {L : Nat → Prop} {w : World} : RdBut size R L w [] [] := ⟨rfl, fun i cs x h => by simp at h⟩
theorem RdBut.same {α : Type} {size : Nat} {R : World → List Value → α → Prop} {L L' : Nat → Prop} {w w' : World} {css : List (List Value)} {l : List α} (h : RdBut size R L w css l) (hs : ∀ b, b < w.heap.size → ¬ L b → b < w'.heap.size ∧ ¬ L' b ∧ w'.heap[b]? = w.heap[b]?) : RdBut size R L' w' css l :=
  ⟨h.1, fun i cs x h1 h2 => ⟨(h.2 i cs x h1 h2).1, fun W hW => (h.2 i cs x h1 h2).2 W (fun b hb hne => (hW b (hs b hb hne).1 (hs b hb hne).2.1).trans (hs b hb hne).2.2)⟩⟩
theorem RdBut.snoc {α : Type} {size : Nat} {R : World → List Value → α → Prop} {L : Nat → Prop} {w : World} {css : List (List Value)} {l : List α} {cs : List Value} {x : α} (h : RdBut size R L w css l) (h5 : cs.length = size) (hx : ∀ W : World, (∀ b, b < w.heap.size → ¬ L b → W.heap[b]? = w.heap[b]?) → R W cs x) : RdBut size R L w (css ++ [cs]) (l ++ [x]) := by
  refine ⟨by simp [h.1], fun i c y h1 h2 => ?_⟩
  rcases Nat.lt_or_ge i css.length with hi | hi
  · rw [List.getElem?_append_left hi] at h1
    rw [List.getElem?_append_left (by rw [← h.1]; exact hi)] at h2
    exact h.2 i c y h1 h2
  · rw [List.getElem?_append_right hi] at h1
    rw [List.getElem?_append_right (by rw [← h.1]; exact hi), ← h.1] at h2
    cases hj : i - css.length with
    | zero => rw [hj] at h1 h2; simp at h1 h2; subst h1; subst h2; exact ⟨h5, hx⟩
    | succ j => rw [hj] at h1; simp at h1
theorem RdBut.all {α : Type} {size : Nat} {R : World → List Value → α → Prop} {L : Nat → Prop} {w : World} {css : List (List Value)} {l : List α} (h : RdBut size R L w css l) : ∀ c ∈ css, c.length = size := by
  intro c hc
  obtain ⟨i, hi, rfl⟩ := List.getElem_of_mem hc
  have hil : i < l.length := by rw [← h.1]; exact hi
  exact (h.2 i _ l[i] (List.getElem?_eq_getElem hi) (List.getElem?_eq_getElem hil)).1
theorem RdBut.rd {α : Type} {size : Nat} {R : World → List Value → α → Prop} {e : TypeId} {L : Nat → Prop} {w : World} {base : Nat} {fv : Value} {css : List (List Value)} {l : List α} (he : RdBut size R L w css l) (h : w.ownsRow base e size fv l.length css.flatten) : ∃ a cap, fv = .slice a l.length cap ∧ RdL size R w a l.length cap l := by
  have h5 := he.all
  rcases h.2 with ⟨rfl, h0⟩ | ⟨g, cap, cur, rfl, hg, hh, h1, h2, h3, h4⟩
  · refine ⟨none, 0, by rw [h0], rfl, by omega, by unfold maxLen; omega, fun i x hx => ?_⟩
    have : l = [] := List.length_eq_zero_iff.1 h0
    rw [this] at hx; simp at hx
  · refine ⟨some ⟨g, 0, none⟩, cap, rfl, rfl, h1, h2, fun i x hx => ?_⟩
    have hi : i < l.length := (List.getElem?_eq_some_iff.1 hx).1
    obtain ⟨cs, hcs⟩ : ∃ cs, css[i]? = some cs := ⟨_, List.getElem?_eq_getElem (by rw [he.1]; exact hi)⟩
    have hE := he.2 i cs x hcs hx
    refine ⟨g, 0, cs, rfl, h5 cs (List.mem_of_getElem? hcs), fun j v hj => ?_, hE.2 w (fun _ _ _ => rfl)⟩
    have hw : w.ownsRow base e size (.slice (some ⟨g, 0, none⟩) l.length cap) l.length css.flatten := ⟨h.1, .inr ⟨g, cap, cur, rfl, hg, hh, h1, h2, h3, h4⟩⟩
    have hjl : j < size := by have := (List.getElem?_eq_some_iff.1 hj).1; rw [h5 cs (List.mem_of_getElem? hcs)] at this; exact this
    have hlt : i * size + j < l.length * size := by
      have : (i + 1) * size ≤ l.length * size := Nat.mul_le_mul_right _ hi
      rw [Nat.add_mul] at this
      omega
    rw [Nat.zero_add, hw.cellAt (i * size + j) hlt]
    exact flatten_at h5 i j cs v hcs hj
/-- A function with its body, made of the heads l. -/
def FnFit (l : List FnD) (ops : Nat) (ahead : Bool) (f : Nat) (x : FnD) : Prop :=
  (1 ≤ x.body.length ∧ x.body.length ≤ ops) ∧ ∀ s o, x.body[s]? = some o →
    if s + 1 = x.body.length then o.code = 6 ∧ (1 ≤ o.line ∧ o.line ≤ 9999) ∧ withB o.a x.locals = true else OpFit l x.locals x.body.length (if ahead then f + 1 else 0) o
def SameHead (x y : FnD) : Prop := x.name = y.name ∧ x.file = y.file ∧ x.params = y.params ∧ x.locals = y.locals
end Go.Proofs.YtffnfjkjlmlonaaGreatDoor
namespace Go.Proofs.YtffnfjkjlmlonaaGreatDoor
open Go.RowKit
/-- The ops of a body that are done: the last of rn is a Ret. -/
def OpsFit (l : List FnD) (locals : Int) (rn first : Nat) (xs : List OpD) : Prop := ∀ (i : Nat) (o : OpD), xs[i]? = some o → if i + 1 = rn then o.code = 6 ∧ (1 ≤ o.line ∧ o.line ≤ 9999) ∧ withB o.a locals = true else OpFit l locals rn first o
theorem OpsFit.snoc {l : List FnD} {locals : Int} {rn first : Nat} {xs : List OpD} {o : OpD} (h : OpsFit l locals rn first xs) (ho : if xs.length + 1 = rn then o.code = 6 ∧ (1 ≤ o.line ∧ o.line ≤ 9999) ∧ withB o.a locals = true else OpFit l locals rn first o) : OpsFit l locals rn first (xs ++ [o]) := fun i y hi => by
  rcases getElem?_snoc hi with h' | ⟨rfl, rfl⟩
  · exact h i y h'
  · exact ho
/-- Functions that are done. -/
def FnsFit (l : List FnD) (ops : Nat) (ahead : Bool) (q : List FnD) : Prop := ∀ (f : Nat) (x y : FnD), q[f]? = some x → l[f]? = some y → SameHead x y ∧ FnFit l ops ahead f x
theorem FnsFit.snoc {l : List FnD} {ops : Nat} {ahead : Bool} {q : List FnD} {hd : FnD} {xs : List OpD} (h : FnsFit l ops ahead q) (hx : l[q.length]? = some hd) (h1 : 1 ≤ xs.length) (h2 : xs.length ≤ ops)
    (ho : OpsFit l hd.locals xs.length (if ahead then q.length + 1 else 0) xs) : FnsFit l ops ahead (q ++ [⟨hd.name, hd.file, hd.params, hd.locals, xs⟩]) := fun f x y hf hy => by
  rcases getElem?_snoc hf with h' | ⟨rfl, rfl⟩
  · exact h f x y h' hy
  · rw [hx] at hy
    cases hy
    exact ⟨⟨rfl, rfl, rfl, rfl⟩, ⟨h1, h2⟩, ho⟩
theorem rdI_owns {w : World} {base n : Nat} {v : Value} {l : List Int} (h : w.ownsRow base 3 1 v n (ints l)) : ∃ a cap, v = .slice a n cap ∧ Rd .i64 w a n cap l := by
  have hl : l.length = n := by have := h.1; simpa [ints] using this
  rcases h.2 with ⟨rfl, rfl⟩ | ⟨g, cap, cur, rfl, hg, hh, h1, h2, h3, h4⟩
  · exact ⟨none, 0, rfl, ⟨hl, Nat.le_refl _, by unfold maxLen; omega, fun i hi => by omega⟩⟩
  · refine ⟨some ⟨g, 0, none⟩, cap, rfl, ⟨hl, h1, h2, fun i hi => ⟨g, 0, rfl, ?_⟩⟩⟩
    have hc := World.ownsRow.cellAt (w := w) ⟨h.1, .inr ⟨g, cap, cur, rfl, hg, hh, h1, h2, h3, h4⟩⟩ i (by omega)
    rw [Nat.zero_add, hc]
    simp [ints, List.getD, show i < l.length by omega]
end Go.Proofs.YtffnfjkjlmlonaaGreatDoor
namespace Go.Proofs.YtffnfjkjlmlonaaGreatDoor
open Go.RowKit
def pcC (a : PlcD) : List Value := [.int .i64 a.fn, .int .i64 a.first, .int .i64 a.line, .int .i64 a.inst]
theorem Tryz.infoPlc : (Tryz.prog.info? 263).map (fun i => (i.zero, i.size, i.bytes)) = some (some (.agg #[.int .i64 0, .int .i64 0, .int .i64 0, .int .i64 0]), 4, 32) := by kernel_rfl
theorem plcF_app : ∀ (l : List EntD) (x : EntD) (fn : Nat) (acc : List PlcD), plcF (l ++ [x]) fn acc = plcF l fn acc ++ plcE (fn + l.length : Nat) (plcF l fn acc).length x
  | [], x, fn, acc => rfl
  | y :: r, x, fn, acc => by
    show plcF (r ++ [x]) (fn + 1) _ = plcF r (fn + 1) _ ++ _
    rw [plcF_app r x (fn + 1) _, List.length_cons, show fn + 1 + r.length = fn + (r.length + 1) by omega]
    rfl
theorem plc_take {L : List EntD} {k : Nat} {x : EntD} (h : L[k]? = some x) : plcD (L.take (k + 1)) = plcD (L.take k) ++ plcE k (plcD (L.take k)).length x := by
  obtain ⟨hk, he⟩ := List.getElem?_eq_some_iff.1 h
  unfold plcD
  rw [List.take_succ_eq_append_getElem hk, he, plcF_app]
  congr 2
  rw [List.length_take, Nat.zero_add, Nat.min_eq_left (by omega)]
theorem four_new_at {w : World} {n : Nat} (h : w.heap.size = n) (a b c d : Value) (t : TypeId) : ∀ j u, [a, b, c, d][j]? = some u → (w.alloc (.cells #[a, b, c, d] t)).cell? ((⟨n, 0, none⟩ : Addr).add j) = some u := by
  subst h
  intro j u hu
  match j, hu with
  | 0, hu => simp at hu; subst hu; simp [Addr.add]
  | 1, hu => simp at hu; subst hu; simp [Addr.add]
  | 2, hu => simp at hu; subst hu; simp [Addr.add]
  | 3, hu => simp at hu; subst hu; simp [Addr.add]
theorem four_one (a b c d : Int) : ∀ u ∈ [Value.int .i64 a, .int .i64 b, .int .i64 c, .int .i64 d], u.oneCell' = true := by
  intro u hu
  simp at hu
  rcases hu with rfl | rfl | rfl | rfl <;> rfl
theorem plcD_le {n : Nat} {l : List EntD} (hg : ∀ x ∈ l, EntG n x) : (plcD l).length ≤ 1000 * l.length := by
  unfold plcD
  rw [plcF_len l 0 [] hg, List.length_nil, Nat.zero_add]
  induction l with
  | nil => simp
  | cons x r ih =>
    have h1 := (hg x (List.mem_cons_self ..)).most
    have h2 := ih (fun y hy => hg y (List.mem_cons_of_mem _ hy))
    rw [List.map_cons, List.sum_cons, List.length_cons]
    omega
/-- Rows of two types lie apart. -/
theorem owns_apart {w : World} {b1 b2 : Nat} {e1 e2 : TypeId} {s1 s2 : Nat} {v1 v2 : Value} {n1 n2 : Nat} {x1 x2 : List Value} (h1 : w.ownsRow b1 e1 s1 v1 n1 x1) (h2 : w.ownsRow b2 e2 s2 v2 n2 x2) (hne : e1 ≠ e2) : ∀ b, v2.ownBlock = some b → v1.ownBlock ≠ some b := fun b hb hc => by
  rcases h2.2 with ⟨rfl, _⟩ | ⟨g, cap, cur, rfl, _, hh, _⟩
  · simp [Value.ownBlock] at hb
  · obtain rfl : g = b := by simpa [Value.ownBlock] using hb
    exact owns_other' h1 hh hne hc.symm
set_option maxHeartbeats 8000000 in
set_option maxRecDepth 100000 in
theorem placesOf_any (ia : Option Addr) (icap : Nat) (L : List EntD) (w : World) (hr : RdI w ia L.length icap L) (hg : ∀ x ∈ L, EntG L.length x) (h12 : L.length ≤ 12) :
    Calls Tryz.prog 164 #[.agg #[.slice ia L.length icap]] w fun e w' => ∃ a cap, e = .returned (.slice a (plcD L).length cap) ∧ w'.ownsRow w.heap.size 263 4 (.slice a (plcD L).length cap) (plcD L).length ((plcD L).map pcC).flatten ∧ Below w.heap.size w w' := by
  have HR := hid hr
  have HG := hid hg
  have hc1 := hr.2.1
  have hc2 := hr.2.2.1
  unfold maxLen at hc2
  obtain ⟨n, hn⟩ : ∃ v, v = L.length := ⟨_, rfl⟩
  rw [← hn] at HR HG hc1 h12 ⊢
  have HN := hid hn
  obtain ⟨i0, hi, hz0, hz1, hz2⟩ := info_parts Tryz.infoPlc
  obtain ⟨wb, hwb⟩ : ∃ v, v = w.alloc (Obj.cells #[.slice ia n icap] 41) := ⟨_, rfl⟩
  have hbb : Below w.heap.size w wb := by rw [hwb]; exact (Below.refl _ _).alloc (Nat.le_refl _) _
  have hbs : wb.heap.size = w.heap.size + 1 := by rw [hwb]; simp
  have HBB := hid hbb
  clear hr hg hn hbb
  go_enter Tryz.func164, Tryz.ntmps164
  go_wp2
  rw [← hwb]
  clear hwb
  go_loopw [3, 4, 5, 6, 7, 8, 9, 13] (fun lv _ _ _ _ _ _ i wr => ∃ k : Nat, i = .int .i64 k ∧ k ≤ n ∧ wr.ownsRow wb.heap.size 263 4 lv (plcD (L.take k)).length ((plcD (L.take k)).map pcC).flatten ∧ Below wb.heap.size wb wr) (fun _ _ _ _ _ _ _ i _ => n - (intOf i).toNat)
  case atStart => exact ⟨0, rfl, by omega, World.ownsRow_nil _ _ _ _, Below.refl _ _⟩
  case round =>
    rename World => wo
    obtain ⟨k, rfl, hk, hown, hbel⟩ := hrel
    have hsz := hbel.size
    have hbw : Below w.heap.size w wo := HBB.out.trans (hbel.mono HBB.out.size)
    obtain ⟨va, vcap, rfl, hv1, hv2⟩ := owns_form hown
    unfold maxLen at hv2
    by_cases hkn : k < n
    · have hkn' : (k : Int) < (n : Int) := by omega
      obtain ⟨x, hx⟩ : ∃ x, L[k]? = some x := ⟨_, List.getElem?_eq_getElem (by rw [← HN.out]; exact hkn)⟩
      have hgx := HG.out x (List.mem_of_getElem? hx)
      obtain ⟨eb, eoff, la, lcap, xa, xcap, ta, tcap, rfl, m0, m1, m2, m3, m4, hrl, hrx, -⟩ := (HR.out.below hbw).at hx
      have heb : eb < wo.heap.size := World.block_lt_of_cell? wo _ m0
      have HVX := hid (fun (W : World) (hW : Below wo.heap.size wo W) => values_any xa x.index.length xcap x.index W (hrx.below hW (Nat.le_refl _)) hgx.wi)
      have HVL := hid (fun (W : World) (hW : Below wo.heap.size wo W) => values_any la x.lines.length lcap x.lines W (hrl.below hW (Nat.le_refl _)) hgx.wl)
      have hpl : (plcD (L.take k)).length ≤ 12000 := by
        have h := plcD_le (n := n) (l := L.take k) (fun y hy => HG.out y (List.mem_of_mem_take hy))
        rw [List.length_take] at h
        omega
      have HNXT : Hid (plcD (L.take (k + 1)) = plcD (L.take k) ++ plcE k (plcD (L.take k)).length x) := hid (plc_take hx)
      have HAT : Hid (∀ j, j < (unroll x.lines).length → (plcE k (plcD (L.take k)).length x)[j]? = some ⟨k, (plcD (L.take k)).length, (unroll x.lines).getD j 0, (unroll x.index).getD j 0⟩) := hid (fun j hj => plcE_at hgx hj)
      have HEL : Hid ((plcE k (plcD (L.take k)).length x).length = (unroll x.lines).length) := hid (plcE_len hgx)
      have hml := hgx.most
      have hle := hgx.len
      obtain ⟨ACC, hACC⟩ : ∃ v, v = plcD (L.take k) := ⟨_, rfl⟩
      rw [← hACC] at hown hpl HNXT HAT HEL hv1 ⊢
      obtain ⟨N0, hN0⟩ : ∃ v, v = ACC.length := ⟨_, rfl⟩
      rw [← hN0] at hown hpl HNXT HAT HEL hv1 ⊢
      rw [hle] at HVX
      generalize plcE k N0 x = PE at *
      generalize unroll x.lines = UL at *
      generalize unroll x.index = UI at *
      obtain ⟨m, hm⟩ : ∃ v, v = UL.length := ⟨_, rfl⟩
      rw [← hm] at HVX HVL HAT HEL hml hle
      generalize x.name = nm at *
      generalize x.file = fl at *
      generalize x.lines.length = xl at *
      generalize x.index.length = xi at *
      generalize x.tree.length = xt at *
      obtain ⟨w2, hw2⟩ : ∃ v, v = wo.alloc (Obj.cells #[.string nm, .string fl, .slice la xl lcap, .slice xa xi xcap, .slice ta xt tcap] 115) := ⟨_, rfl⟩
      have hb2 : Below wo.heap.size wo w2 := by rw [hw2]; exact (Below.refl _ _).alloc (Nat.le_refl _) _
      have hs2 : w2.heap.size = wo.heap.size + 1 := by rw [hw2]; simp
      have k2 : w2.heap[wo.heap.size]? = some (.cells #[.string nm, .string fl, .slice la xl lcap, .slice xa xi xcap, .slice ta xt tcap] 115 (0, 0)) := by rw [hw2]; exact heap_new_at rfl
      have HOW := hid hown
      have HBEL := hid hbel
      have HK2 := hid k2
      have HB2 := hid hb2
      have HN0 := hid hN0
      have HM := hid hm
      clear hown hbel hbw hx hgx hrl hrx hACC hN0 hm k2 hb2
      go_wp2_with fail
      rw [← hw2]
      clear hw2 m0 m1 m2 m3 m4
      refine (HVX.out w2 HB2.out).mono ?_
      rintro e w3 ⟨iv, rfl, hoi, hb3⟩
      have hs3 := hb3.size
      have hb23 : Below wo.heap.size wo w3 := HB2.out.trans (hb3.mono HB2.out.size)
      have k3 := (hb3.block wo.heap.size (by omega)).trans HK2.out
      have c3 : w3.cell? ⟨wo.heap.size, 2, none⟩ = some (.slice la xl lcap) := by simp [World.cell?, k3]
      have HOI := hid hoi
      have HB23 := hid hb23
      clear hoi hb3 hb23 k3 HVX
      go_wp2_with fail
      clear c3
      refine (HVL.out w3 HB23.out).mono ?_
      rintro e w4 ⟨nv, rfl, hon, hb4⟩
      have hs4 := hb4.size
      obtain ⟨na, ncap, rfl, hn1, hn2⟩ := owns_form hon
      obtain ⟨ja, jcap, rfl, hj1, hj2⟩ := owns_form HOI.out
      unfold maxLen at hn2 hj2
      have hb04 : Below wo.heap.size wo w4 := HB23.out.trans (hb4.mono (by omega))
      have HON := hid hon
      have HOI4 := hid (ownsRow_below HOI.out hb4)
      have HOW4 := hid (ownsRow_below HOW.out hb04)
      have HB4 := hid (HBEL.out.trans (hb04.mono hsz))
      clear hon hb4 hb04 HVL HOI HOW
      go_wp2
      go_loopw [3, 8, 9, 27] (fun lv _ _ i wr => ∃ j : Nat, i = .int .i64 j ∧ j ≤ m ∧ wr.ownsRow wb.heap.size 263 4 lv (N0 + j) ((ACC ++ PE.take j).map pcC).flatten ∧ wr.ownsRow w2.heap.size 3 1 (.slice ja m jcap) m (i64s UI) ∧ wr.ownsRow w3.heap.size 3 1 (.slice na m ncap) m (i64s UL) ∧ Below wb.heap.size wb wr) (fun _ _ _ i _ => m - (intOf i).toNat)
      case atStart => exact ⟨0, rfl, by omega, by simpa using HOW4.out, HOI4.out, HON.out, HB4.out⟩
      case round =>
        clear HOW4 HOI4 HON HB4
        obtain ⟨j, rfl, hj, ho, hoi, hon, hb⟩ := hrel
        have hs := hb.size
        by_cases hjm : j < m
        · have hjm' : (j : Int) < (m : Int) := by omega
          obtain ⟨ng, rfl⟩ : ∃ g, na = some ⟨g, 0, none⟩ := by
            rcases hon.2 with ⟨h1, h2⟩ | ⟨g, c', cur, h1, _⟩
            · omega
            · simp only [Value.slice.injEq] at h1; exact ⟨g, h1.1⟩
          obtain ⟨jg, rfl⟩ : ∃ g, ja = some ⟨g, 0, none⟩ := by
            rcases hoi.2 with ⟨h1, h2⟩ | ⟨g, c', cur, h1, _⟩
            · omega
            · simp only [Value.slice.injEq] at h1; exact ⟨g, h1.1⟩
          have c1 : wr.cell? ⟨ng, j, none⟩ = some (.int .i64 (UL.getD j 0)) := by
            have hju : j < UL.length := by rw [← HM.out]; exact hjm
            rw [hon.cellAt j (by omega)]
            simp [i64s, List.getD, hju]
          have c2 : wr.cell? ⟨jg, j, none⟩ = some (.int .i64 (UI.getD j 0)) := by
            have hju : j < UI.length := by rw [hle]; exact hjm
            rw [hoi.cellAt j (by omega)]
            simp [i64s, List.getD, hju]
          have hng := (hon.lt ng rfl).2
          have hjg := (hoi.lt jg rfl).2
          have HTK : Hid (((ACC ++ PE.take (j + 1)).map pcC).flatten = ((ACC ++ PE.take j).map pcC).flatten ++ [.int .i64 k, .int .i64 N0, .int .i64 (UL.getD j 0), .int .i64 (UI.getD j 0)]) := hid (by
            obtain ⟨h1, h2⟩ := List.getElem?_eq_some_iff.1 (HAT.out j hjm)
            rw [List.take_succ_eq_append_getElem h1, h2]
            simp [pcC])
          obtain ⟨XS, hXS⟩ : ∃ v, v = ((ACC ++ PE.take j).map pcC).flatten := ⟨_, rfl⟩
          rw [← hXS] at ho HTK
          clear hXS
          generalize UL.getD j 0 = v1 at *
          generalize UI.getD j 0 = v2 at *
          have HO := hid ho
          have HOI := hid hoi
          have HON := hid hon
          have HB := hid hb
          clear ho hoi hon hb
          go_wp2_with (at_builtin; refine wpList_append_lies _ rfl (.tmp 32) (.tmp 41) 211 rfl wb.heap.size 263 i0 (.agg #[.int .i64 0, .int .i64 0, .int .i64 0, .int .i64 0]) 4 32 Tryz.underlying211 hi hz0 hz1 hz2 rfl (by decide) _ _ _ rfl (HO.out.alloc _) ⟨wr.heap.size, 0, none⟩ 1 1 [.int .i64 k, .int .i64 N0, .int .i64 v1, .int .i64 v2] rfl rfl (four_new_at rfl _ _ _ _ _) (four_one _ _ _ _) (by decide) (by unfold maxLen; omega) (by omega) (by simp; omega) _ rfl ?_)
          intro g' c' w9 hown9 hgrow9 _ _
          have hb9 : Below wb.heap.size wb w9 := (HB.out.alloc hs _).grown hgrow9 (by simp; omega) (fun b hb => (HO.out.lt b hb).1)
          have hoi9 := owns_same HOI.out (w' := w9) (fun b hb => (hgrow9.block b (by have := (HOI.out.lt b hb).2; simp; omega) (fun e => owns_apart HO.out HOI.out (by decide) b hb e.symm)).trans (heap_alloc_old _ _ (HOI.out.lt b hb).2))
          have hon9 := owns_same HON.out (w' := w9) (fun b hb => (hgrow9.block b (by have := (HON.out.lt b hb).2; simp; omega) (fun e => owns_apart HO.out HON.out (by decide) b hb e.symm)).trans (heap_alloc_old _ _ (HON.out.lt b hb).2))
          rw [← HTK.out] at hown9
          have HO9 := hid hown9
          have HOI9 := hid hoi9
          have HON9 := hid hon9
          have HB9 := hid hb9
          clear hown9 hgrow9 hb9 hoi9 hon9 HO HOI HON HB c1 c2
          go_wp2
          go_roundw
          case rel => exact ⟨j + 1, by go_num, by omega, by rw [hbs]; exact HO9.out, HOI9.out, HON9.out, HB9.out⟩
          case measure => simp [intOf]; omega
        · have hjm' : decide ((j : Int) < (m : Int)) = false := by simp; omega
          have HF : Hid (ACC ++ PE.take j = plcD (L.take (k + 1)) ∧ N0 + j = (plcD (L.take (k + 1))).length) := hid (by
            have e : PE.take j = PE := List.take_of_length_le (by rw [HEL.out]; omega)
            rw [e, HNXT.out]
            refine ⟨rfl, ?_⟩
            rw [List.length_append, HEL.out, ← HN0.out]
            omega)
          have HO := hid ho
          have HB := hid hb
          clear ho hoi hon hb
          go_wp2
          go_roundw
          case rel =>
            refine ⟨k + 1, by go_num, by omega, ?_, HB.out⟩
            have h := HO.out
            rw [HF.out.1, HF.out.2] at h
            exact h
          case measure => simp [intOf]; omega
    · have hkn' : decide ((k : Int) < (n : Int)) = false := by simp; omega
      have HT : Hid (plcD (L.take k) = plcD L) := hid (by rw [List.take_of_length_le (by have := HN.out; omega)])
      rw [HT.out] at hown ⊢
      have HF := hid (⟨owns_low9 hown (show w.heap.size ≤ wb.heap.size by omega), hbw⟩ : _ ∧ _)
      clear hown hbel hbw
      go_wp2
      exact bodyPost_ret (v := .slice va (plcD L).length vcap) (by simp [results, Tryz.results164, go_sem]) rfl ⟨va, vcap, rfl, HF.out.1, HF.out.2⟩
end Go.Proofs.YtffnfjkjlmlonaaGreatDoor
