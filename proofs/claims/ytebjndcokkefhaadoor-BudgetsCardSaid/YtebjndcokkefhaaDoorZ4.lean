/- Rows of entries of several cells each: reading, storing, and what make lays. Contract of unfoldref.under: frames written anew. The contract of the statement's own function funcOf: it gives a function to hand in, its body with eight marks behind it; nothing that was there is written. Contracts of the statement's own functions sameOp and sameFunc: at two readings of one op, of one function, they return true; nothing that was there is written. Contract of the statement's own sameFrames. The contract of table.Bytes: it gives what the plain function of this text gives, in a row of the call's own; nothing that was there is written. -/
import Derived.Test.YtebjndcokkefhaaDoorZ3
import Derived.OneCell
import Derived.RegionTactic
import Derived.BigRegion
import Derived.Deep.RegionWith
import Derived.Test.YtebjndcokkefhaaDoorZ2
namespace Go.Proofs.YtebjndcokkefhaaDoor
open Go.RowKit

theorem flatten_len (k : Nat) : ∀ (ess : List (List Value)), (∀ e ∈ ess, e.length = k) → ess.flatten.length = ess.length * k
  | [], _ => by simp
  | e :: r, h => by
    have h1 := h e (by simp)
    have h2 := flatten_len k r (fun x hx => h x (by simp [hx]))
    simp only [List.flatten_cons, List.length_append, List.length_cons, h1, h2, Nat.add_mul]; omega
theorem flatten_get (k : Nat) : ∀ (ess : List (List Value)) (i j : Nat), (∀ e ∈ ess, e.length = k) → i < ess.length → j < k → ess.flatten[i * k + j]? = (ess.getD i [])[j]?
  | [], i, _, _, h, _ => by simp at h
  | e :: r, 0, j, hk, _, hj => by
    have h1 := hk e (by simp)
    rw [Nat.zero_mul, Nat.zero_add, List.flatten_cons, List.getElem?_append_left (by omega)]
    rfl
  | e :: r, i + 1, j, hk, hi, hj => by
    have h1 := hk e (by simp)
    have ih := flatten_get k r i j (fun x hx => hk x (by simp [hx])) (by simpa using hi) hj
    have e1 : (i + 1) * k + j = k + (i * k + j) := by rw [Nat.add_mul]; omega
    rw [List.flatten_cons, List.getElem?_append_right (by omega), h1, e1, Nat.add_sub_cancel_left, ih]
    rfl
theorem flatten_set (k : Nat) : ∀ (ess : List (List Value)) (i j : Nat) (v : Value), (∀ e ∈ ess, e.length = k) → i < ess.length → j < k → ess.flatten.set (i * k + j) v = (ess.set i ((ess.getD i []).set j v)).flatten
  | [], i, _, _, _, h, _ => by simp at h
  | e :: r, 0, j, v, hk, _, hj => by
    have h1 := hk e (by simp)
    rw [Nat.zero_mul, Nat.zero_add, List.flatten_cons, List.set_append_left _ _ (by omega)]
    rfl
  | e :: r, i + 1, j, v, hk, hi, hj => by
    have h1 := hk e (by simp)
    have ih := flatten_set k r i j v (fun x hx => hk x (by simp [hx])) (by simpa using hi) hj
    have e1 : (i + 1) * k + j = k + (i * k + j) := by rw [Nat.add_mul]; omega
    rw [List.flatten_cons, List.set_append_right _ _ (by omega), h1, e1, Nat.add_sub_cancel_left, ih]
    rfl
theorem set_all_len {k : Nat} {ess : List (List Value)} (h : ∀ e ∈ ess, e.length = k) (i : Nat) (c : List Value) (hc : c.length = k) : ∀ e ∈ ess.set i c, e.length = k := by
  intro e he
  rcases List.mem_or_eq_of_mem_set he with h' | h'
  · exact h e h'
  · rw [h']; exact hc

/-- A row of the call's own is not a block of another element type. -/
theorem owns_other' {w : World} {base : Nat} {e e' : TypeId} {size : Nat} {v : Value} {n : Nat} {xs : List Value} (h : w.ownsRow base e size v n xs) {g : Nat} {cs : Array Value} {fz : Nat × Nat} (hg : w.heap[g]? = some (.cells cs e' fz)) (hne : e ≠ e') : some g ≠ v.ownBlock := by
  rcases h.2 with ⟨rfl, _⟩ | ⟨g', cap, cur, rfl, _, hh, _⟩
  · simp [Value.ownBlock]
  · intro hb
    simp [Value.ownBlock] at hb
    subst hb
    rw [hg] at hh
    injection hh with hh
    injection hh with _ hh _
    exact hne hh.symm

def opCells (o : OpD) (hv : Value) : List Value := [.int .i64 o.code, .int .i64 o.line, .int .i64 o.a, .int .i64 o.b, .int .i64 o.c, hv]
def zeroOp : List Value := [.int .i64 0, .int .i64 0, .int .i64 0, .int .i64 0, .int .i64 0, .slice none 0 0]
def markOp : List Value := [.int .i64 0, .int .i64 77, .int .i64 0, .int .i64 0, .int .i64 0, .slice none 0 0]

theorem Tryd.infoOp : (Tryd.prog.info? 77).map (fun i => (i.zero, i.size, i.bytes)) = some (some (.agg #[.int .i64 0, .int .i64 0, .int .i64 0, .int .i64 0, .int .i64 0, .slice none 0 0]), 6, 64) := by kernel_rfl

theorem made_rows (z : List Value) (k n : Nat) (hk : z.length = k) (hp : 0 < k) : (madeCells z.toArray (n * k)).toList = (List.replicate n z).flatten := by
  apply List.ext_getElem?
  intro x
  have hall : ∀ e ∈ List.replicate n z, e.length = k := fun e he => by rw [List.eq_of_mem_replicate he]; exact hk
  by_cases hx : x < n * k
  · have hx2 : x / k < n := Nat.div_lt_of_lt_mul (by rw [Nat.mul_comm]; exact hx)
    have hm := Nat.mod_lt x hp
    have ex : x = x / k * k + x % k := by rw [Nat.mul_comm]; exact (Nat.div_add_mod x k).symm
    have hg := flatten_get k (List.replicate n z) (x / k) (x % k) hall (by simpa using hx2) hm
    rw [← ex] at hg
    rw [hg]
    have h1 : (List.replicate n z).getD (x / k) [] = z := by simp [List.getD, hx2]
    rw [h1]
    have h2 : z.toArray.size = k := by simpa using hk
    simp only [madeCells, Array.toList_map, Array.toList_range, List.getElem?_map, List.getElem?_range hx, Option.map_some, h2]
    rw [List.getElem?_eq_getElem (by omega)]
    congr 1
    rw [getElem!_pos _ _ (by simp; omega)]
    simp
  · rw [List.getElem?_eq_none (by rw [Array.length_toList, size_madeCells]; omega), List.getElem?_eq_none (by rw [flatten_len k _ hall]; simp; omega)]
end Go.Proofs.YtebjndcokkefhaaDoor
namespace Go.Proofs.YtebjndcokkefhaaDoor
open Go.RowKit

theorem add0' (g j : Nat) : (⟨g, 0, none⟩ : Addr).add j = ⟨g, 0 + j, none⟩ := by unfold Addr.add; split <;> simp_all
theorem RdL_of_owns {α : Type} {size : Nat} {R : World → List Value → α → Prop} {w : World} {base : Nat} {e : TypeId} {v : Value} {n : Nat} {css : List (List Value)} {ls : List α} (h : w.ownsRow base e size v n css.flatten) (hk : ∀ c ∈ css, c.length = size) (hl : css.length = n) (hls : ls.length = n)
    (hR : ∀ (i : Nat) (x : α) (cs : List Value), ls[i]? = some x → css[i]? = some cs → R w cs x) : ∃ a cap, v = .slice a n cap ∧ RdL size R w a n cap ls := by
  have hc := fun g hg => h.cells (g := g) hg
  rcases h.2 with ⟨rfl, rfl⟩ | ⟨g, cap, cur, rfl, _, hh, h1, h2, _⟩
  · exact ⟨none, 0, rfl, hls, Nat.le_refl _, by unfold maxLen; omega, fun i x hx => by
      have := (List.getElem?_eq_some_iff.1 hx).1
      omega⟩
  · refine ⟨_, cap, rfl, hls, h1, h2, fun i x hx => ?_⟩
    have hi : i < css.length := by
      have := (List.getElem?_eq_some_iff.1 hx).1
      omega
    have hcs : css[i]? = some (css.getD i []) := by simp [List.getD, hi]
    have hlen := hk _ (List.mem_of_getElem? hcs)
    refine ⟨g, 0, css.getD i [], rfl, hlen, fun j v hj => ?_, hR i x _ hx hcs⟩
    have hj' : j < size := by
      have := (List.getElem?_eq_some_iff.1 hj).1
      omega
    have := hc g rfl (i * size + j) v (by rw [flatten_get size css i j hk hi hj']; exact hj)
    rw [add0'] at this
    rw [Nat.add_assoc]
    exact this

end Go.Proofs.YtebjndcokkefhaaDoor
namespace Go.Proofs.YtebjndcokkefhaaDoor
open Go.RowKit

/-- A block of cells of this element type. -/
def IsE (w : World) (g : Nat) (e : TypeId) : Prop := ∃ cs fz, w.heap[g]? = some (.cells cs e fz)
theorem IsE.setCell {w : World} {g : Nat} {e : TypeId} (h : IsE w g e) (g' j : Nat) (u : Value) : IsE (w.setCell ⟨g', j, none⟩ u) g e := by
  obtain ⟨cs, fz, hg⟩ := h
  by_cases hne : g = g'
  · subst hne
    refine ⟨cs.setIfInBounds j u, fz, ?_⟩
    simp [World.setCell, Array.getElem?_modify, hg]
  · exact ⟨cs, fz, (Below.heap_setCell w ⟨g', j, none⟩ u g hne).trans hg⟩
theorem HdI.setE {w : World} {base : Nat} {a : Option Addr} {l : List Int} {hv : Value} (h : HdI w base a l hv) {g : Nat} {e : TypeId} (hg : IsE w g e) (hne : 3 ≠ e) (j : Nat) (u : Value) : HdI (w.setCell ⟨g, j, none⟩ u) base a l hv := by
  obtain ⟨cs, fz, hg⟩ := hg
  rcases h with h | ⟨h1, g', e', ho⟩
  · exact .inl h
  · exact .inr ⟨h1, g', e', ownsRow_setCell_other ho (fun e => owns_other' ho hg hne e.symm) u⟩

/-- Of the ops that have been laid: each has the cells of its op, and numbers that were made to be handed in. -/
def Done (w : World) (base : Nat) (orig : Nat → Option Value) (l : List OpD) (done : List (List Value)) : Prop :=
  ∀ i o, i < done.length → l[i]? = some o → ∃ aa acap hv, orig i = some (.slice aa o.args.length acap) ∧ done[i]? = some (opCells o hv) ∧ HdI w base aa o.args hv

theorem Done.mono {w w' : World} {base : Nat} {orig : Nat → Option Value} {l : List OpD} {done : List (List Value)} (h : Done w base orig l done) (hm : ∀ aa l hv, HdI w base aa l hv → HdI w' base aa l hv) : Done w' base orig l done := by
  intro i o hi ho
  obtain ⟨aa, acap, hv, h1, h2, h3⟩ := h i o hi ho
  exact ⟨aa, acap, hv, h1, h2, hm _ _ _ h3⟩
theorem Done.snoc {w : World} {base : Nat} {orig : Nat → Option Value} {l : List OpD} {done : List (List Value)} (h : Done w base orig l done) (o : OpD) (ho : l[done.length]? = some o) (aa : Option Addr) (acap : Nat) (hv : Value)
    (h1 : orig done.length = some (.slice aa o.args.length acap)) (h2 : HdI w base aa o.args hv) : Done w base orig l (done ++ [opCells o hv]) := by
  intro i o' hi ho'
  rw [List.length_append, List.length_singleton] at hi
  by_cases hlt : i < done.length
  · obtain ⟨aa', acap', hv', e1, e2, e3⟩ := h i o' hlt ho'
    exact ⟨aa', acap', hv', e1, by rw [List.getElem?_append_left hlt]; exact e2, e3⟩
  · have : i = done.length := by omega
    subst this
    rw [ho] at ho'
    cases ho'
    exact ⟨aa, acap, hv, h1, by simp, h2⟩

/-- The body of a function that is handed in. -/
def HdB (w : World) (base : Nat) (orig : Nat → Option Value) (l : List OpD) (g : Nat) : Prop :=
  ∃ done, done.length = l.length ∧ (∀ e ∈ done, e.length = 6) ∧ Done w base orig l done ∧
    w.ownsRow base 77 6 (.slice (some ⟨g, 0, none⟩) (l.length + 8) (l.length + 8)) (l.length + 8) (done ++ List.replicate 8 markOp).flatten

/-- A whole entry of six cells stored into a row of the call's own. -/
theorem stored6 {w : World} {base g n cap : Nat} {e : TypeId} {ess : List (List Value)} (h : w.ownsRow base e 6 (.slice (some ⟨g, 0, none⟩) n cap) n ess.flatten) (hk : ∀ c ∈ ess, c.length = 6) (i : Nat) (hi : i < ess.length) (v0 v1 v2 v3 v4 v5 : Value) :
    ((((((w.setCell ⟨g, i * 6, none⟩ v0).setCell ⟨g, i * 6 + 1, none⟩ v1).setCell ⟨g, i * 6 + 2, none⟩ v2).setCell ⟨g, i * 6 + 3, none⟩ v3).setCell ⟨g, i * 6 + 4, none⟩ v4).setCell ⟨g, i * 6 + 5, none⟩ v5).ownsRow base e 6 (.slice (some ⟨g, 0, none⟩) n cap) n
      (ess.set i [v0, v1, v2, v3, v4, v5]).flatten := by
  have hc : (ess.getD i []).length = 6 := hk _ (by simp [List.getD, hi])
  match hcc : ess.getD i [], hc with
  | [x0, x1, x2, x3, x4, x5], _ =>
    have s0 := (h.stored (i * 6 + 0) v0).1
    rw [flatten_set 6 ess i 0 v0 hk hi (by omega), hcc] at s0
    have k0 := set_all_len hk i ([x0, x1, x2, x3, x4, x5].set 0 v0) rfl
    have s1 := (s0.stored (i * 6 + 1) v1).1
    rw [flatten_set 6 _ i 1 v1 k0 (by simpa using hi) (by omega)] at s1
    have g1 : (ess.set i ([x0, x1, x2, x3, x4, x5].set 0 v0)).getD i [] = [v0, x1, x2, x3, x4, x5] := by simp [List.getD, hi]
    rw [g1, List.set_set] at s1
    have k1 := set_all_len hk i ([v0, x1, x2, x3, x4, x5].set 1 v1) rfl
    have s2 := (s1.stored (i * 6 + 2) v2).1
    rw [flatten_set 6 _ i 2 v2 k1 (by simpa using hi) (by omega)] at s2
    have g2 : (ess.set i ([v0, x1, x2, x3, x4, x5].set 1 v1)).getD i [] = [v0, v1, x2, x3, x4, x5] := by simp [List.getD, hi]
    rw [g2, List.set_set] at s2
    have k2 := set_all_len hk i ([v0, v1, x2, x3, x4, x5].set 2 v2) rfl
    have s3 := (s2.stored (i * 6 + 3) v3).1
    rw [flatten_set 6 _ i 3 v3 k2 (by simpa using hi) (by omega)] at s3
    have g3 : (ess.set i ([v0, v1, x2, x3, x4, x5].set 2 v2)).getD i [] = [v0, v1, v2, x3, x4, x5] := by simp [List.getD, hi]
    rw [g3, List.set_set] at s3
    have k3 := set_all_len hk i ([v0, v1, v2, x3, x4, x5].set 3 v3) rfl
    have s4 := (s3.stored (i * 6 + 4) v4).1
    rw [flatten_set 6 _ i 4 v4 k3 (by simpa using hi) (by omega)] at s4
    have g4 : (ess.set i ([v0, v1, v2, x3, x4, x5].set 3 v3)).getD i [] = [v0, v1, v2, v3, x4, x5] := by simp [List.getD, hi]
    rw [g4, List.set_set] at s4
    have k4 := set_all_len hk i ([v0, v1, v2, v3, x4, x5].set 4 v4) rfl
    have s5 := (s4.stored (i * 6 + 5) v5).1
    rw [flatten_set 6 _ i 5 v5 k4 (by simpa using hi) (by omega)] at s5
    have g5 : (ess.set i ([v0, v1, v2, v3, x4, x5].set 4 v4)).getD i [] = [v0, v1, v2, v3, v4, x5] := by simp [List.getD, hi]
    rw [g5, List.set_set] at s5
    exact s5

theorem set_mid {α : Type} (done : List α) (m : Nat) (z c : α) (s : Nat) (hs : done.length = s) (hm : 0 < m) : (done ++ List.replicate m z).set s c = (done ++ [c]) ++ List.replicate (m - 1) z := by
  obtain ⟨k, rfl⟩ : ∃ k, m = k + 1 := ⟨m - 1, by omega⟩
  rw [List.set_append_right _ _ (by omega), hs, Nat.sub_self, List.replicate_succ, List.set_cons_zero]
  simp

theorem marks_set {α : Type} (done : List α) (m z : α) (k n : Nat) (hn : done.length = n) (h : k < 8) : (done ++ (List.replicate k m ++ List.replicate (8 - k) z)).set (n + k) m = done ++ (List.replicate (k + 1) m ++ List.replicate (8 - (k + 1)) z) := by
  rw [List.set_append_right _ _ (by omega), hn, Nat.add_sub_cancel_left, List.set_append_right _ _ (by simp), List.length_replicate, Nat.sub_self]
  obtain ⟨q, hq⟩ : ∃ q, 8 - k = q + 1 := ⟨8 - k - 1, by omega⟩
  have hq2 : 8 - (k + 1) = q := by omega
  rw [hq, hq2, List.replicate_succ, List.set_cons_zero, List.replicate_succ']
  simp
theorem marks_at {α : Type} (done : List α) (m z d : α) (k n : Nat) (hn : done.length = n) (h : k < 8) : (done ++ (List.replicate k m ++ List.replicate (8 - k) z)).getD (n + k) d = z := by
  simp only [List.getD]
  rw [List.getElem?_append_right (by omega), hn, Nat.add_sub_cancel_left, List.getElem?_append_right (by simp), List.length_replicate, Nat.sub_self, List.getElem?_replicate_of_lt (by omega)]
  rfl

/-- The relation of funcOf's first loop. -/
def RelF (w : World) (base : Nat) (orig : Nat → Option Value) (l : List OpD) (g : Nat) (i : Value) (wr : World) : Prop :=
  ∃ (s : Nat) (done : List (List Value)), i = .int .i64 s ∧ s ≤ l.length ∧ done.length = s ∧ (∀ e ∈ done, e.length = 6) ∧ Done wr base orig l done ∧
    wr.ownsRow base 77 6 (.slice (some ⟨g, 0, none⟩) (l.length + 8) (l.length + 8)) (l.length + 8) (done ++ List.replicate (l.length + 8 - s) zeroOp).flatten ∧ Below w.heap.size w wr

end Go.Proofs.YtebjndcokkefhaaDoor
namespace Go.Proofs.YtebjndcokkefhaaDoor
open Go.RowKit

end Go.Proofs.YtebjndcokkefhaaDoor
namespace Go.Proofs.YtebjndcokkefhaaDoor
open Go.RowKit

/-- A frame that is told. -/
structure FrameD where
  func : ByteArray
  file : ByteArray
  line : Int
def frCells (x : FrameD) : List Value := [.string x.func, .string x.file, .int .i64 x.line]
def RdFrame (_ : World) (cs : List Value) (x : FrameD) : Prop := cs = frCells x

theorem RdL.frameAt {w : World} {a : Option Addr} {n cap : Nat} {l : List FrameD} (h : RdL 3 RdFrame w a n cap l) (i : Nat) (x : FrameD) (hx : l[i]? = some x) :
    ∃ b off, a = some ⟨b, off, none⟩ ∧ w.cell? ⟨b, off + i * 3, none⟩ = some (.string x.func) ∧ w.cell? ⟨b, off + i * 3 + 1, none⟩ = some (.string x.file) ∧ w.cell? ⟨b, off + i * 3 + 2, none⟩ = some (.int .i64 x.line) := by
  obtain ⟨b, off, cs, e, _, hc, rfl⟩ := h.2.2.2 i x hx
  exact ⟨b, off, e, hc 0 _ rfl, hc 1 _ rfl, hc 2 _ rfl⟩

end Go.Proofs.YtebjndcokkefhaaDoor
namespace Go.Proofs.YtebjndcokkefhaaDoor
open Go.RowKit

theorem wfS_len : ∀ (l : List (Int × Int)) (b r : Int), wfS l b r = true → 0 ≤ r → (l.length : Int) ≤ r
  | [], _, _, _, h => by simpa using h
  | p :: t, b, r, h, hr => by
    unfold wfS at h
    by_cases h1 : isV p.1 = false ∨ p.1 = b
    · rw [if_pos h1] at h; cases h
    · rw [if_neg h1] at h
      by_cases h2 : p.2 < 1 ∨ r < p.2
      · rw [if_pos h2] at h; cases h
      · rw [if_neg h2] at h
        have := wfS_len t _ _ h (by omega)
        simp; omega
theorem wfS_at : ∀ (l : List (Int × Int)) (b r : Int) (k : Nat), wfS l b r = true → r ≤ 1000 → k < l.length →
    0 ≤ (l.getD k (0, 0)).1 ∧ (l.getD k (0, 0)).1 ≤ 9999 ∧ 1 ≤ (l.getD k (0, 0)).2 ∧ (l.getD k (0, 0)).2 ≤ 1000
  | [], _, _, _, _, _, h => by simp at h
  | p :: t, b, r, k, h, hr, hk => by
    unfold wfS at h
    by_cases h1 : isV p.1 = false ∨ p.1 = b
    · rw [if_pos h1] at h; cases h
    · rw [if_neg h1] at h
      by_cases h2 : p.2 < 1 ∨ r < p.2
      · rw [if_pos h2] at h; cases h
      · rw [if_neg h2] at h
        cases k with
        | zero =>
          have hv : isV p.1 = true := by simpa using fun e => h1 (.inl e)
          unfold isV at hv
          have hv := of_decide_eq_true hv
          simp only [List.getD_cons_zero]
          omega
        | succ k =>
          have := wfS_at t _ _ k h (by omega) (by simpa using hk)
          simpa using this

def atS : List (Int × Int) → Int → Int × Int
  | [], _ => (0, 1)
  | p :: r, pc => if pc < p.2 then (p.1, 0) else atS r (pc - p.2)
def atT (l : List (Int × Int)) (pc : Int) : Int × Int := if wfT l = false then (0, 4) else if pc < 0 then (0, 1) else atS l pc

theorem drop_getD {α : Type} (l : List α) (k : Nat) (d : α) (h : k < l.length) : l.drop k = l.getD k d :: l.drop (k + 1) := by
  rw [List.drop_eq_getElem_cons h]; simp [List.getD, h]

theorem owns_some {w : World} {base : Nat} {e : TypeId} {size : Nat} {v : Value} {n : Nat} {xs : List Value} (h : w.ownsRow base e size v n xs) (hn : 0 < n) :
    ∃ g cap, v = .slice (some ⟨g, 0, none⟩) n cap ∧ base ≤ g ∧ g < w.heap.size ∧ ∀ j u, xs[j]? = some u → w.cell? ((⟨g, 0, none⟩ : Addr).add j) = some u := by
  have hc := fun g hg => h.cells (g := g) hg
  rcases h.2 with ⟨_, h0⟩ | ⟨g, cap, cur, rfl, hg, hh, _⟩
  · omega
  · exact ⟨g, cap, rfl, hg, (Array.getElem?_eq_some_iff.1 hh).1, hc g rfl⟩

def putS : List (Int × Int) → Int → List Int
  | [], _ => [0]
  | p :: r, before => numB (zig (p.1 - before)) ++ (numB p.2 ++ putS r p.1)
def putT (l : List (Int × Int)) : List Int × Int := if wfT l = false then ([], 4) else (putS l (-1), 0)
theorem zig_bd (d : Int) (h1 : -10000 ≤ d) (h2 : d ≤ 10000) : 0 ≤ zig d ∧ zig d ≤ 20000 := by
  unfold zig; by_cases h : 0 ≤ d
  · rw [if_pos h]; omega
  · rw [if_neg h]; omega

/-- The relation of table.Bytes' loop. -/
def RelP (w : World) (l : List (Int × Int)) (b before i : Value) (wr : World) : Prop :=
  ∃ (k : Nat) (pre : List Int) (c : Int), before = .int .i64 c ∧ i = .int .i64 k ∧ k ≤ l.length ∧ -1 ≤ c ∧ c ≤ 9999 ∧ putS l (-1) = pre ++ putS (l.drop k) c ∧ pre.length ≤ 10 * k ∧
    wr.ownsRow w.heap.size 5 1 b pre.length (u8s pre) ∧ Below w.heap.size w wr

/-- A row of the call's own is not a block of another element type. -/
theorem owns_other {w : World} {base : Nat} {e e' : TypeId} {size : Nat} {v : Value} {n : Nat} {xs : List Value} (h : w.ownsRow base e size v n xs) {g : Nat} {cs : Array Value} {fz : Nat × Nat} (hg : w.heap[g]? = some (.cells cs e' fz)) (hne : e ≠ e') : some g ≠ v.ownBlock := by
  rcases h.2 with ⟨rfl, _⟩ | ⟨g', cap, cur, rfl, _, hh, _⟩
  · simp [Value.ownBlock]
  · intro hb
    simp [Value.ownBlock] at hb
    subst hb
    rw [hg] at hh
    injection hh with hh
    injection hh with _ hh _
    exact hne hh.symm

theorem box_cells {w : World} {g : Nat} {x y : Value} {e : TypeId} (h : w.heap[g]? = some (.cells #[x, y] e (0, 0))) : w.cell? ⟨g, 0, none⟩ = some x ∧ w.cell? ⟨g, 1, none⟩ = some y := by
  constructor <;> simp [World.cell?, h]

theorem u8s_one (l : List Int) : ∀ u ∈ u8s l, u.oneCell' = true := by
  intro u hu
  obtain ⟨x, _, rfl⟩ := List.mem_map.1 hu
  rfl

theorem owns_low7 {w : World} {base base' : Nat} {e : TypeId} {size : Nat} {v : Value} {n : Nat} {xs : List Value} (h : w.ownsRow base e size v n xs) (hb : base' ≤ base) : w.ownsRow base' e size v n xs := by
  refine ⟨h.1, ?_⟩
  rcases h.2 with hn | ⟨g, cap, cur, hv, hg, r⟩
  · exact .inl hn
  · exact .inr ⟨g, cap, cur, hv, Nat.le_trans hb hg, r⟩

set_option maxHeartbeats 2000000 in
set_option maxRecDepth 100000 in
theorem tbytes_any (a : Option Addr) (len cap : Nat) (l : List (Int × Int)) (w : World) (hr : RdS w a len cap l) (hwt : wfT l = true) :
    Calls Tryd.prog 79 #[.slice a len cap] w fun e w' => ∃ v, e = .returned v ∧
      w'.ownsRow w.heap.size 5 1 v (putS l (-1)).length (u8s (putS l (-1))) ∧ Below w.heap.size w w' := by
  have HL := hid hr.hlen
  have hmax := hr.hmax
  have hcap := hr.hcap
  unfold maxLen at hmax
  obtain ⟨i0, hi, hz0, hz1, hz2⟩ := info_parts Tryd.infoByte
  have hws : wfS l (-1) 1000 = true := by unfold wfT at hwt; rw [Bool.and_eq_true] at hwt; exact hwt.1
  have hln := wfS_len l (-1) 1000 hws (by omega)
  have HWS := hid hws
  clear hwt hws
  have hb : Below w.heap.size w w := Below.refl _ _
  go_enter Tryd.func79, Tryd.ntmps79
  go_wp2
  go_loopw [3, 4, 10] (fun b c i wr => RelP w l b c i wr) (fun _ _ i _ => len - (intOf i).toNat)
  case atStart => exact ⟨0, [], -1, rfl, rfl, by omega, by omega, by omega, rfl, by simp, World.ownsRow_nil _ _ _ _, hb⟩
  case round =>
    clear hb
    obtain ⟨k, pre, c, rfl, rfl, hk, hc0, hc1, hP, hpl, hown, hbel⟩ := hrel
    rw [HL.out] at hk hln
    have hsz := hbel.size
    by_cases hlt : k < len
    · obtain ⟨b0, off, rfl, hc⟩ := (hr.below hbel (Nat.le_refl _)).open (by omega)
      obtain ⟨hcv, hcn⟩ := hc k hlt
      have hlt' : k < l.length := by rw [HL.out]; exact hlt
      have hb0 := World.block_lt_of_cell? wr _ hcv
      have hat := wfS_at l (-1) 1000 k HWS.out (by omega) hlt'
      have e : putS (l.drop k) c = numB (zig ((l.getD k (0, 0)).1 - c)) ++ (numB (l.getD k (0, 0)).2 ++ putS (l.drop (k + 1)) (l.getD k (0, 0)).1) := by
        rw [drop_getD l k (0, 0) hlt']; rfl
      obtain ⟨⟨v, n⟩, hp⟩ : ∃ p, l.getD k (0, 0) = p := ⟨_, rfl⟩
      rw [hp] at hcv hcn e hat
      simp only at hcv hcn e hb0 hat
      obtain ⟨d1, d2, d3, d4⟩ := hat
      have HP := hid (hP.trans (by rw [e]))
      clear e hP hr hc hp
      have hzb := zig_bd (v - c) (by omega) (by omega)
      go_wp2_with (go_at_call 101; refine (fromSigned_any _ _ (by omega) (by omega)).mono ?_; rintro e w' ⟨rfl, rfl⟩)
      obtain ⟨bw, hbw⟩ : ∃ bw, bw = wr.alloc (Obj.cells #[Value.int IntKind.i64 v, Value.int IntKind.i64 n] 90) := ⟨_, rfl⟩
      have hown1 : bw.ownsRow w.heap.size 5 1 u3 pre.length (u8s pre) := by rw [hbw]; exact hown.alloc _
      have hbel1 : Below w.heap.size w bw := by rw [hbw]; exact hbel.alloc hsz _
      have hbs : bw.heap.size = wr.heap.size + 1 := by rw [hbw]; simp
      have hx : bw.heap[wr.heap.size]? = some (.cells #[.int .i64 v, .int .i64 n] 90 (0, 0)) := by rw [hbw]; exact heap_alloc_new _ _
      rw [← hbw]
      clear hbw hown hbel hcv hcn
      refine (bytes_any _ _ (by omega) (by omega)).mono ?_
      rintro e w2 ⟨v2, rfl, ho2, hb2⟩
      have hl1 := numB_len (zig (v - c))
      obtain ⟨A, hA⟩ : ∃ A, A = numB (zig (v - c)) := ⟨_, rfl⟩
      rw [← hA] at ho2 hl1 HP
      clear hA
      obtain ⟨g2, cap2, rfl, hg2, hg2', hcs2⟩ := owns_some ho2 (by omega)
      have hown2 := owns_below hown1 hb2
      have hbel2 := hbel1.trans (hb2.mono hbel1.size)
      have hy := (hb2.block wr.heap.size (by omega)).trans hx
      have hs2 := hb2.size
      clear hown1 hbel1 hx hb2 ho2 hzb
      have HY := hid hy
      clear hy
      go_wp2_with (at_builtin; refine wpList_append_own _ rfl (.tmp 19) (.tmp 21) 26 rfl w.heap.size 5 i0 (.int .u8 0) 1 1 Tryd.underlying26 hi hz0 hz1 hz2 rfl (by decide) _ _ _ rfl hown2 ⟨g2, 0, none⟩ A.length cap2 (u8s A) rfl (by rw [u8s_len, Nat.mul_one]) hcs2 (u8s_one A) (by unfold maxLen; omega) (by omega) (by omega) ?_)
      intro v3 w3 hown3 hgrow3 _
      have hbel3 : Below w.heap.size w w3 := hbel2.grown hgrow3 (by omega) (fun k hk => (hown2.lt k hk).1)
      have hz := (hgrow3.block wr.heap.size (by omega) (owns_other hown2 HY.out (by decide))).trans HY.out
      obtain ⟨hz0', hz1'⟩ := box_cells hz
      have hs3 := hgrow3.size
      clear hown2 hbel2 HY hgrow3 hcs2
      have HZ := hid hz
      clear hz
      go_wp2_with fail
      clear hz0' hz1'
      refine (bytes_any _ _ (by omega) (by omega)).mono ?_
      rintro e w4 ⟨v4, rfl, ho4, hb4⟩
      have hl4 := numB_len n
      obtain ⟨B, hB⟩ : ∃ B, B = numB n := ⟨_, rfl⟩
      rw [← hB] at ho4 hl4 HP
      clear hB
      obtain ⟨g4, cap4, rfl, hg4, hg4', hcs4⟩ := owns_some ho4 (by omega)
      have hown4 := owns_below hown3 hb4
      have hbel4 := hbel3.trans (hb4.mono hbel3.size)
      have hy := (hb4.block wr.heap.size (by omega)).trans HZ.out
      have hs4 := hb4.size
      clear hown3 hbel3 HZ hb4 ho4
      have HY := hid hy
      clear hy
      go_wp2_with (at_builtin; refine wpList_append_own _ rfl (.tmp 23) (.tmp 26) 26 rfl w.heap.size 5 i0 (.int .u8 0) 1 1 Tryd.underlying26 hi hz0 hz1 hz2 rfl (by decide) _ _ _ rfl hown4 ⟨g4, 0, none⟩ B.length cap4 (u8s B) rfl (by rw [u8s_len, Nat.mul_one]) hcs4 (u8s_one B) (by unfold maxLen; omega) (by omega) (by omega) ?_)
      intro v5 w5 hown5 hgrow5 _
      have hbel5 : Below w.heap.size w w5 := hbel4.grown hgrow5 (by omega) (fun k hk => (hown4.lt k hk).1)
      have hz := (hgrow5.block wr.heap.size (by omega) (owns_other hown4 HY.out (by decide))).trans HY.out
      obtain ⟨hz0', hz1'⟩ := box_cells hz
      clear hown4 hbel4 HY hgrow5 hcs4 hz hz1'
      have HO := hid hown5
      clear hown5
      go_wp2
      go_roundw
      case rel =>
        refine ⟨k + 1, pre ++ (A ++ B), v, rfl, by go_num, by omega, by omega, by omega, by rw [HP.out]; simp, by simp; omega, ?_, hbel5⟩
        rw [u8s_append, u8s_append, List.length_append, List.length_append, ← Nat.add_assoc]
        exact HO.out
      case measure => simp [intOf]; omega
    · have HP : Hid (putS l (-1) = pre ++ [0]) := by show _ = _; rw [hP, List.drop_of_length_le (by rw [HL.out]; omega)]; rfl
      clear hP
      go_wp2_with (at_builtin; refine wpList_append_own _ rfl (.tmp 31) (.tmp 32) 26 rfl w.heap.size 5 i0 (.int .u8 0) 1 1 Tryd.underlying26 hi hz0 hz1 hz2 rfl (by decide) _ _ _ rfl (hown.alloc _) ⟨wr.heap.size, 0, none⟩ 1 1 [.int .u8 0] rfl rfl (cell_one_new _ _ _) (fun u hu => by rw [List.mem_singleton.1 hu]; rfl) (by unfold maxLen; omega) (by omega) (by simp; omega) ?_)
      intro v5 w5 hown5 hgrow5 _
      have hbel5 : Below w.heap.size w w5 := (hbel.alloc hsz _).grown hgrow5 (by simp; omega) (fun k hk => (hown.lt k hk).1)
      have HO := hid hown5
      clear hown5 hgrow5 hown hbel
      go_wp2
      go_ret
      rw [HP.out]
      refine ⟨_, rfl, ?_, hbel5⟩
      rw [u8s_snoc, List.length_append]
      exact HO.out

end Go.Proofs.YtebjndcokkefhaaDoor
