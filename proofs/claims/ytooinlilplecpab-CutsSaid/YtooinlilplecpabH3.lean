/- The contract of the statement's own function funcOf: it gives a function to hand in, its body with eight marks behind it; nothing that was there is written. -/
import Derived.Test.YtooinlilplecpabH2
namespace Go.Proofs.Ytooinlilplecpab
open Go.RowKit

/-- A block of cells of this element type. -/
def IsE (w : World) (g : Nat) (e : TypeId) : Prop := ∃ cs fz, w.heap[g]? = some (.cells cs e fz)
theorem IsE.setCell {w : World} {g : Nat} {e : TypeId} (h : IsE w g e) (g' j : Nat) (u : Value) : IsE (w.setCell ⟨g', j, none⟩ u) g e := by
  obtain ⟨cs, fz, hg⟩ := h
  by_cases hne : g = g'
  · subst hne
    refine ⟨cs.setIfInBounds j u, fz, ?_⟩
    simp [World.setCell, Array.getElem?_modify, hg]
  · exact ⟨cs, fz, (Below.heap_setCell w ⟨g', j, none⟩ u g hne).trans hg⟩
theorem HdI.setE {w : World} {base : Nat} {a : Option Addr} {l : List Int} {hv : Value} (h : HdI w base a l hv) {g : Nat} {e : TypeId} (hg : IsE w g e) (hne : 3 ≠ e) (j : Nat) (u : Value) : HdI (w.setCell ⟨g, j, none⟩ u) base a l hv := by
  obtain ⟨cs, fz, hg⟩ := hg
  rcases h with h | ⟨h1, g', e', ho⟩
  · exact .inl h
  · exact .inr ⟨h1, g', e', ownsRow_setCell_other ho (fun e => owns_other' ho hg hne e.symm) u⟩

/-- Of the ops that have been laid: each has the cells of its op, and numbers that were made to be handed in. -/
def Done (w : World) (base : Nat) (orig : Nat → Option Value) (l : List OpD) (done : List (List Value)) : Prop :=
  ∀ i o, i < done.length → l[i]? = some o → ∃ aa acap hv, orig i = some (.slice aa o.args.length acap) ∧ done[i]? = some (opCells o hv) ∧ HdI w base aa o.args hv

theorem Done.mono {w w' : World} {base : Nat} {orig : Nat → Option Value} {l : List OpD} {done : List (List Value)} (h : Done w base orig l done) (hm : ∀ aa l hv, HdI w base aa l hv → HdI w' base aa l hv) : Done w' base orig l done := by
  intro i o hi ho
  obtain ⟨aa, acap, hv, h1, h2, h3⟩ := h i o hi ho
  exact ⟨aa, acap, hv, h1, h2, hm _ _ _ h3⟩
theorem Done.snoc {w : World} {base : Nat} {orig : Nat → Option Value} {l : List OpD} {done : List (List Value)} (h : Done w base orig l done) (o : OpD) (ho : l[done.length]? = some o) (aa : Option Addr) (acap : Nat) (hv : Value)
    (h1 : orig done.length = some (.slice aa o.args.length acap)) (h2 : HdI w base aa o.args hv) : Done w base orig l (done ++ [opCells o hv]) := by
  intro i o' hi ho'
  rw [List.length_append, List.length_singleton] at hi
  by_cases hlt : i < done.length
  · obtain ⟨aa', acap', hv', e1, e2, e3⟩ := h i o' hlt ho'
    exact ⟨aa', acap', hv', e1, by rw [List.getElem?_append_left hlt]; exact e2, e3⟩
  · have : i = done.length := by omega
    subst this
    rw [ho] at ho'
    cases ho'
    exact ⟨aa, acap, hv, h1, by simp, h2⟩

/-- The body of a function that is handed in. -/
def HdB (w : World) (base : Nat) (orig : Nat → Option Value) (l : List OpD) (g : Nat) : Prop :=
  ∃ done, done.length = l.length ∧ (∀ e ∈ done, e.length = 6) ∧ Done w base orig l done ∧
    w.ownsRow base 50 6 (.slice (some ⟨g, 0, none⟩) (l.length + 8) (l.length + 8)) (l.length + 8) (done ++ List.replicate 8 markOp).flatten

/-- A whole entry of six cells stored into a row of the call's own. -/
theorem stored6 {w : World} {base g n cap : Nat} {e : TypeId} {ess : List (List Value)} (h : w.ownsRow base e 6 (.slice (some ⟨g, 0, none⟩) n cap) n ess.flatten) (hk : ∀ c ∈ ess, c.length = 6) (i : Nat) (hi : i < ess.length) (v0 v1 v2 v3 v4 v5 : Value) :
    ((((((w.setCell ⟨g, i * 6, none⟩ v0).setCell ⟨g, i * 6 + 1, none⟩ v1).setCell ⟨g, i * 6 + 2, none⟩ v2).setCell ⟨g, i * 6 + 3, none⟩ v3).setCell ⟨g, i * 6 + 4, none⟩ v4).setCell ⟨g, i * 6 + 5, none⟩ v5).ownsRow base e 6 (.slice (some ⟨g, 0, none⟩) n cap) n
      (ess.set i [v0, v1, v2, v3, v4, v5]).flatten := by
  have hc : (ess.getD i []).length = 6 := hk _ (by simp [List.getD, hi])
  match hcc : ess.getD i [], hc with
  | [x0, x1, x2, x3, x4, x5], _ =>
    have s0 := (h.stored (i * 6 + 0) v0).1
    rw [flatten_set 6 ess i 0 v0 hk hi (by omega), hcc] at s0
    have k0 := set_all_len hk i ([x0, x1, x2, x3, x4, x5].set 0 v0) rfl
    have s1 := (s0.stored (i * 6 + 1) v1).1
    rw [flatten_set 6 _ i 1 v1 k0 (by simpa using hi) (by omega)] at s1
    have g1 : (ess.set i ([x0, x1, x2, x3, x4, x5].set 0 v0)).getD i [] = [v0, x1, x2, x3, x4, x5] := by simp [List.getD, hi]
    rw [g1, List.set_set] at s1
    have k1 := set_all_len hk i ([v0, x1, x2, x3, x4, x5].set 1 v1) rfl
    have s2 := (s1.stored (i * 6 + 2) v2).1
    rw [flatten_set 6 _ i 2 v2 k1 (by simpa using hi) (by omega)] at s2
    have g2 : (ess.set i ([v0, x1, x2, x3, x4, x5].set 1 v1)).getD i [] = [v0, v1, x2, x3, x4, x5] := by simp [List.getD, hi]
    rw [g2, List.set_set] at s2
    have k2 := set_all_len hk i ([v0, v1, x2, x3, x4, x5].set 2 v2) rfl
    have s3 := (s2.stored (i * 6 + 3) v3).1
    rw [flatten_set 6 _ i 3 v3 k2 (by simpa using hi) (by omega)] at s3
    have g3 : (ess.set i ([v0, v1, x2, x3, x4, x5].set 2 v2)).getD i [] = [v0, v1, v2, x3, x4, x5] := by simp [List.getD, hi]
    rw [g3, List.set_set] at s3
    have k3 := set_all_len hk i ([v0, v1, v2, x3, x4, x5].set 3 v3) rfl
    have s4 := (s3.stored (i * 6 + 4) v4).1
    rw [flatten_set 6 _ i 4 v4 k3 (by simpa using hi) (by omega)] at s4
    have g4 : (ess.set i ([v0, v1, v2, x3, x4, x5].set 3 v3)).getD i [] = [v0, v1, v2, v3, x4, x5] := by simp [List.getD, hi]
    rw [g4, List.set_set] at s4
    have k4 := set_all_len hk i ([v0, v1, v2, v3, x4, x5].set 4 v4) rfl
    have s5 := (s4.stored (i * 6 + 5) v5).1
    rw [flatten_set 6 _ i 5 v5 k4 (by simpa using hi) (by omega)] at s5
    have g5 : (ess.set i ([v0, v1, v2, v3, x4, x5].set 4 v4)).getD i [] = [v0, v1, v2, v3, v4, x5] := by simp [List.getD, hi]
    rw [g5, List.set_set] at s5
    exact s5

theorem set_mid {α : Type} (done : List α) (m : Nat) (z c : α) (s : Nat) (hs : done.length = s) (hm : 0 < m) : (done ++ List.replicate m z).set s c = (done ++ [c]) ++ List.replicate (m - 1) z := by
  obtain ⟨k, rfl⟩ : ∃ k, m = k + 1 := ⟨m - 1, by omega⟩
  rw [List.set_append_right _ _ (by omega), hs, Nat.sub_self, List.replicate_succ, List.set_cons_zero]
  simp

theorem marks_set {α : Type} (done : List α) (m z : α) (k n : Nat) (hn : done.length = n) (h : k < 8) : (done ++ (List.replicate k m ++ List.replicate (8 - k) z)).set (n + k) m = done ++ (List.replicate (k + 1) m ++ List.replicate (8 - (k + 1)) z) := by
  rw [List.set_append_right _ _ (by omega), hn, Nat.add_sub_cancel_left, List.set_append_right _ _ (by simp), List.length_replicate, Nat.sub_self]
  obtain ⟨q, hq⟩ : ∃ q, 8 - k = q + 1 := ⟨8 - k - 1, by omega⟩
  have hq2 : 8 - (k + 1) = q := by omega
  rw [hq, hq2, List.replicate_succ, List.set_cons_zero, List.replicate_succ']
  simp
theorem marks_at {α : Type} (done : List α) (m z d : α) (k n : Nat) (hn : done.length = n) (h : k < 8) : (done ++ (List.replicate k m ++ List.replicate (8 - k) z)).getD (n + k) d = z := by
  simp only [List.getD]
  rw [List.getElem?_append_right (by omega), hn, Nat.add_sub_cancel_left, List.getElem?_append_right (by simp), List.length_replicate, Nat.sub_self, List.getElem?_replicate_of_lt (by omega)]
  rfl

/-- The relation of funcOf's first loop. -/
def RelF (w : World) (base : Nat) (orig : Nat → Option Value) (l : List OpD) (g : Nat) (i : Value) (wr : World) : Prop :=
  ∃ (s : Nat) (done : List (List Value)), i = .int .i64 s ∧ s ≤ l.length ∧ done.length = s ∧ (∀ e ∈ done, e.length = 6) ∧ Done wr base orig l done ∧
    wr.ownsRow base 50 6 (.slice (some ⟨g, 0, none⟩) (l.length + 8) (l.length + 8)) (l.length + 8) (done ++ List.replicate (l.length + 8 - s) zeroOp).flatten ∧ Below w.heap.size w wr

end Go.Proofs.Ytooinlilplecpab
