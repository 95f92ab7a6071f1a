/- Contracts of the statement's own functions intsOf, sameInts and intsStill: a list of numbers that is handed in with eight marks behind it, and the look whether it stands so still. -/
import Derived.Test.YtooinlilplecpabG1
import Derived.Test.YtooinlilplecpabBC
import Derived.Lib.SliceRun
namespace Go.Proofs.Ytooinlilplecpab
open Go.RowKit

theorem Try.infoInt : (Try.prog.info? 3).map (fun i => (i.zero, i.size, i.bytes)) = some (some (.int .i64 0), 1, 8) := by kernel_rfl
theorem Try.infoInt1 : (Try.prog.info? 3).map (·.size) = some 1 := by kernel_rfl

def ints (l : List Int) : List Value := l.map (Value.int .i64)
theorem ints_len (l : List Int) : (ints l).length = l.length := by simp [ints]
theorem ints_get (l : List Int) (i : Nat) (h : i < l.length) : (ints l)[i]? = some (.int .i64 (l.getD i 0)) := by simp [ints, List.getD, h]
theorem ints_set (l : List Int) (i : Nat) (x : Int) : (ints l).set i (.int .i64 x) = ints (l.set i x) := by simp [ints]
theorem ints_one (l : List Int) : ∀ u ∈ ints l, u.oneCell' = true := by
  intro u hu
  obtain ⟨x, _, rfl⟩ := List.mem_map.1 hu
  rfl

/-- The numbers of a list that is handed in, behind k of its eight marks. -/
def markI (l : List Int) (k : Nat) : List Int := l ++ (List.replicate k 77 ++ List.replicate (8 - k) 0)
theorem markI_len (l : List Int) (k : Nat) (h : k ≤ 8) : (markI l k).length = l.length + 8 := by simp [markI]; omega
theorem markI_set (l : List Int) (k : Nat) (h : k < 8) : (markI l k).set (l.length + k) 77 = markI l (k + 1) := by
  unfold markI
  rw [List.set_append_right _ _ (by omega), Nat.add_sub_cancel_left, List.set_append_right _ _ (by simp), List.length_replicate, Nat.sub_self]
  obtain ⟨m, hm⟩ : ∃ m, 8 - k = m + 1 := ⟨8 - k - 1, by omega⟩
  have hm2 : 8 - (k + 1) = m := by omega
  rw [hm, hm2, List.replicate_succ, List.set_cons_zero, List.replicate_succ']
  simp
theorem markI_at (l : List Int) (k : Nat) (h : k < 8) : (markI l 8).getD (l.length + k) 0 = 77 := by
  unfold markI
  simp only [List.getD]
  rw [List.getElem?_append_right (by omega), Nat.add_sub_cancel_left, List.getElem?_append_left (by simpa using h), List.getElem?_replicate_of_lt h]
  rfl
theorem markI_old (l : List Int) (i : Nat) (h : i < l.length) : (markI l 8).getD i 0 = l.getD i 0 := by
  unfold markI
  simp only [List.getD]
  rw [List.getElem?_append_left h]

theorem made_ints (n : Nat) : (madeCells (Value.int .i64 0).cells (n * 1)).toList = ints (List.replicate n 0) := by
  rw [Nat.mul_one, show (Value.int .i64 0).cells = #[Value.int .i64 0] from rfl, toList_madeCells_one]
  simp [ints]

theorem Rd.src {w : World} {b off len cap : Nat} {l : List Int} (h : Rd .i64 w (some ⟨b, off, none⟩) len cap l) : ∀ j v, (ints l)[j]? = some v → w.cell? ((⟨b, off, none⟩ : Addr).add j) = some v := by
  intro j v hj
  have hlt : j < (ints l).length := by
    rcases Nat.lt_or_ge j (ints l).length with h | h
    · exact h
    · rw [List.getElem?_eq_none h] at hj; cases hj
  rw [ints_len] at hlt
  rw [ints_get l j hlt] at hj
  cases hj
  have e1 : (⟨b, off, none⟩ : Addr).add j = ⟨b, off + j, none⟩ := by unfold Addr.add; split <;> simp_all
  rw [e1]
  obtain ⟨_, _, e, hc⟩ := h.cell j (by rw [← h.hlen]; exact hlt)
  cases e
  exact hc

/-- A list of numbers, made to be handed in. -/
def HdI (w : World) (base : Nat) (a : Option Addr) (l : List Int) (hv : Value) : Prop :=
  (a = none ∧ l = [] ∧ hv = .slice none 0 0) ∨
  (a ≠ none ∧ ∃ g, hv = .slice (some ⟨g, 0, none⟩) l.length (l.length + 8) ∧ w.ownsRow base 3 1 (.slice (some ⟨g, 0, none⟩) (l.length + 8) (l.length + 8)) (l.length + 8) (ints (markI l 8)))

theorem HdI.below {w w' : World} {base : Nat} {a : Option Addr} {l : List Int} {hv : Value} (h : HdI w base a l hv) (hb : Below w.heap.size w w') : HdI w' base a l hv := by
  rcases h with h | ⟨h1, g, e, ho⟩
  · exact .inl h
  · exact .inr ⟨h1, g, e, owns_below ho hb⟩
theorem owns_lower {w : World} {base base' : Nat} {e : TypeId} {size : Nat} {v : Value} {n : Nat} {xs : List Value} (h : w.ownsRow base e size v n xs) (hb : base' ≤ base) : w.ownsRow base' e size v n xs := by
  refine ⟨h.1, ?_⟩
  rcases h.2 with hn | ⟨g, cap, cur, hv, hg, r⟩
  · exact .inl hn
  · exact .inr ⟨g, cap, cur, hv, Nat.le_trans hb hg, r⟩
theorem HdI.lower {w : World} {base base' : Nat} {a : Option Addr} {l : List Int} {hv : Value} (h : HdI w base a l hv) (hb : base' ≤ base) : HdI w base' a l hv := by
  rcases h with h | ⟨h1, g, e, ho⟩
  · exact .inl h
  · exact .inr ⟨h1, g, e, owns_lower ho hb⟩
/-- What is handed in reads as the list that it was made of. -/
theorem HdI.read {w : World} {base : Nat} {a : Option Addr} {l : List Int} {hv : Value} (h : HdI w base a l hv) : ∃ a' cap, hv = .slice a' l.length cap ∧ Rd .i64 w a' l.length cap l := by
  rcases h with ⟨_, rfl, rfl⟩ | ⟨_, g, rfl, ho⟩
  · exact ⟨none, 0, rfl, rfl, Nat.le_refl _, by unfold maxLen; omega, fun i hi => by simp at hi⟩
  · have hml := markI_len l 8 (by omega)
    have hcm : l.length + 8 ≤ maxLen := by
      rcases ho.2 with ⟨h', _⟩ | ⟨g', cap', cur, h', _, _, _, hcm, _⟩
      · cases h'
      · cases h'; exact hcm
    refine ⟨_, _, rfl, rfl, by omega, hcm, fun i hi => ⟨g, 0, rfl, ?_⟩⟩
    have := ho.cellAt i (by omega)
    rw [ints_get _ i (by omega), markI_old l i hi] at this
    rw [Nat.zero_add]
    exact this

end Go.Proofs.Ytooinlilplecpab
