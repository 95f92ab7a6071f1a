/- Contract of the reference's Run, and what it answers, as plain functions. -/
import Derived.Test.YtooinlilplecpabBR
import Derived.Test.YtooinlilplecpabR12
namespace Go.Proofs.Ytooinlilplecpab
open Go.RowKit

/-- The error that Run answers. -/
def runE (p : List FnD) (args : List Int) (n : Int) : Int := if (chk p).1 ≠ 0 then (chk p).1 else if givenB p args = true ∧ 0 ≤ n ∧ n ≤ 2000 then 0 else 1
/-- How the run stands that Run tells of. -/
def runS (p : List FnD) (args : List Int) (n : Int) : StandD := if runE p args n = 0 then runD p (begunD p args) n.toNat else ⟨0, 0, []⟩

theorem chkB_seven {p : List FnD} {x : FnD} {f : Nat} : ∀ (l : List OpD) (s : Nat) e, chkB p x f l s = some e → e.1 = 7 := by
  intro l
  induction l with
  | nil => intro s e h; simp [chkB] at h
  | cons o r ih =>
    intro s e h
    unfold chkB at h
    split at h
    · exact ih _ _ h
    · cases h; rfl
theorem chkF_zero {p : List FnD} : ∀ (l : List FnD) (f : Nat), (chkF p l f).1 = 0 → chkF p l f = (0, 0, 0) := by
  intro l
  induction l with
  | nil => intro f _; rfl
  | cons x r ih =>
    intro f h
    unfold chkF at h ⊢
    split at h
    · next h1 =>
      rw [if_pos h1]
      split at h
      · next e he =>
        have := chkB_seven _ _ _ he
        omega
      · next he => exact ih _ h
    · simp at h
theorem chk_zero {p : List FnD} (h : (chk p).1 = 0) : chk p = (0, 0, 0) := by
  unfold chk at h ⊢
  split at h
  · simp at h
  · next h1 => rw [if_neg h1]; exact chkF_zero _ _ h

theorem given_true {p : List FnD} {args : List Int} (h : givenB p args = true) : (args.length : Int) = (fnAt p 0).params ∧ ∀ v ∈ args, 0 ≤ v ∧ v < 1000 := by
  obtain ⟨h1, h2⟩ := andB.1 h
  exact ⟨by simpa using h2, fun v hv => withB_true (List.all_eq_true.1 h1 v hv)⟩

theorem rdNone (W : World) : RdL 3 RdFrame W none 0 0 [] := ⟨rfl, Nat.le_refl _, by unfold maxLen; omega, fun i x hx => by simp at hx⟩
theorem rdFrame_of_owns {w : World} {B n : Nat} {v : Value} {l : List FrameD} (h : w.ownsRow B 47 3 v n (l.map frCells).flatten) (hl : l.length = n) : ∃ a cap, v = .slice a n cap ∧ RdL 3 RdFrame w a n cap l :=
  RdL_of_owns h (fun c hc => by obtain ⟨x, _, rfl⟩ := List.mem_map.1 hc; rfl) (by simp [hl]) hl (fun i x cs hx hcs => by
    rw [List.getElem?_map, hx] at hcs
    simp at hcs
    exact hcs.symm)

end Go.Proofs.Ytooinlilplecpab
