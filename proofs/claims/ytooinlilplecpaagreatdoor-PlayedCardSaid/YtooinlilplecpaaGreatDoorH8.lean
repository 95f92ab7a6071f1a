/- Contracts of the statement's own functions write, marked and looks where no list has come out yet: nothing is done, and the look answers true. -/
import Derived.Test.YtooinlilplecpaaGreatDoorH7
namespace Go.Proofs.YtooinlilplecpaaGreatDoor
open Go.RowKit

def nils : Array Value := #[.slice none 0 0, .slice none 0 0, .slice none 0 0, .slice none 0 0, .slice none 0 0, .slice none 0 0, .slice none 0 0, .slice none 0 0, .slice none 0 0]
/-- The statement's world, with nothing in it. -/
def Bare (w : World) (g : Nat) : Prop := w.heap[g]? = some (.cells nils 34 (0, 0))

theorem Bare.cell {w : World} {g : Nat} (h : Bare w g) (j : Nat) (hj : j < 9) : w.cell? ⟨g, j, none⟩ = some (.slice none 0 0) := by
  unfold Bare at h
  simp only [World.cell?, h, Option.isSome_none]
  match j, hj with
  | 0, _ => rfl
  | 1, _ => rfl
  | 2, _ => rfl
  | 3, _ => rfl
  | 4, _ => rfl
  | 5, _ => rfl
  | 6, _ => rfl
  | 7, _ => rfl
  | 8, _ => rfl

set_option maxHeartbeats 1000000 in
set_option maxRecDepth 100000 in
theorem marked_bare (g : Nat) (w : World) (h : Bare w g) :
    Calls Tryz.prog 26 #[.pointer (some ⟨g, 0, none⟩)] w fun e w' => e = .returned (.bool true) ∧ Below w.heap.size w w' := by
  have c5 := h.cell 5 (by omega)
  have c6 := h.cell 6 (by omega)
  have c7 := h.cell 7 (by omega)
  have c8 := h.cell 8 (by omega)
  clear h
  go_enter Tryz.func26, Tryz.ntmps26
  go_wp2
  refine wp_loop_rounds 1 ?_
  rw [rounds_succ]
  go_wp2
  refine wp_loop_rounds 1 ?_
  rw [rounds_succ]
  go_wp2
  refine wp_loop_rounds 1 ?_
  rw [rounds_succ]
  go_wp2
  refine wp_loop_rounds 1 ?_
  rw [rounds_succ]
  go_wp2
  go_ret
  exact ⟨rfl, Below.refl _ _⟩

set_option maxHeartbeats 1000000 in
set_option maxRecDepth 100000 in
theorem looks_bare (g : Nat) (w : World) (h : Bare w g) :
    Calls Tryz.prog 15 #[.pointer (some ⟨g, 0, none⟩)] w fun e w' => e = .returned (.bool true) ∧ Below w.heap.size w w' := by
  have HM := hid (marked_bare g w h)
  have c1 := h.cell 1 (by omega)
  have c3 := h.cell 3 (by omega)
  clear h
  go_enter Tryz.func15, Tryz.ntmps15
  go_wp2
  refine wp_loop_rounds 1 ?_
  rw [rounds_succ]
  go_wp2
  refine wp_loop_rounds 1 ?_
  rw [rounds_succ]
  go_wp2_with (go_at_call 26; refine HM.out.mono ?_; rintro e w1 ⟨rfl, hb⟩)
  go_ret
  exact ⟨rfl, hb⟩
end Go.Proofs.YtooinlilplecpaaGreatDoor
