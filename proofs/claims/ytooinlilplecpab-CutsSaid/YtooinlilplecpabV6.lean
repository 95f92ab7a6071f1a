/- The law's own program whose function calls itself: its codes and its pcs; its contract. -/
import Derived.Test.YtooinlilplecpabBV
import Derived.Test.YtooinlilplecpabBQ
namespace Go.Proofs.Ytooinlilplecpab
open Go.RowKit

def downSpots : List (Int × Int) := (0, 0) :: List.replicate 19 (1, 4)
theorem downI_spots (n : Int) : ∀ k, (downI n k).map spot = (0, 0) :: List.replicate k (1, 4)
  | 0 => rfl
  | k + 1 => by
    show (downI n k ++ [(⟨1, 4, [n - k - 1, 1]⟩ : LiveD)]).map spot = _
    rw [List.map_append, downI_spots n k, List.replicate_succ']
    rfl
theorem down_pcs : ∀ k : Fin 31, (match codesD downP (k.val : Int) with | some cs => (pcsF cs downSpots noCode 0 []).length | none => 0) = if 6 ≤ k.val then 19 else 20 := by decide +kernel

theorem down_rd {w : World} {H1 H2 H4 H5 H7 : Nat} {t1 t2 t4 t5 t7 : TypeId}
    (k1 : w.heap[H1]? = some (.cells #[.int .i64 0] t1 (0, 0))) (k2 : w.heap[H2]? = some (.cells #[.int .i64 5, .int .i64 10, .int .i64 0, .int .i64 1, .int .i64 0, .slice (some ⟨H1, 0, none⟩) 1 1, .int .i64 6, .int .i64 20, .int .i64 0, .int .i64 0, .int .i64 0, .slice none 0 0] t2 (0, 0))) (k4 : w.heap[H4]? = some (.cells #[.int .i64 0] t4 (0, 0)))
    (k5 : w.heap[H5]? = some (.cells #[.int .i64 4, .int .i64 30, .int .i64 0, .int .i64 2, .int .i64 0, .slice none 0 0, .int .i64 6, .int .i64 40, .int .i64 0, .int .i64 0, .int .i64 0, .slice none 0 0, .int .i64 0, .int .i64 50, .int .i64 1, .int .i64 1, .int .i64 0, .slice none 0 0, .int .i64 2, .int .i64 60, .int .i64 0, .int .i64 0, .int .i64 1, .slice none 0 0, .int .i64 5, .int .i64 70, .int .i64 1, .int .i64 1, .int .i64 0, .slice (some ⟨H4, 0, none⟩) 1 1, .int .i64 6, .int .i64 80, .int .i64 1, .int .i64 0, .int .i64 0, .slice none 0 0] t5 (0, 0))) (k7 : w.heap[H7]? = some (.cells #[.string ⟨#[109, 97, 105, 110]⟩, .string ⟨#[109]⟩, .int .i64 1, .int .i64 1, .slice (some ⟨H2, 0, none⟩) 2 2, .string ⟨#[114, 101, 99]⟩, .string ⟨#[114]⟩, .int .i64 1, .int .i64 2, .slice (some ⟨H5, 0, none⟩) 6 6] t7 (0, 0))) :
    RdP w (some ⟨H7, 0, none⟩) 2 2 downP := by
  have b1 : RdL 6 RdOp w (some ⟨H2, 0, none⟩) 2 2 [⟨5, 10, 0, 1, 0, [0]⟩, ⟨6, 20, 0, 0, 0, []⟩] := by
    refine rdL_block (α := OpD) (size := 6) (R := RdOp) k2 [⟨5, 10, 0, 1, 0, [0]⟩, ⟨6, 20, 0, 0, 0, []⟩] [[.int .i64 5, .int .i64 10, .int .i64 0, .int .i64 1, .int .i64 0, .slice (some ⟨H1, 0, none⟩) 1 1], [.int .i64 6, .int .i64 20, .int .i64 0, .int .i64 0, .int .i64 0, .slice none 0 0]] rfl rfl (by intro c hc; simp at hc; rcases hc with rfl | rfl <;> rfl) (by simp [maxLen]) (fun i x c hx hc => ?_)
    match i, hx, hc with
    | 0, hx, hc => simp at hx hc; subst hx hc; exact ⟨_, _, rfl, rd_one k1⟩
    | 1, hx, hc => simp at hx hc; subst hx hc; exact op_none w _ _ _ _ _
    | i + 2, hx, _ => simp at hx
  have b2 : RdL 6 RdOp w (some ⟨H5, 0, none⟩) 6 6 [⟨4, 30, 0, 2, 0, []⟩, ⟨6, 40, 0, 0, 0, []⟩, ⟨0, 50, 1, 1, 0, []⟩, ⟨2, 60, 0, 0, 1, []⟩, ⟨5, 70, 1, 1, 0, [0]⟩, ⟨6, 80, 1, 0, 0, []⟩] := by
    refine rdL_block (α := OpD) (size := 6) (R := RdOp) k5 [⟨4, 30, 0, 2, 0, []⟩, ⟨6, 40, 0, 0, 0, []⟩, ⟨0, 50, 1, 1, 0, []⟩, ⟨2, 60, 0, 0, 1, []⟩, ⟨5, 70, 1, 1, 0, [0]⟩, ⟨6, 80, 1, 0, 0, []⟩] [[.int .i64 4, .int .i64 30, .int .i64 0, .int .i64 2, .int .i64 0, .slice none 0 0], [.int .i64 6, .int .i64 40, .int .i64 0, .int .i64 0, .int .i64 0, .slice none 0 0], [.int .i64 0, .int .i64 50, .int .i64 1, .int .i64 1, .int .i64 0, .slice none 0 0], [.int .i64 2, .int .i64 60, .int .i64 0, .int .i64 0, .int .i64 1, .slice none 0 0], [.int .i64 5, .int .i64 70, .int .i64 1, .int .i64 1, .int .i64 0, .slice (some ⟨H4, 0, none⟩) 1 1], [.int .i64 6, .int .i64 80, .int .i64 1, .int .i64 0, .int .i64 0, .slice none 0 0]] rfl rfl (by intro c hc; simp at hc; rcases hc with rfl | rfl | rfl | rfl | rfl | rfl <;> rfl) (by simp [maxLen]) (fun i x c hx hc => ?_)
    match i, hx, hc with
    | 0, hx, hc => simp at hx hc; subst hx hc; exact op_none w _ _ _ _ _
    | 1, hx, hc => simp at hx hc; subst hx hc; exact op_none w _ _ _ _ _
    | 2, hx, hc => simp at hx hc; subst hx hc; exact op_none w _ _ _ _ _
    | 3, hx, hc => simp at hx hc; subst hx hc; exact op_none w _ _ _ _ _
    | 4, hx, hc => simp at hx hc; subst hx hc; exact ⟨_, _, rfl, rd_one k4⟩
    | 5, hx, hc => simp at hx hc; subst hx hc; exact op_none w _ _ _ _ _
    | i + 6, hx, _ => simp at hx
  refine rdL_block (α := FnD) (size := 5) (R := RdFn) k7 downP [[.string ⟨#[109, 97, 105, 110]⟩, .string ⟨#[109]⟩, .int .i64 1, .int .i64 1, .slice (some ⟨H2, 0, none⟩) 2 2], [.string ⟨#[114, 101, 99]⟩, .string ⟨#[114]⟩, .int .i64 1, .int .i64 2, .slice (some ⟨H5, 0, none⟩) 6 6]] rfl rfl (by intro c hc; simp at hc; rcases hc with rfl | rfl <;> rfl) (by simp [maxLen, downP]) (fun i x c hx hc => ?_)
  match i, hx, hc with
  | 0, hx, hc => simp [downP] at hx hc; subst hx hc; exact ⟨_, _, rfl, b1, by unfold maxLen; decide, by unfold maxLen; decide⟩
  | 1, hx, hc => simp [downP] at hx hc; subst hx hc; exact ⟨_, _, rfl, b2, by unfold maxLen; decide, by unfold maxLen; decide⟩
  | i + 2, hx, _ => simp [downP] at hx

set_option maxHeartbeats 4000000 in
set_option maxRecDepth 100000 in
theorem down_any (w : World) : Calls Try.prog 11 #[] w fun e w' => ∃ a cap, e = .returned (.agg #[.slice a 2 cap]) ∧ RdP w' a 2 cap downP ∧ Below w.heap.size w w' := by
  go_enter Try.func11, Try.ntmps11
  go_wp2
  refine bodyPost_ret (v := .agg #[.slice (some ⟨w.heap.size + 1 + 1 + 1 + 1 + 1 + 1 + 1, 0, none⟩) 2 2]) (by simp [results, Try.results11, go_sem]) rfl ⟨_, _, rfl, ?_, ?_⟩
  · refine down_rd (t1 := 3) (t2 := 50) (t4 := 3) (t5 := 50) (t7 := 45) (H1 := w.heap.size + 1) (H2 := w.heap.size + 2) (H4 := w.heap.size + 4) (H5 := w.heap.size + 5) (H7 := w.heap.size + 7) ?_ ?_ ?_ ?_ ?_
    · iterate 6 refine heap_at1 (by simp <;> omega) ?_
      exact heap_new_at (by simp)
    · iterate 5 refine heap_at1 (by simp <;> omega) ?_
      exact heap_new_at (by simp)
    · iterate 3 refine heap_at1 (by simp <;> omega) ?_
      exact heap_new_at (by simp)
    · iterate 2 refine heap_at1 (by simp <;> omega) ?_
      exact heap_new_at (by simp)
    · exact heap_new_at (by simp)
  · exact ((((((((Below.refl _ _).alloc (Nat.le_refl _) _).alloc (by simp) _).alloc (by simp; omega) _).alloc (by simp; omega) _).alloc (by simp; omega) _).alloc (by simp; omega) _).alloc (by simp; omega) _).alloc (by simp; omega) _
end Go.Proofs.Ytooinlilplecpab
