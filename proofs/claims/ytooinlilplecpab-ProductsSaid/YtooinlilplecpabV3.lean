/- Contract of the law's own program that multiplies. -/
import Derived.Test.YtooinlilplecpabV2
namespace Go.Proofs.Ytooinlilplecpab
open Go.RowKit

/-- A row of elements whose block is known whole. -/
theorem rdL_block {α : Type} {size : Nat} {R : World → List Value → α → Prop} {w : World} {b : Nat} {cur : Array Value} {t : TypeId} (hk : w.heap[b]? = some (.cells cur t (0, 0))) (l : List α) (css : List (List Value)) (hc : cur.toList = css.flatten) (hlen : css.length = l.length) (hs : ∀ c ∈ css, c.length = size) (hm : l.length ≤ maxLen)
    (hR : ∀ (i : Nat) (x : α) (c : List Value), l[i]? = some x → css[i]? = some c → R w c x) : RdL size R w (some ⟨b, 0, none⟩) l.length l.length l := by
  refine ⟨rfl, Nat.le_refl _, hm, fun i x hx => ?_⟩
  have hil := (List.getElem?_eq_some_iff.1 hx).1
  obtain ⟨c, hcx⟩ : ∃ c, css[i]? = some c := ⟨_, List.getElem?_eq_getElem (by omega)⟩
  have hcl := hs c (List.mem_of_getElem? hcx)
  refine ⟨b, 0, c, rfl, hcl, fun j v hv => ?_, hR i x c hx hcx⟩
  have hj : j < size := by have := (List.getElem?_eq_some_iff.1 hv).1; omega
  have hf := flatten_get size css i j hs (by omega) hj
  have hgd : css.getD i [] = c := by simp [List.getD, hcx]
  rw [hgd, hv, ← hc] at hf
  have hf2 : cur[i * size + j]? = some v := by rw [← hf]; simp
  simp [World.cell?, hk, hf2]
theorem rd_none (w : World) : Rd .i64 w none 0 0 [] := ⟨rfl, Nat.le_refl _, by unfold maxLen; omega, fun i h => by omega⟩
theorem rd_two {w : World} {b : Nat} {x y : Int} {t : TypeId} (hk : w.heap[b]? = some (.cells #[.int .i64 x, .int .i64 y] t (0, 0))) : Rd .i64 w (some ⟨b, 0, none⟩) 2 2 [x, y] := ⟨rfl, Nat.le_refl _, by unfold maxLen; omega, fun i hi => ⟨b, 0, rfl, by
  match i, hi with
  | 0, _ => simp [World.cell?, hk]
  | 1, _ => simp [World.cell?, hk]⟩⟩
theorem rd_one {w : World} {b : Nat} {x : Int} {t : TypeId} (hk : w.heap[b]? = some (.cells #[.int .i64 x] t (0, 0))) : Rd .i64 w (some ⟨b, 0, none⟩) 1 1 [x] := ⟨rfl, Nat.le_refl _, by unfold maxLen; omega, fun i hi => ⟨b, 0, rfl, by
  match i, hi with
  | 0, _ => simp [World.cell?, hk]⟩⟩
theorem op_none (w : World) (c l a b d : Int) : RdOp w [.int .i64 c, .int .i64 l, .int .i64 a, .int .i64 b, .int .i64 d, .slice none 0 0] ⟨c, l, a, b, d, []⟩ := ⟨none, 0, rfl, rd_none w⟩

theorem times_rd {w : World} {H1 H2 H4 H5 H7 H9 : Nat} {t1 t2 t4 t5 t7 t9 : TypeId}
    (k1 : w.heap[H1]? = some (.cells #[.int .i64 0, .int .i64 1] t1 (0, 0))) (k2 : w.heap[H2]? = some (.cells #[.int .i64 5, .int .i64 1, .int .i64 2, .int .i64 1, .int .i64 0, .slice (some ⟨H1, 0, none⟩) 2 2, .int .i64 6, .int .i64 2, .int .i64 2, .int .i64 0, .int .i64 0, .slice none 0 0] t2 (0, 0))) (k4 : w.heap[H4]? = some (.cells #[.int .i64 2, .int .i64 0] t4 (0, 0)))
    (k5 : w.heap[H5]? = some (.cells #[.int .i64 0, .int .i64 3, .int .i64 3, .int .i64 1, .int .i64 0, .slice none 0 0, .int .i64 4, .int .i64 4, .int .i64 1, .int .i64 3, .int .i64 0, .slice none 0 0, .int .i64 6, .int .i64 5, .int .i64 2, .int .i64 0, .int .i64 0, .slice none 0 0, .int .i64 5, .int .i64 6, .int .i64 2, .int .i64 2, .int .i64 0, .slice (some ⟨H4, 0, none⟩) 2 2, .int .i64 2, .int .i64 7, .int .i64 1, .int .i64 1, .int .i64 3, .slice none 0 0, .int .i64 4, .int .i64 8, .int .i64 3, .int .i64 1, .int .i64 0, .slice none 0 0, .int .i64 6, .int .i64 9, .int .i64 2, .int .i64 0, .int .i64 0, .slice none 0 0] t5 (0, 0))) (k7 : w.heap[H7]? = some (.cells #[.int .i64 1, .int .i64 1, .int .i64 2, .int .i64 2, .int .i64 0, .slice none 0 0, .int .i64 1, .int .i64 2, .int .i64 2, .int .i64 2, .int .i64 1, .slice none 0 0, .int .i64 6, .int .i64 3, .int .i64 2, .int .i64 0, .int .i64 0, .slice none 0 0] t7 (0, 0))) (k9 : w.heap[H9]? = some (.cells #[.string ⟨#[109, 97, 105, 110]⟩, .string ⟨#[109]⟩, .int .i64 2, .int .i64 3, .slice (some ⟨H2, 0, none⟩) 2 2, .string ⟨#[109, 117, 108]⟩, .string ⟨#[109]⟩, .int .i64 2, .int .i64 4, .slice (some ⟨H5, 0, none⟩) 7 7, .string ⟨#[97, 100, 100]⟩, .string ⟨#[110]⟩, .int .i64 2, .int .i64 3, .slice (some ⟨H7, 0, none⟩) 3 3] t9 (0, 0))) :
    RdP w (some ⟨H9, 0, none⟩) 3 3 timesP := by
  have b1 : RdL 6 RdOp w (some ⟨H2, 0, none⟩) 2 2 [⟨5, 1, 2, 1, 0, [0, 1]⟩, ⟨6, 2, 2, 0, 0, []⟩] := by
    refine rdL_block (α := OpD) (size := 6) (R := RdOp) k2 [⟨5, 1, 2, 1, 0, [0, 1]⟩, ⟨6, 2, 2, 0, 0, []⟩] [[.int .i64 5, .int .i64 1, .int .i64 2, .int .i64 1, .int .i64 0, .slice (some ⟨H1, 0, none⟩) 2 2], [.int .i64 6, .int .i64 2, .int .i64 2, .int .i64 0, .int .i64 0, .slice none 0 0]] rfl rfl (by intro c hc; simp at hc; rcases hc with rfl | rfl <;> rfl) (by simp [maxLen]) (fun i x c hx hc => ?_)
    match i, hx, hc with
    | 0, hx, hc => simp at hx hc; subst hx hc; exact ⟨_, _, rfl, rd_two k1⟩
    | 1, hx, hc => simp at hx hc; subst hx hc; exact op_none w _ _ _ _ _
    | i + 2, hx, _ => simp at hx
  have b2 : RdL 6 RdOp w (some ⟨H5, 0, none⟩) 7 7 [⟨0, 3, 3, 1, 0, []⟩, ⟨4, 4, 1, 3, 0, []⟩, ⟨6, 5, 2, 0, 0, []⟩, ⟨5, 6, 2, 2, 0, [2, 0]⟩, ⟨2, 7, 1, 1, 3, []⟩, ⟨4, 8, 3, 1, 0, []⟩, ⟨6, 9, 2, 0, 0, []⟩] := by
    refine rdL_block (α := OpD) (size := 6) (R := RdOp) k5 [⟨0, 3, 3, 1, 0, []⟩, ⟨4, 4, 1, 3, 0, []⟩, ⟨6, 5, 2, 0, 0, []⟩, ⟨5, 6, 2, 2, 0, [2, 0]⟩, ⟨2, 7, 1, 1, 3, []⟩, ⟨4, 8, 3, 1, 0, []⟩, ⟨6, 9, 2, 0, 0, []⟩] [[.int .i64 0, .int .i64 3, .int .i64 3, .int .i64 1, .int .i64 0, .slice none 0 0], [.int .i64 4, .int .i64 4, .int .i64 1, .int .i64 3, .int .i64 0, .slice none 0 0], [.int .i64 6, .int .i64 5, .int .i64 2, .int .i64 0, .int .i64 0, .slice none 0 0], [.int .i64 5, .int .i64 6, .int .i64 2, .int .i64 2, .int .i64 0, .slice (some ⟨H4, 0, none⟩) 2 2], [.int .i64 2, .int .i64 7, .int .i64 1, .int .i64 1, .int .i64 3, .slice none 0 0], [.int .i64 4, .int .i64 8, .int .i64 3, .int .i64 1, .int .i64 0, .slice none 0 0], [.int .i64 6, .int .i64 9, .int .i64 2, .int .i64 0, .int .i64 0, .slice none 0 0]] rfl rfl (by intro c hc; simp at hc; rcases hc with rfl | rfl | rfl | rfl | rfl | rfl | rfl <;> rfl) (by simp [maxLen]) (fun i x c hx hc => ?_)
    match i, hx, hc with
    | 0, hx, hc => simp at hx hc; subst hx hc; exact op_none w _ _ _ _ _
    | 1, hx, hc => simp at hx hc; subst hx hc; exact op_none w _ _ _ _ _
    | 2, hx, hc => simp at hx hc; subst hx hc; exact op_none w _ _ _ _ _
    | 3, hx, hc => simp at hx hc; subst hx hc; exact ⟨_, _, rfl, rd_two k4⟩
    | 4, hx, hc => simp at hx hc; subst hx hc; exact op_none w _ _ _ _ _
    | 5, hx, hc => simp at hx hc; subst hx hc; exact op_none w _ _ _ _ _
    | 6, hx, hc => simp at hx hc; subst hx hc; exact op_none w _ _ _ _ _
    | i + 7, hx, _ => simp at hx
  have b3 : RdL 6 RdOp w (some ⟨H7, 0, none⟩) 3 3 [⟨1, 1, 2, 2, 0, []⟩, ⟨1, 2, 2, 2, 1, []⟩, ⟨6, 3, 2, 0, 0, []⟩] := by
    refine rdL_block (α := OpD) (size := 6) (R := RdOp) k7 [⟨1, 1, 2, 2, 0, []⟩, ⟨1, 2, 2, 2, 1, []⟩, ⟨6, 3, 2, 0, 0, []⟩] [[.int .i64 1, .int .i64 1, .int .i64 2, .int .i64 2, .int .i64 0, .slice none 0 0], [.int .i64 1, .int .i64 2, .int .i64 2, .int .i64 2, .int .i64 1, .slice none 0 0], [.int .i64 6, .int .i64 3, .int .i64 2, .int .i64 0, .int .i64 0, .slice none 0 0]] rfl rfl (by intro c hc; simp at hc; rcases hc with rfl | rfl | rfl <;> rfl) (by simp [maxLen]) (fun i x c hx hc => ?_)
    match i, hx, hc with
    | 0, hx, hc => simp at hx hc; subst hx hc; exact op_none w _ _ _ _ _
    | 1, hx, hc => simp at hx hc; subst hx hc; exact op_none w _ _ _ _ _
    | 2, hx, hc => simp at hx hc; subst hx hc; exact op_none w _ _ _ _ _
    | i + 3, hx, _ => simp at hx
  refine rdL_block (α := FnD) (size := 5) (R := RdFn) k9 timesP [[.string ⟨#[109, 97, 105, 110]⟩, .string ⟨#[109]⟩, .int .i64 2, .int .i64 3, .slice (some ⟨H2, 0, none⟩) 2 2], [.string ⟨#[109, 117, 108]⟩, .string ⟨#[109]⟩, .int .i64 2, .int .i64 4, .slice (some ⟨H5, 0, none⟩) 7 7], [.string ⟨#[97, 100, 100]⟩, .string ⟨#[110]⟩, .int .i64 2, .int .i64 3, .slice (some ⟨H7, 0, none⟩) 3 3]] rfl rfl (by intro c hc; simp at hc; rcases hc with rfl | rfl | rfl <;> rfl) (by simp [maxLen, timesP]) (fun i x c hx hc => ?_)
  match i, hx, hc with
  | 0, hx, hc => simp [timesP] at hx hc; subst hx hc; exact ⟨_, _, rfl, b1, by unfold maxLen; decide, by unfold maxLen; decide⟩
  | 1, hx, hc => simp [timesP] at hx hc; subst hx hc; exact ⟨_, _, rfl, b2, by unfold maxLen; decide, by unfold maxLen; decide⟩
  | 2, hx, hc => simp [timesP] at hx hc; subst hx hc; exact ⟨_, _, rfl, b3, by unfold maxLen; decide, by unfold maxLen; decide⟩
  | i + 3, hx, _ => simp [timesP] at hx

set_option maxHeartbeats 4000000 in
set_option maxRecDepth 100000 in
theorem times_any (w : World) : Calls Try.prog 5 #[] w fun e w' => ∃ a cap, e = .returned (.agg #[.slice a 3 cap]) ∧ RdP w' a 3 cap timesP ∧ Below w.heap.size w w' := by
  go_enter Try.func5, Try.ntmps5
  go_wp2
  refine bodyPost_ret (v := .agg #[.slice (some ⟨w.heap.size + 1 + 1 + 1 + 1 + 1 + 1 + 1 + 1 + 1, 0, none⟩) 3 3]) (by simp [results, Try.results5, go_sem]) rfl ⟨_, _, rfl, ?_, ?_⟩
  · refine times_rd (t1 := 3) (t2 := 50) (t4 := 3) (t5 := 50) (t7 := 50) (t9 := 45) (H1 := w.heap.size + 1) (H2 := w.heap.size + 2) (H4 := w.heap.size + 4) (H5 := w.heap.size + 5) (H7 := w.heap.size + 7) (H9 := w.heap.size + 9) ?_ ?_ ?_ ?_ ?_ ?_
    · iterate 8 refine heap_at1 (by simp <;> omega) ?_
      exact heap_new_at (by simp)
    · iterate 7 refine heap_at1 (by simp <;> omega) ?_
      exact heap_new_at (by simp)
    · iterate 5 refine heap_at1 (by simp <;> omega) ?_
      exact heap_new_at (by simp)
    · iterate 4 refine heap_at1 (by simp <;> omega) ?_
      exact heap_new_at (by simp)
    · iterate 2 refine heap_at1 (by simp <;> omega) ?_
      exact heap_new_at (by simp)
    · exact heap_new_at (by simp)
  · exact ((((((((((Below.refl _ _).alloc (Nat.le_refl _) _).alloc (by simp) _).alloc (by simp; omega) _).alloc (by simp; omega) _).alloc (by simp; omega) _).alloc (by simp; omega) _).alloc (by simp; omega) _).alloc (by simp; omega) _).alloc (by simp; omega) _).alloc (by simp; omega) _
end Go.Proofs.Ytooinlilplecpab
