/- Frames of the developers' run, how they lie in memory, and contracts of run.goOn, jump, result: plain functions of what is handed in; nothing that was there is written. -/
import Derived.Test.YtooinlilplecpabS1
import Derived.Test.YtooinlilplecpabK1a
namespace Go.Proofs.Ytooinlilplecpab
open Go.RowKit

/-- Eight locals: those that a frame has, and noughts. -/
def pad8 (l : List Int) : List Int := l ++ List.replicate (8 - l.length) 0
def frmCells (x : LiveD) : List Value := .int .i64 x.fn :: .int .i64 x.next :: (pad8 x.locals).map (Value.int .i64)

theorem pad8_len {l : List Int} (h : l.length ≤ 8) : (pad8 l).length = 8 := by simp [pad8]; omega
theorem pad8_get {l : List Int} {k : Nat} (h : k < l.length) : (pad8 l).getD k 0 = (l[k]?).getD 0 := by
  unfold pad8
  rw [List.getD_eq_getElem?_getD, List.getElem?_append_left h]
theorem pad8_set {l : List Int} {k : Nat} {v : Int} (h : k < l.length) : pad8 (l.set k v) = (pad8 l).set k v := by
  unfold pad8
  rw [List.set_append_left _ _ h, List.length_set]
theorem eight {l : List Int} (h : l.length = 8) : ∃ a b c d e f g i, l = [a, b, c, d, e, f, g, i] := by
  match l, h with
  | [a, b, c, d, e, f, g, i], _ => exact ⟨a, b, c, d, e, f, g, i, rfl⟩

set_option maxHeartbeats 4000000 in
set_option maxRecDepth 100000 in
theorem goOn_any (x : LiveD) (k : Nat) (v : Int) (w : World) (hl : x.locals.length ≤ 8) (hk : k < x.locals.length) (hn : 0 ≤ x.next ∧ x.next ≤ 1000) :
    Calls Try.prog 42 #[.agg (frmCells x).toArray, .int .i64 k, .int .i64 v] w fun e w' => e = .returned (.agg (frmCells ⟨x.fn, x.next + 1, x.locals.set k v⟩).toArray) ∧ Below w.heap.size w w' := by
  obtain ⟨fn, nx, l⟩ := x
  simp only at hl hk hn ⊢
  have hps : (pad8 (l.set k v)) = (pad8 l).set k v := pad8_set hk
  have hpl := pad8_len hl
  unfold frmCells
  simp only
  rw [hps]
  generalize pad8 l = q at *
  obtain ⟨a, b, c, d, e, f, g, i, rfl⟩ := eight hpl
  have hk8 : k < 8 := by omega
  obtain ⟨hn1, hn2⟩ := hn
  clear hps hpl hk hl
  have hkk : k = 0 ∨ k = 1 ∨ k = 2 ∨ k = 3 ∨ k = 4 ∨ k = 5 ∨ k = 6 ∨ k = 7 := by omega
  clear hk8
  rcases hkk with rfl | rfl | rfl | rfl | rfl | rfl | rfl | rfl
  all_goals
    go_enter Try.func42, Try.ntmps42
    go_wp2
    refine bodyPost_ret ?h rfl ⟨rfl, ?b⟩
    case h => simp [results, Try.results42, go_sem]
    case b => exact ((Below.refl _ _).alloc (Nat.le_refl _) _).alloc (by simp) _

set_option maxHeartbeats 4000000 in
set_option maxRecDepth 100000 in
theorem jump_any (x : LiveD) (k : Nat) (oc ol ob od : Int) (ov : Value) (w : World) (hl : x.locals.length ≤ 8) (hk : k < x.locals.length) (hn : 0 ≤ x.next ∧ x.next ≤ 1000) (aa : Option Addr) (na acap : Nat) (hov : ov = .slice aa na acap) :
    Calls Try.prog 38 #[.agg (frmCells x).toArray, .agg #[.int .i64 oc, .int .i64 ol, .int .i64 k, .int .i64 ob, .int .i64 od, ov]] w fun e w' => e = .returned (.agg (frmCells ⟨x.fn, if locOf x k = 0 then x.next + 1 else ob, x.locals⟩).toArray) ∧ Below w.heap.size w w' := by
  subst hov
  obtain ⟨fn, nx, l⟩ := x
  simp only at hl hk hn ⊢
  have hgt : (pad8 l).getD k 0 = locOf ⟨fn, nx, l⟩ k := by rw [pad8_get hk]; simp [locOf]
  have hpl := pad8_len hl
  unfold frmCells
  simp only
  rw [← hgt]
  generalize pad8 l = q at *
  obtain ⟨a, b, c, d, e, f, g, i, rfl⟩ := eight hpl
  have hkk : k = 0 ∨ k = 1 ∨ k = 2 ∨ k = 3 ∨ k = 4 ∨ k = 5 ∨ k = 6 ∨ k = 7 := by omega
  obtain ⟨hn1, hn2⟩ := hn
  clear hgt hpl hk hl
  obtain ⟨z, hz⟩ : ∃ z, z = [a, b, c, d, e, f, g, i].getD k 0 := ⟨_, rfl⟩
  rw [← hz]
  by_cases hz0 : z = 0
  · rw [if_pos hz0]
    rcases hkk with rfl | rfl | rfl | rfl | rfl | rfl | rfl | rfl
    all_goals
      simp at hz
      rw [hz] at hz0
      subst hz0
      clear hz
      go_enter Try.func38, Try.ntmps38
      go_wp2
      refine bodyPost_ret ?h rfl ⟨rfl, ?b⟩
      case h => simp [results, Try.results38, go_sem]
      case b => exact (((Below.refl _ _).alloc (Nat.le_refl _) _).alloc (by simp) _).alloc (by simp; omega) _
  · rw [if_neg hz0]
    rcases hkk with rfl | rfl | rfl | rfl | rfl | rfl | rfl | rfl
    all_goals
      simp at hz
      subst hz
      have hz' : (z != 0) = true := by simpa using hz0
      go_enter Try.func38, Try.ntmps38
      go_wp2
      refine bodyPost_ret ?h rfl ⟨rfl, ?b⟩
      case h => simp [results, Try.results38, go_sem]
      case b => exact (((Below.refl _ _).alloc (Nat.le_refl _) _).alloc (by simp) _).alloc (by simp; omega) _
end Go.Proofs.Ytooinlilplecpab
