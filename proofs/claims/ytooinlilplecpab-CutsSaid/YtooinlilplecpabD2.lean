/- Contract of the developers' run.result: the plain functions of Set, Add, Sub, Div; nothing that was there is written. -/
import Derived.Test.YtooinlilplecpabD1
namespace Go.Proofs.Ytooinlilplecpab
open Go.RowKit

theorem arr_get (x y : Value) (L : List Value) (k : Nat) : (x :: y :: L).toArray[2 + k]? = L[k]? := by
  rw [List.getElem?_toArray, Nat.add_comm 2 k]
  simp

set_option maxHeartbeats 4000000 in
set_option maxRecDepth 100000 in
theorem result_set (x : LiveD) (oa ol ob od : Int) (aa : Option Addr) (na acap : Nat) (w : World) (hl : x.locals.length ≤ 8) :
    Calls Try.prog 41 #[.agg (frmCells x).toArray, .agg #[.int .i64 0, .int .i64 ol, .int .i64 oa, .int .i64 ob, .int .i64 od, .slice aa na acap]] w fun e w' => e = .returned (.tuple #[.int .i64 ob, .bool true]) ∧ Below w.heap.size w w' := by
  obtain ⟨fn, nx, l⟩ := x
  simp only at hl
  have hpl := pad8_len hl
  unfold frmCells
  simp only
  generalize pad8 l = q at *
  obtain ⟨a, b, c, d, e, f, g, i, rfl⟩ := eight hpl
  clear hpl hl
  go_enter Try.func41, Try.ntmps41
  go_wp2
  refine bodyPost_ret ?h rfl ⟨rfl, ?b⟩
  case h => simp [results, Try.results41, go_sem]
  case b => exact ((Below.refl _ _).alloc (Nat.le_refl _) _).alloc (by simp) _

set_option maxHeartbeats 4000000 in
set_option maxRecDepth 100000 in
theorem result_num (x : LiveD) (oc oa ol : Int) (bN dN : Nat) (aa : Option Addr) (na acap : Nat) (w : World) (hl : x.locals.length ≤ 8) (hb : bN < x.locals.length) (hd : dN < x.locals.length) (hv : ∀ v ∈ x.locals, 0 ≤ v ∧ v < 1000) (hoc : oc = 1 ∨ oc = 2 ∨ oc = 3) :
    Calls Try.prog 41 #[.agg (frmCells x).toArray, .agg #[.int .i64 oc, .int .i64 ol, .int .i64 oa, .int .i64 bN, .int .i64 dN, .slice aa na acap]] w fun e w' =>
      e = .returned (.tuple #[.int .i64 (if oc = 3 ∧ locOf x dN = 0 then 0 else cnt oc (locOf x bN) (locOf x dN)), .bool (!decide (oc = 3 ∧ locOf x dN = 0))]) ∧ Below w.heap.size w w' := by
  have e1 : (pad8 x.locals)[bN]? = some (locOf x bN) := by
    unfold pad8 locOf
    rw [List.getElem?_append_left hb, List.getElem?_eq_getElem hb]; simp [hb]
  have e2 : (pad8 x.locals)[dN]? = some (locOf x dN) := by
    unfold pad8 locOf
    rw [List.getElem?_append_left hd, List.getElem?_eq_getElem hd]; simp [hd]
  have r1 : 0 ≤ locOf x bN ∧ locOf x bN < 1000 := hv _ (by unfold locOf; rw [Int.toNat_natCast, List.getElem?_eq_getElem hb]; exact List.getElem_mem _)
  have r2 : 0 ≤ locOf x dN ∧ locOf x dN < 1000 := hv _ (by unfold locOf; rw [Int.toNat_natCast, List.getElem?_eq_getElem hd]; exact List.getElem_mem _)
  have hpl := pad8_len hl
  generalize locOf x bN = vb at *
  generalize locOf x dN = vd at *
  obtain ⟨fn, nx, l⟩ := x
  simp only at *
  unfold frmCells
  simp only
  generalize pad8 l = q at *
  obtain ⟨a, b, c, d, e, f, g, i, rfl⟩ := eight hpl
  have hb8 : bN < 8 := by omega
  have hd8 : dN < 8 := by omega
  clear hpl hl hb hd hv
  obtain ⟨r11, r12⟩ := r1
  obtain ⟨r21, r22⟩ := r2
  have g1 : (#[Value.int .i64 fn, .int .i64 nx, .int .i64 a, .int .i64 b, .int .i64 c, .int .i64 d, .int .i64 e, .int .i64 f, .int .i64 g, .int .i64 i] : Array Value)[2 + bN]? = some (.int .i64 vb) := by
    have h := arr_get (.int .i64 fn) (.int .i64 nx) ([a, b, c, d, e, f, g, i].map (Value.int .i64)) bN
    rw [List.getElem?_map, e1] at h
    exact h
  have g2 : (#[Value.int .i64 fn, .int .i64 nx, .int .i64 a, .int .i64 b, .int .i64 c, .int .i64 d, .int .i64 e, .int .i64 f, .int .i64 g, .int .i64 i] : Array Value)[2 + dN]? = some (.int .i64 vd) := by
    have h := arr_get (.int .i64 fn) (.int .i64 nx) ([a, b, c, d, e, f, g, i].map (Value.int .i64)) dN
    rw [List.getElem?_map, e2] at h
    exact h
  clear e1 e2
  have hb8' : (bN : Int) < 8 := by omega
  have hd8' : (dN : Int) < 8 := by omega
  rcases hoc with rfl | rfl | rfl
  · have hc : cnt 1 vb vd = (vb + vd) % 1000 := by unfold cnt; rw [if_neg (by decide), if_neg (by decide)]
    rw [hc]
    go_enter Try.func41, Try.ntmps41
    go_wp2
    refine bodyPost_ret ?h rfl ⟨rfl, ?b⟩
    case h => simp [results, Try.results41, go_sem]
    case b => exact ((Below.refl _ _).alloc (Nat.le_refl _) _).alloc (by simp) _
  · have hc : cnt 2 vb vd = (vb - vd + 1000) % 1000 := by unfold cnt; rw [if_neg (by decide), if_pos rfl]; omega
    rw [hc]
    go_enter Try.func41, Try.ntmps41
    go_wp2
    refine bodyPost_ret ?h rfl ⟨rfl, ?b⟩
    case h => simp [results, Try.results41, go_sem]
    case b => exact ((Below.refl _ _).alloc (Nat.le_refl _) _).alloc (by simp) _
  · by_cases hv0 : vd = 0
    · subst hv0
      go_enter Try.func41, Try.ntmps41
      go_wp2
      refine bodyPost_ret ?h rfl ⟨rfl, ?b⟩
      case h => simp [results, Try.results41, go_sem]
      case b => exact ((Below.refl _ _).alloc (Nat.le_refl _) _).alloc (by simp) _
    · have hc : cnt 3 vb vd = vb / vd := by unfold cnt; rw [if_pos rfl]
      rw [if_neg (fun h => hv0 h.2), decide_eq_false (fun h => hv0 h.2), hc]
      have hv0' : (vd == 0) = false := by simpa using hv0
      go_enter Try.func41, Try.ntmps41
      go_wp2
      refine bodyPost_ret ?h rfl ⟨rfl, ?b⟩
      case h => simp [results, Try.results41, go_sem]
      case b => exact ((Below.refl _ _).alloc (Nat.le_refl _) _).alloc (by simp) _
end Go.Proofs.Ytooinlilplecpab
