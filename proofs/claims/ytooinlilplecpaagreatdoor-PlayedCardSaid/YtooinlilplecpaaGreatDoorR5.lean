/- Contract of unfoldref.Begun. -/
import Derived.Test.YtooinlilplecpaaGreatDoorR3
namespace Go.Proofs.YtooinlilplecpaaGreatDoor
open Go.RowKit

/-- How a run stands. -/
structure StandD where
  status : Int
  value : Int
  live : List LiveD
def RdStand (w : World) (cs : List Value) (s : StandD) : Prop :=
  ∃ a cap, cs = [.int .i64 s.status, .int .i64 s.value, .slice a s.live.length cap] ∧ RdL 3 RdLive w a s.live.length cap s.live
theorem RdStand.below {w w' : World} {cs : List Value} {s : StandD} (h : RdStand w cs s) (hb : Below w.heap.size w w') : RdStand w' cs s := by
  obtain ⟨a, cap, e, hr⟩ := h
  exact ⟨a, cap, e, hr.below hb (fun _ _ h => h.below hb)⟩

set_option maxHeartbeats 2000000 in
set_option maxRecDepth 100000 in
theorem Begun_any (pa : Option Addr) (pcap : Nat) (p : List FnD) (x : FnD) (n : Nat) (aa : Option Addr) (acap : Nat) (args : List Int) (w : World) (hr : RdP w pa p.length pcap p) (hx : p[0]? = some x) (hn : x.locals = n) (hn1 : n ≤ 1000)
    (ha : Rd .i64 w aa args.length acap args) (hal : args.length ≤ n) :
    Calls Tryz.prog 125 #[.agg #[.slice pa p.length pcap], .slice aa args.length acap] w fun e w' =>
      ∃ cs, e = .returned (.agg cs.toArray) ∧ RdStand w' cs ⟨0, 0, [⟨0, 0, fillI args n args.length⟩]⟩ ∧ Below w.heap.size w w' := by
  have HF := hid (fun (W : World) (hW : Below w.heap.size w W) => fresh_any pa pcap p 0 x n aa acap args W (hr.below hW) hx hn hn1 (ha.below hW (Nat.le_refl _)) hal)
  clear hr ha hx hn hal
  generalize fillI args n args.length = loc at *
  generalize p.length = pl at *
  generalize args.length = al at *
  go_enter Tryz.func125, Tryz.ntmps125
  go_wp2_with fail
  obtain ⟨wb, hwb⟩ : ∃ wb, wb = (w.alloc (Obj.cells #[.slice pa pl pcap] 44)).alloc (Obj.cells #[.int .i64 0, .int .i64 0, .slice none 0 0] 95) := ⟨_, rfl⟩
  have hbb : Below w.heap.size w wb := by rw [hwb]; exact ((Below.refl _ _).alloc (Nat.le_refl _) _).alloc (by simp) _
  have hbs : wb.heap.size = w.heap.size + 2 := by rw [hwb]; simp
  have hk2 : wb.heap[w.heap.size + 1]? = some (.cells #[.int .i64 0, .int .i64 0, .slice none 0 0] 95 (0, 0)) := by
    rw [hwb]
    have := heap_alloc_new (w.alloc (Obj.cells #[.slice pa pl pcap] 44)) (Obj.cells #[.int .i64 0, .int .i64 0, .slice none 0 0] 95)
    simpa using this
  rw [← hwb]
  clear hwb
  refine (HF.out wb hbb).mono ?_
  rintro e w2 ⟨cs, rfl, hlive, ⟨g, gn, gc, hg, hg2⟩, hb2⟩
  obtain ⟨la, lcap, rfl, hrd⟩ := hlive
  simp at hg2
  obtain ⟨rfl, rfl, rfl⟩ := hg2
  have HRD := hid hrd
  clear hrd
  have hs2 := hb2.size
  have m2 := (hb2.block (w.heap.size + 1) (by omega)).trans hk2
  have q0 : w2.cell? ⟨w.heap.size + 1, 0, none⟩ = some (.int .i64 0) := by simp [World.cell?, m2]
  have q1 : w2.cell? ⟨w.heap.size + 1, 1, none⟩ = some (.int .i64 0) := by simp [World.cell?, m2]
  have q2 : w2.cell? ⟨w.heap.size + 1, 2, none⟩ = some (.slice none 0 0) := by simp [World.cell?, m2]
  have z0 : w2.frozen? ⟨w.heap.size + 1, 0, none⟩ = false := by simp [World.frozen?, m2]
  have z1 : w2.frozen? ⟨w.heap.size + 1, 1, none⟩ = false := by simp [World.frozen?, m2]
  have z2 : w2.frozen? ⟨w.heap.size + 1, 2, none⟩ = false := by simp [World.frozen?, m2]
  have m3 : ((w2.alloc (Obj.cells #[.int .i64 0, .int .i64 0, .slice (some ⟨g, 0, none⟩) loc.length lcap] 172)).alloc (Obj.cells #[.int .i64 0, .int .i64 0, .slice (some ⟨g, 0, none⟩) loc.length lcap] 172)).heap[w.heap.size + 1]? = some (.cells #[.int .i64 0, .int .i64 0, .slice none 0 0] 95 (0, 0)) := by
    rw [heap_alloc_old _ _ (by simp; omega), heap_alloc_old _ _ (by omega)]
    exact m2
  obtain ⟨w3, hw3⟩ : ∃ w3, w3 = (w2.alloc (Obj.cells #[.int .i64 0, .int .i64 0, .slice (some ⟨g, 0, none⟩) loc.length lcap] 172)).alloc (Obj.cells #[.int .i64 0, .int .i64 0, .slice (some ⟨g, 0, none⟩) loc.length lcap] 172) := ⟨_, rfl⟩
  rw [← hw3] at m3
  have hb3 : Below w.heap.size w w3 := by rw [hw3]; exact (((hbb.trans (hb2.mono (by omega))).alloc (by omega) _).alloc (by simp; omega) _)
  have hb23 : Below w2.heap.size w2 w3 := by rw [hw3]; exact ((Below.refl _ _).alloc (Nat.le_refl _) _).alloc (by simp) _
  have k3 : w3.heap[w2.heap.size + 1]? = some (.cells #[.int .i64 0, .int .i64 0, .slice (some ⟨g, 0, none⟩) loc.length lcap] 172 (0, 0)) := by
    rw [hw3]
    have := heap_alloc_new (w2.alloc (Obj.cells #[.int .i64 0, .int .i64 0, .slice (some ⟨g, 0, none⟩) loc.length lcap] 172)) (Obj.cells #[.int .i64 0, .int .i64 0, .slice (some ⟨g, 0, none⟩) loc.length lcap] 172)
    simpa using this
  clear hk2 m2 q0 q1 q2 z0 z1 z2
  have q0 : w3.cell? ⟨w.heap.size + 1, 0, none⟩ = some (.int .i64 0) := by simp [World.cell?, m3]
  have q1 : w3.cell? ⟨w.heap.size + 1, 1, none⟩ = some (.int .i64 0) := by simp [World.cell?, m3]
  have q2 : w3.cell? ⟨w.heap.size + 1, 2, none⟩ = some (.slice none 0 0) := by simp [World.cell?, m3]
  have z0 : w3.frozen? ⟨w.heap.size + 1, 0, none⟩ = false := by simp [World.frozen?, m3]
  have z1 : w3.frozen? ⟨w.heap.size + 1, 1, none⟩ = false := by simp [World.frozen?, m3]
  have z2 : w3.frozen? ⟨w.heap.size + 1, 2, none⟩ = false := by simp [World.frozen?, m3]
  rw [hw3] at q0 q1 q2 z0 z1 z2
  have hgw : w.heap.size + 2 ≤ g := by omega
  clear hg
  go_wp2
  rw [← hw3] at q0 q1 q2 ⊢
  have hbe := ((hb3.setCell (p := ⟨w.heap.size + 1, 0, none⟩) (by show w.heap.size ≤ w.heap.size + 1; omega) (.int .i64 0)).setCell (p := ⟨w.heap.size + 1, 1, none⟩) (by show w.heap.size ≤ w.heap.size + 1; omega) (.int .i64 0)).setCell (p := ⟨w.heap.size + 1, 2, none⟩) (by show w.heap.size ≤ w.heap.size + 1; omega) (.slice (some ⟨w2.heap.size + 1, 0, none⟩) 1 1)
  have hr3 := (((HRD.out.below hb23 (Nat.le_refl _)).setOther (b := w.heap.size + 1) (by omega) 0 (.int .i64 0)).setOther (b := w.heap.size + 1) (by omega) 1 (.int .i64 0)).setOther (b := w.heap.size + 1) (by omega) 2 (.slice (some ⟨w2.heap.size + 1, 0, none⟩) 1 1)
  have k4 : (((w3.setCell ⟨w.heap.size + 1, 0, none⟩ (.int .i64 0)).setCell ⟨w.heap.size + 1, 1, none⟩ (.int .i64 0)).setCell ⟨w.heap.size + 1, 2, none⟩ (.slice (some ⟨w2.heap.size + 1, 0, none⟩) 1 1)).heap[w2.heap.size + 1]? = some (.cells #[.int .i64 0, .int .i64 0, .slice (some ⟨g, 0, none⟩) loc.length lcap] 172 (0, 0)) := by
    rw [Below.heap_setCell _ _ _ _ (by show w2.heap.size + 1 ≠ w.heap.size + 1; omega), Below.heap_setCell _ _ _ _ (by show w2.heap.size + 1 ≠ w.heap.size + 1; omega), Below.heap_setCell _ _ _ _ (by show w2.heap.size + 1 ≠ w.heap.size + 1; omega)]
    exact k3
  refine bodyPost_ret (v := .agg #[.int .i64 0, .int .i64 0, .slice (some ⟨w2.heap.size + 1, 0, none⟩) 1 1]) (by simp [results, Tryz.results125, go_sem, q0, q1, q2]) rfl ⟨[.int .i64 0, .int .i64 0, .slice (some ⟨w2.heap.size + 1, 0, none⟩) 1 1], rfl, ⟨some ⟨w2.heap.size + 1, 0, none⟩, 1, rfl, rfl, Nat.le_refl _, by unfold maxLen; simp, fun i x hx => ?_⟩, hbe⟩
  have hi0 : i = 0 := by
    have := (List.getElem?_eq_some_iff.1 hx).1
    simpa using this
  subst hi0
  simp at hx
  subst hx
  refine ⟨w2.heap.size + 1, 0, [.int .i64 0, .int .i64 0, .slice (some ⟨g, 0, none⟩) loc.length lcap], rfl, rfl, fun j v hj => ?_, some ⟨g, 0, none⟩, lcap, rfl, hr3⟩
  match j, hj with
  | 0, hj => simp at hj; subst hj; simp [World.cell?, k4]
  | 1, hj => simp at hj; subst hj; simp [World.cell?, k4]
  | 2, hj => simp at hj; subst hj; simp [World.cell?, k4]
end Go.Proofs.YtooinlilplecpaaGreatDoor
