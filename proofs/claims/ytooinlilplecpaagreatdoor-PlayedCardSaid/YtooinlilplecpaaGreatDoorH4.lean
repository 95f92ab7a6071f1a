/- Contracts of the statement's own functions sameOp and sameFunc: at two readings of one op, of one function, they return true; nothing that was there is written. -/
import Derived.Test.YtooinlilplecpaaGreatDoorH3
import Derived.Deep.RegionWith
namespace Go.Proofs.YtooinlilplecpaaGreatDoor
open Go.RowKit

set_option maxHeartbeats 1000000 in
set_option maxRecDepth 100000 in
theorem sameOp_any (o : OpD) (a : Option Addr) (cap : Nat) (a2 : Option Addr) (cap2 : Nat) (w : World) (hr : Rd .i64 w a o.args.length cap o.args) (hr2 : Rd .i64 w a2 o.args.length cap2 o.args) :
    Calls Tryz.prog 196 #[.agg #[.int .i64 o.code, .int .i64 o.line, .int .i64 o.a, .int .i64 o.b, .int .i64 o.c, .slice a o.args.length cap], .agg #[.int .i64 o.code, .int .i64 o.line, .int .i64 o.a, .int .i64 o.b, .int .i64 o.c, .slice a2 o.args.length cap2]] w
      fun e w' => e = .returned (.bool true) ∧ Below w.heap.size w w' := by
  obtain ⟨oc, ol, oa, ob, od, l⟩ := o
  simp only at hr hr2 ⊢
  obtain ⟨wb, hwb⟩ : ∃ wb, wb = (w.alloc (Obj.cells #[.int .i64 oc, .int .i64 ol, .int .i64 oa, .int .i64 ob, .int .i64 od, .slice a l.length cap] 183)).alloc (Obj.cells #[.int .i64 oc, .int .i64 ol, .int .i64 oa, .int .i64 ob, .int .i64 od, .slice a2 l.length cap2] 183) := ⟨_, rfl⟩
  have hbb : Below w.heap.size w wb := by rw [hwb]; exact ((Below.refl _ _).alloc (Nat.le_refl _) _).alloc (by simp) _
  have hbs : wb.heap.size = w.heap.size + 2 := by rw [hwb]; simp
  have hk1 : wb.heap[w.heap.size]? = some (.cells #[.int .i64 oc, .int .i64 ol, .int .i64 oa, .int .i64 ob, .int .i64 od, .slice a l.length cap] 183 (0, 0)) := by
    rw [hwb, Below.heap_alloc _ _ _ (by simp)]; exact heap_alloc_new _ _
  have hk2 : wb.heap[w.heap.size + 1]? = some (.cells #[.int .i64 oc, .int .i64 ol, .int .i64 oa, .int .i64 ob, .int .i64 od, .slice a2 l.length cap2] 183 (0, 0)) := by
    rw [hwb]
    have := heap_alloc_new (w.alloc (Obj.cells #[.int .i64 oc, .int .i64 ol, .int .i64 oa, .int .i64 ob, .int .i64 od, .slice a l.length cap] 183)) (Obj.cells #[.int .i64 oc, .int .i64 ol, .int .i64 oa, .int .i64 ob, .int .i64 od, .slice a2 l.length cap2] 183)
    simpa using this
  have HS := hid (sameInts_any a l.length cap l a2 cap2 wb (hr.below hbb (Nat.le_refl _)) (hr2.below hbb (Nat.le_refl _)))
  clear hr hr2
  go_enter Tryz.func196, Tryz.ntmps196
  go_wp2_with fail
  rw [← hwb]
  clear hwb
  refine HS.out.mono ?_
  rintro e w1 ⟨rfl, hb1⟩
  have m1 := (hb1.block w.heap.size (by omega)).trans hk1
  have m2 := (hb1.block (w.heap.size + 1) (by omega)).trans hk2
  have p0 : w1.cell? ⟨w.heap.size, 0, none⟩ = some (.int .i64 oc) := by simp [World.cell?, m1]
  have p1 : w1.cell? ⟨w.heap.size, 1, none⟩ = some (.int .i64 ol) := by simp [World.cell?, m1]
  have p2 : w1.cell? ⟨w.heap.size, 2, none⟩ = some (.int .i64 oa) := by simp [World.cell?, m1]
  have p3 : w1.cell? ⟨w.heap.size, 3, none⟩ = some (.int .i64 ob) := by simp [World.cell?, m1]
  have p4 : w1.cell? ⟨w.heap.size, 4, none⟩ = some (.int .i64 od) := by simp [World.cell?, m1]
  have q0 : w1.cell? ⟨w.heap.size + 1, 0, none⟩ = some (.int .i64 oc) := by simp [World.cell?, m2]
  have q1 : w1.cell? ⟨w.heap.size + 1, 1, none⟩ = some (.int .i64 ol) := by simp [World.cell?, m2]
  have q2 : w1.cell? ⟨w.heap.size + 1, 2, none⟩ = some (.int .i64 oa) := by simp [World.cell?, m2]
  have q3 : w1.cell? ⟨w.heap.size + 1, 3, none⟩ = some (.int .i64 ob) := by simp [World.cell?, m2]
  have q4 : w1.cell? ⟨w.heap.size + 1, 4, none⟩ = some (.int .i64 od) := by simp [World.cell?, m2]
  have hbe := hbb.trans (hb1.mono hbb.size)
  clear m1 m2 hk1 hk2 HS hb1 hbb
  go_wp2
  go_ret
  exact ⟨rfl, hbe⟩

set_option maxHeartbeats 2000000 in
set_option maxRecDepth 100000 in
theorem sameFunc_any (f : FnD) (a : Option Addr) (cap : Nat) (a2 : Option Addr) (cap2 : Nat) (w : World) (hr : RdL 6 RdOp w a f.body.length cap f.body) (hr2 : RdL 6 RdOp w a2 f.body.length cap2 f.body) :
    Calls Tryz.prog 143 #[.agg #[.string f.name, .string f.file, .int .i64 f.params, .int .i64 f.locals, .slice a f.body.length cap], .agg #[.string f.name, .string f.file, .int .i64 f.params, .int .i64 f.locals, .slice a2 f.body.length cap2]] w
      fun e w' => e = .returned (.bool true) ∧ Below w.heap.size w w' := by
  obtain ⟨nm, fl, pr, lo, l⟩ := f
  simp only at hr hr2 ⊢
  obtain ⟨n, hn⟩ : ∃ n, n = l.length := ⟨_, rfl⟩
  rw [← hn] at hr hr2 ⊢
  have HN := hid hn
  clear hn
  have hc1 := hr.2.1
  have hc2 := hr.2.2.1
  unfold maxLen at hc2
  have hd1 := hr2.2.1
  have hd2 := hr2.2.2.1
  unfold maxLen at hd2
  obtain ⟨wb, hwb⟩ : ∃ wb, wb = (w.alloc (Obj.cells #[.string nm, .string fl, .int .i64 pr, .int .i64 lo, .slice a n cap] 122)).alloc (Obj.cells #[.string nm, .string fl, .int .i64 pr, .int .i64 lo, .slice a2 n cap2] 122) := ⟨_, rfl⟩
  have hbb : Below w.heap.size w wb := by rw [hwb]; exact ((Below.refl _ _).alloc (Nat.le_refl _) _).alloc (by simp) _
  have hbs : wb.heap.size = w.heap.size + 2 := by rw [hwb]; simp
  have hk1 : wb.heap[w.heap.size]? = some (.cells #[.string nm, .string fl, .int .i64 pr, .int .i64 lo, .slice a n cap] 122 (0, 0)) := by
    rw [hwb, Below.heap_alloc _ _ _ (by simp)]; exact heap_alloc_new _ _
  have hk2 : wb.heap[w.heap.size + 1]? = some (.cells #[.string nm, .string fl, .int .i64 pr, .int .i64 lo, .slice a2 n cap2] 122 (0, 0)) := by
    rw [hwb]
    have := heap_alloc_new (w.alloc (Obj.cells #[.string nm, .string fl, .int .i64 pr, .int .i64 lo, .slice a n cap] 122)) (Obj.cells #[.string nm, .string fl, .int .i64 pr, .int .i64 lo, .slice a2 n cap2] 122)
    simpa using this
  have HK1 := hid hk1
  have HK2 := hid hk2
  clear hk1 hk2
  go_enter Tryz.func143, Tryz.ntmps143
  go_wp2
  rw [← hwb]
  clear hwb
  go_loopw [5, 6] (fun i _ wr => ∃ j : Nat, i = .int .i64 j ∧ j ≤ n ∧ Below wb.heap.size wb wr) (fun i _ _ => n - (intOf i).toNat)
  case atStart => exact ⟨0, rfl, by omega, Below.refl _ _⟩
  case round =>
    obtain ⟨j, rfl, hj, hbel⟩ := hrel
    have hsz := hbel.size
    have hbe := hbb.trans (hbel.mono hbb.size)
    have m1 := (hbel.block w.heap.size (by omega)).trans HK1.out
    have m2 := (hbel.block (w.heap.size + 1) (by omega)).trans HK2.out
    have p4 : wr.cell? ⟨w.heap.size, 4, none⟩ = some (.slice a n cap) := by simp [World.cell?, m1]
    have q4 : wr.cell? ⟨w.heap.size + 1, 4, none⟩ = some (.slice a2 n cap2) := by simp [World.cell?, m2]
    clear m1 m2
    by_cases hlt : j < n
    · obtain ⟨o, ho⟩ : ∃ o, l[j]? = some o := ⟨_, List.getElem?_eq_getElem (by rw [← HN.out]; exact hlt)⟩
      obtain ⟨b, off, aa, acap, rfl, hb, d0, d1', d2', d3, d4, d5, hra⟩ := (hr.below hbe (fun _ _ h => h.below hbe)).opAt j o ho
      obtain ⟨b2, off2, aa2, acap2, rfl, hb2, e0, e1, e2, e3, e4, e5, hra2⟩ := (hr2.below hbe (fun _ _ h => h.below hbe)).opAt j o ho
      have HSO := hid (fun (W : World) (hW : Below wr.heap.size wr W) => sameOp_any o aa acap aa2 acap2 W (hra.below hW (Nat.le_refl _)) (hra2.below hW (Nat.le_refl _)))
      clear hr hr2 ho hra hra2
      go_wp2
      go_region_with (go_at_call 196; refine (HSO.out _ ?_).mono ?_; exact (Below.refl _ _).drew; rintro e w2 ⟨rfl, hb2⟩)
      all_goals
        go_wp2
        go_roundw
        case rel => exact ⟨j + 1, by go_num, by omega, hbel.trans (((Below.refl _ _).drew.trans hb2).mono hsz)⟩
        case measure => simp [intOf]; omega
    · go_wp2
      go_ret
      exact ⟨rfl, hbe⟩
end Go.Proofs.YtooinlilplecpaaGreatDoor
