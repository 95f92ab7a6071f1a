/- Contracts of the machine's method State, the developers' own and unfold's. -/
import Derived.Test.YtooinlilplecpabQ7
namespace Go.Proofs.Ytooinlilplecpab
open Go.RowKit

set_option maxHeartbeats 4000000 in
set_option maxRecDepth 100000 in
theorem mState_any (p : List FnD) (bud : Int) (mb : Nat) (X : RX) (w0 : World) (s : StandD) (w : World) (hgd : Good (strip p)) (hw : Wf (strip p) s) (hm : MachAt p bud mb X w0 w s) :
    Calls Try.prog 16 #[.pointer (some ⟨mb, 0, none⟩)] w fun e w' => e = .returned (.tuple #[.int .i64 s.status, .int .i64 s.value]) ∧ Below w.heap.size w w' := by
  have HS := hid (State_any X w0 (strip p) mb s w hgd hw hm.run)
  clear hm hgd hw
  generalize toldD (strip p) s = fr at *
  generalize fr.length = n at *
  go_enter Try.func16, Try.ntmps16
  go_wp2_with fail
  refine HS.out.mono ?_
  clear HS
  rintro e w1 ⟨a, cap, rfl, ho, hb⟩
  obtain ⟨wz, hwz⟩ : ∃ v, v = w1.alloc (Obj.cells #[.int .i64 s.status, .int .i64 s.value, .slice a n cap] 34) := ⟨_, rfl⟩
  have hbz : Below w.heap.size w wz := by rw [hwz]; exact hb.alloc hb.size _
  have kz : wz.heap[w1.heap.size]? = some (.cells #[.int .i64 s.status, .int .i64 s.value, .slice a n cap] 34 (0, 0)) := by rw [hwz]; exact heap_new_at rfl
  have z0 : wz.cell? ⟨w1.heap.size, 0, none⟩ = some (.int .i64 s.status) := by simp [World.cell?, kz]
  have z1 : wz.cell? ⟨w1.heap.size, 1, none⟩ = some (.int .i64 s.value) := by simp [World.cell?, kz]
  have HBZ := hid hbz
  clear ho kz hbz
  go_wp2
  rw [← hwz]
  clear hwz
  go_region
  go_wp2
  exact bodyPost_ret (v := .tuple #[.int .i64 s.status, .int .i64 s.value]) (by simp [results, Try.results16, go_sem]) rfl ⟨rfl, HBZ.out.drew⟩

set_option maxHeartbeats 4000000 in
set_option maxRecDepth 100000 in
theorem uState_any (p : List FnD) (bud : Int) (mb : Nat) (X : RX) (w0 : World) (s : StandD) (w : World) (hgd : Good (strip p)) (hw : Wf (strip p) s) (hm : MachAt p bud mb X w0 w s) :
    Calls Try.prog 10 #[.pointer (some ⟨mb, 0, none⟩)] w fun e w' => e = .returned (.tuple #[.int .i64 s.status, .int .i64 s.value]) ∧ Below w.heap.size w w' := by
  have HS := hid (mState_any p bud mb X w0 s w hgd hw hm)
  clear hm hgd hw
  go_enter Try.func10, Try.ntmps10
  go_wp2_with fail
  refine HS.out.mono ?_
  clear HS
  rintro e w1 ⟨rfl, hb⟩
  have HB := hid hb
  clear hb
  go_wp2
  exact bodyPost_ret (v := .tuple #[.int .i64 s.status, .int .i64 s.value]) (by simp [results, Try.results10, go_sem]) rfl ⟨rfl, HB.out⟩

end Go.Proofs.Ytooinlilplecpab
