/- Contracts of unfold.Decode and unfold.Encode (of a well-formed image). -/
import Derived.Test.YtooinlilplecpaaDoorI15
namespace Go.Proofs.YtooinlilplecpaaDoor
open Go.RowKit

set_option maxHeartbeats 1000000 in
set_option maxRecDepth 100000 in
theorem uDecode_any (ba : Option Addr) (blen bcap : Nat) (bs : List Int) (w : World) (hb : Rd .u8 w ba blen bcap bs) (hne : ∀ q, ba = some q → q.block < w.heap.size) (hx : ∀ j, 0 ≤ bs.getD j 0 ∧ bs.getD j 0 ≤ 255) (hH : HeadAt w) :
    Calls Tryd.prog 5 #[.slice ba blen bcap] w fun e w' => ∃ v, e = .returned (.tuple #[.agg #[v], .int .i64 (decI bs).2.1, .int .i64 (decI bs).2.2]) ∧ OwnI w.heap.size w' v (decI bs).1 ∧ Below w.heap.size w w' := by
  obtain ⟨wA, hwA⟩ : ∃ wA, wA = w.alloc (Obj.cells #[.slice none 0 0] 26) := ⟨_, rfl⟩
  have hbA : Below w.heap.size w wA := by rw [hwA]; exact (Below.refl _ _).alloc (Nat.le_refl _) _
  have heA : wA.heap[w.heap.size]? = some (.cells #[.slice none 0 0] 26 (0, 0)) := by rw [hwA]; exact heap_alloc_new _ _
  have hsA : wA.heap.size = w.heap.size + 1 := by rw [hwA]; simp
  have HD := hid (idecode_any ba blen bcap bs wA (hb.below hbA (Nat.le_refl _)) (fun q hq => by have := hne q hq; omega) hx (hH.below hbA (Nat.le_refl _)))
  generalize decI bs = d at *
  obtain ⟨dl, d1, d2⟩ := d
  simp only at HD ⊢
  clear hb hne hx hH
  go_enter Tryd.func5, Tryd.ntmps5
  go_wp2_with fail
  rw [← hwA]
  refine HD.out.mono ?_
  rintro e w1 ⟨v, rfl, hown, hb1⟩
  obtain ⟨va, vc, rfl, -⟩ := hown.rd
  have e1 := (hb1.block w.heap.size (by omega)).trans heA
  have z0 : w1.cell? ⟨w.heap.size, 0, none⟩ = some (.slice none 0 0) := by simp [World.cell?, e1]
  have y0 : w1.frozen? ⟨w.heap.size, 0, none⟩ = false := by simp [World.frozen?, e1]
  have HF : Hid (OwnI w.heap.size (w1.setCell ⟨w.heap.size, 0, none⟩ (.slice va dl.length vc)) (.slice va dl.length vc) dl ∧ Below w.heap.size w (w1.setCell ⟨w.heap.size, 0, none⟩ (.slice va dl.length vc))) := ⟨(hown.setLow (by omega)).low (by omega), (hbA.trans (hb1.mono hbA.size)).setCell (p := ⟨w.heap.size, 0, none⟩) (Nat.le_refl _) _⟩
  clear hown hb1 e1
  go_wp2
  exact bodyPost_ret (v := .tuple #[.agg #[.slice va dl.length vc], .int .i64 d1, .int .i64 d2]) (by simp [results, Tryd.results5, go_sem, z0]) rfl ⟨_, rfl, HF.out.1, HF.out.2⟩

set_option maxHeartbeats 1000000 in
set_option maxRecDepth 100000 in
theorem uEncode_wf (fa : Option Addr) (len fcap : Nat) (l : List EntD) (w : World) (hr : RdI w fa len fcap l) (hwf : wfI l = true) (hH : HeadAt w) :
    Calls Tryd.prog 6 #[.agg #[.slice fa len fcap]] w fun e w' => ∃ v, e = .returned (.tuple #[v, .int .i64 0]) ∧ w'.ownsRow w.heap.size 5 1 v (encI l).length (u8s (encI l)) ∧ Below w.heap.size w w' := by
  obtain ⟨wA, hwA⟩ : ∃ wA, wA = w.alloc (Obj.cells #[.slice fa len fcap] 26) := ⟨_, rfl⟩
  have hbA : Below w.heap.size w wA := by rw [hwA]; exact (Below.refl _ _).alloc (Nat.le_refl _) _
  have HE := hid (iencode_wf fa len fcap l wA (hr.below hbA) hwf (hH.below hbA (Nat.le_refl _)))
  clear hr hwf hH
  go_enter Tryd.func6, Tryd.ntmps6
  go_wp2_with fail
  rw [← hwA]
  refine HE.out.mono ?_
  rintro e w1 ⟨v, rfl, hown, hb1⟩
  have HF : Hid (w1.ownsRow w.heap.size 5 1 v (encI l).length (u8s (encI l)) ∧ Below w.heap.size w w1) := ⟨owns_low7 hown hbA.size, hbA.trans (hb1.mono hbA.size)⟩
  clear hown hb1
  go_wp2
  go_ret2
  exact ⟨_, rfl, HF.out.1, HF.out.2⟩
end Go.Proofs.YtooinlilplecpaaDoor
