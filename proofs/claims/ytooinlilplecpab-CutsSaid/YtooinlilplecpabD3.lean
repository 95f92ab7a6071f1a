/- Contract of the developers' (*run.Run).op: the op at which a frame is. -/
import Derived.Test.YtooinlilplecpabD1
import Derived.Test.YtooinlilplecpabR7
import Derived.Deep.RegionHeld
namespace Go.Proofs.Ytooinlilplecpab
open Go.RowKit

set_option maxHeartbeats 4000000 in
set_option maxRecDepth 100000 in
theorem op_any (rb : Nat) (p : List FnD) (pa : Option Addr) (pcap : Nat) (x : LiveD) (w : World) (hc : w.cell? ⟨rb, 0, none⟩ = some (.slice pa p.length pcap)) (hp : RdP w pa p.length pcap p) (hx : WfLive p x) (hl : x.locals.length ≤ 8) :
    Calls Try.prog 32 #[.pointer (some ⟨rb, 0, none⟩), .agg (frmCells x).toArray] w fun e w' =>
      ∃ oa ocap, e = .returned (.agg #[.int .i64 (opOf p x).code, .int .i64 (opOf p x).line, .int .i64 (opOf p x).a, .int .i64 (opOf p x).b, .int .i64 (opOf p x).c, .slice oa (opOf p x).args.length ocap]) ∧ Rd .i64 w' oa (opOf p x).args.length ocap (opOf p x).args ∧ Below w.heap.size w w' := by
  have hcn := hx.next
  have hcf := hx.fn
  obtain ⟨pb, poff, ba, bcap, rfl, -, -, -, -, -, c4, hrb, -, -⟩ := hp.at x.fn.toNat _ (fnOf_some hx)
  obtain ⟨qb, qoff, oa, ocap, rfl, -, q0, q1, q2, q3, q4, q5, hro⟩ := hrb.opAt x.next.toNat _ (opOf_some hx)
  have hbl1 := hrb.2.1
  have hbl2 := hrb.2.2.1
  have hpc1 := hp.2.1
  have hpc2 := hp.2.2.1
  unfold maxLen at hbl2 hpc2
  have hlr := World.block_lt_of_cell? w _ hc
  have lt1 := World.block_lt_of_cell? w _ c4
  have lt2 := World.block_lt_of_cell? w _ q0
  simp only at hlr lt1 lt2
  obtain ⟨fN, hfN⟩ : ∃ n : Nat, x.fn = n := ⟨x.fn.toNat, by omega⟩
  obtain ⟨sN, hsN⟩ : ∃ n : Nat, x.next = n := ⟨x.next.toNat, by omega⟩
  have hfp : fN < p.length := by omega
  have hsb : sN < (fnOf p x).body.length := by omega
  rw [hfN] at c4
  rw [hsN] at q0 q1 q2 q3 q4 q5
  simp only [Int.toNat_natCast] at c4 q0 q1 q2 q3 q4 q5
  have HRO := hid hro
  generalize opOf p x = o at *
  obtain ⟨oc, ol, oaa, ob, od, args⟩ := o
  simp only at *
  generalize (fnOf p x).body.length = bl at *
  generalize p.length = pl at *
  have hpl8 := pad8_len hl
  unfold frmCells
  rw [hfN, hsN]
  obtain ⟨xf, xn, xl⟩ := x
  simp only at *
  generalize pad8 xl = q at *
  obtain ⟨l0, l1, l2, l3, l4, l5, l6, l7, rfl⟩ := eight hpl8
  obtain ⟨na, hna⟩ : ∃ v, v = args.length := ⟨_, rfl⟩
  rw [← hna] at q5 HRO ⊢
  clear hro hrb hp hx hcn hcf hpl8 hl hfN hsN hna
  simp only [List.map_cons, List.map_nil]
  obtain ⟨wb, hwb⟩ : ∃ wb, wb = (w.alloc (Obj.cells #[.int .i64 fN, .int .i64 sN, .int .i64 l0, .int .i64 l1, .int .i64 l2, .int .i64 l3, .int .i64 l4, .int .i64 l5, .int .i64 l6, .int .i64 l7] 82)).alloc (Obj.cells #[.int .i64 0, .int .i64 0, .int .i64 0, .int .i64 0, .int .i64 0, .slice none 0 0] 50) := ⟨_, rfl⟩
  have hbb : Below w.heap.size w wb := by rw [hwb]; exact ((Below.refl _ _).alloc (Nat.le_refl _) _).alloc (by simp) _
  have hbs : wb.heap.size = w.heap.size + 2 := by rw [hwb]; simp
  have k0 : wb.heap[w.heap.size]? = some (.cells #[.int .i64 fN, .int .i64 sN, .int .i64 l0, .int .i64 l1, .int .i64 l2, .int .i64 l3, .int .i64 l4, .int .i64 l5, .int .i64 l6, .int .i64 l7] 82 (0, 0)) := by rw [hwb]; exact heap_at1 (by simp <;> omega) (heap_new_at (by simp))
  have k1 : wb.heap[w.heap.size + 1]? = some (.cells #[.int .i64 0, .int .i64 0, .int .i64 0, .int .i64 0, .int .i64 0, .slice none 0 0] 50 (0, 0)) := by rw [hwb]; exact heap_new_at (by simp)
  go_enter Try.func32, Try.ntmps32
  go_wp2
  rw [← hwb]
  clear hwb
  have up : ∀ (q : Addr) (u : Value), w.cell? q = some u → wb.cell? q = some u := fun q u h => (hbb.cell (World.block_lt_of_cell? w _ h)).trans h
  have s0 := up _ _ hc
  have s3 := up _ _ c4
  have p0 := up _ _ q0
  have p1 := up _ _ q1
  have p2 := up _ _ q2
  have p3 := up _ _ q3
  have p4 := up _ _ q4
  have p5 := up _ _ q5
  have s1 : wb.cell? ⟨w.heap.size, 0, none⟩ = some (.int .i64 fN) := by simp [World.cell?, k0]
  have s2 : wb.cell? ⟨w.heap.size, 1, none⟩ = some (.int .i64 sN) := by simp [World.cell?, k0]
  have z0 : wb.cell? ⟨w.heap.size + 1, 0, none⟩ = some (.int .i64 0) := by simp [World.cell?, k1]
  have z1 : wb.cell? ⟨w.heap.size + 1, 1, none⟩ = some (.int .i64 0) := by simp [World.cell?, k1]
  have z2 : wb.cell? ⟨w.heap.size + 1, 2, none⟩ = some (.int .i64 0) := by simp [World.cell?, k1]
  have z3 : wb.cell? ⟨w.heap.size + 1, 3, none⟩ = some (.int .i64 0) := by simp [World.cell?, k1]
  have z4 : wb.cell? ⟨w.heap.size + 1, 4, none⟩ = some (.int .i64 0) := by simp [World.cell?, k1]
  have z5 : wb.cell? ⟨w.heap.size + 1, 5, none⟩ = some (.slice none 0 0) := by simp [World.cell?, k1]
  have f0 : wb.frozen? ⟨w.heap.size + 1, 0, none⟩ = false := by simp [World.frozen?, k1]
  have f1 : wb.frozen? ⟨w.heap.size + 1, 1, none⟩ = false := by simp [World.frozen?, k1]
  have f2 : wb.frozen? ⟨w.heap.size + 1, 2, none⟩ = false := by simp [World.frozen?, k1]
  have f3 : wb.frozen? ⟨w.heap.size + 1, 3, none⟩ = false := by simp [World.frozen?, k1]
  have f4 : wb.frozen? ⟨w.heap.size + 1, 4, none⟩ = false := by simp [World.frozen?, k1]
  have f5 : wb.frozen? ⟨w.heap.size + 1, 5, none⟩ = false := by simp [World.frozen?, k1]
  have HU := hid (fun (W : World) (h : Below (w.heap.size + 1) wb W) (q : Addr) (u : Value) (hq : q.block < w.heap.size + 1) (hc : wb.cell? q = some u) => (h.cell hq).trans hc)
  have KS := hid (fun (W : World) (h : Below (w.heap.size + 1) wb W) => (⟨h, HU.out W h _ _ (by simp; omega) s0, HU.out W h _ _ (by simp) s1, HU.out W h _ _ (by simp) s2, HU.out W h _ _ (by simp; omega) s3, HU.out W h _ _ (by simp; omega) p0, HU.out W h _ _ (by simp; omega) p1, HU.out W h _ _ (by simp; omega) p2, HU.out W h _ _ (by simp; omega) p3, HU.out W h _ _ (by simp; omega) p4, HU.out W h _ _ (by simp; omega) p5⟩ : Below (w.heap.size + 1) wb W ∧ W.cell? ⟨rb, 0, none⟩ = some (.slice (some ⟨pb, poff, none⟩) pl pcap) ∧ W.cell? ⟨w.heap.size, 0, none⟩ = some (.int .i64 fN) ∧ W.cell? ⟨w.heap.size, 1, none⟩ = some (.int .i64 sN) ∧ W.cell? ⟨pb, poff + fN * 5 + 4, none⟩ = some (.slice (some ⟨qb, qoff, none⟩) bl bcap) ∧ W.cell? ⟨qb, qoff + sN * 6, none⟩ = some (.int .i64 oc) ∧ W.cell? ⟨qb, qoff + sN * 6 + 1, none⟩ = some (.int .i64 ol) ∧ W.cell? ⟨qb, qoff + sN * 6 + 2, none⟩ = some (.int .i64 oaa) ∧ W.cell? ⟨qb, qoff + sN * 6 + 3, none⟩ = some (.int .i64 ob) ∧ W.cell? ⟨qb, qoff + sN * 6 + 4, none⟩ = some (.int .i64 od) ∧ W.cell? ⟨qb, qoff + sN * 6 + 5, none⟩ = some (.slice oa na ocap)))
  clear s0 s1 s2 s3 p0 p1 p2 p3 p4 p5 hc c4 q0 q1 q2 q3 q4 q5 up k0 k1
  go_region_held (fun W => Below (w.heap.size + 1) wb W ∧ W.cell? ⟨rb, 0, none⟩ = some (.slice (some ⟨pb, poff, none⟩) pl pcap) ∧ W.cell? ⟨w.heap.size, 0, none⟩ = some (.int .i64 fN) ∧ W.cell? ⟨w.heap.size, 1, none⟩ = some (.int .i64 sN) ∧ W.cell? ⟨pb, poff + fN * 5 + 4, none⟩ = some (.slice (some ⟨qb, qoff, none⟩) bl bcap) ∧ W.cell? ⟨qb, qoff + sN * 6, none⟩ = some (.int .i64 oc) ∧ W.cell? ⟨qb, qoff + sN * 6 + 1, none⟩ = some (.int .i64 ol) ∧ W.cell? ⟨qb, qoff + sN * 6 + 2, none⟩ = some (.int .i64 oaa) ∧ W.cell? ⟨qb, qoff + sN * 6 + 3, none⟩ = some (.int .i64 ob) ∧ W.cell? ⟨qb, qoff + sN * 6 + 4, none⟩ = some (.int .i64 od) ∧ W.cell? ⟨qb, qoff + sN * 6 + 5, none⟩ = some (.slice oa na ocap))
    ((refine KS.out _ ?_; first | with_reducible exact (Below.refl _ _).drew | with_reducible exact (((((((Below.refl _ _).setCell (p := ⟨w.heap.size + 1, 0, none⟩) (Nat.le_refl _) _).setCell (p := ⟨w.heap.size + 1, 1, none⟩) (Nat.le_refl _) _).setCell (p := ⟨w.heap.size + 1, 2, none⟩) (Nat.le_refl _) _).setCell (p := ⟨w.heap.size + 1, 3, none⟩) (Nat.le_refl _) _).setCell (p := ⟨w.heap.size + 1, 4, none⟩) (Nat.le_refl _) _).setCell (p := ⟨w.heap.size + 1, 5, none⟩) (Nat.le_refl _) _).drew))
    (fail)
  have HBE := hid ((((((hbb.setCell (p := ⟨w.heap.size + 1, 0, none⟩) (Nat.le_succ _) (.int .i64 oc)).setCell (p := ⟨w.heap.size + 1, 1, none⟩) (Nat.le_succ _) (.int .i64 ol)).setCell (p := ⟨w.heap.size + 1, 2, none⟩) (Nat.le_succ _) (.int .i64 oaa)).setCell (p := ⟨w.heap.size + 1, 3, none⟩) (Nat.le_succ _) (.int .i64 ob)).setCell (p := ⟨w.heap.size + 1, 4, none⟩) (Nat.le_succ _) (.int .i64 od)).setCell (p := ⟨w.heap.size + 1, 5, none⟩) (Nat.le_succ _) (.slice oa na ocap)).drew
  obtain ⟨w2, hw2⟩ : ∃ w2, w2 = ((((((wb.setCell ⟨w.heap.size + 1, 0, none⟩ (.int .i64 oc)).setCell ⟨w.heap.size + 1, 1, none⟩ (.int .i64 ol)).setCell ⟨w.heap.size + 1, 2, none⟩ (.int .i64 oaa)).setCell ⟨w.heap.size + 1, 3, none⟩ (.int .i64 ob)).setCell ⟨w.heap.size + 1, 4, none⟩ (.int .i64 od)).setCell ⟨w.heap.size + 1, 5, none⟩ (.slice oa na ocap)).drew := ⟨_, rfl⟩
  have y0 : w2.cell? ⟨w.heap.size + 1, 0, none⟩ = some (.int .i64 oc) := by rw [hw2]; simp [go_sem, z0]
  have y1 : w2.cell? ⟨w.heap.size + 1, 1, none⟩ = some (.int .i64 ol) := by rw [hw2]; simp [go_sem, z1]
  have y2 : w2.cell? ⟨w.heap.size + 1, 2, none⟩ = some (.int .i64 oaa) := by rw [hw2]; simp [go_sem, z2]
  have y3 : w2.cell? ⟨w.heap.size + 1, 3, none⟩ = some (.int .i64 ob) := by rw [hw2]; simp [go_sem, z3]
  have y4 : w2.cell? ⟨w.heap.size + 1, 4, none⟩ = some (.int .i64 od) := by rw [hw2]; simp [go_sem, z4]
  have y5 : w2.cell? ⟨w.heap.size + 1, 5, none⟩ = some (.slice oa na ocap) := by rw [hw2]; simp [go_sem, z5]
  rw [← hw2] at HBE ⊢
  clear hw2 KS HU z0 z1 z2 z3 z4 z5 f0 f1 f2 f3 f4 f5
  go_wp2
  exact bodyPost_ret (v := .agg #[.int .i64 oc, .int .i64 ol, .int .i64 oaa, .int .i64 ob, .int .i64 od, .slice oa na ocap]) (by simp [results, Try.results32, go_sem, y0, y1, y2, y3, y4, y5]) rfl ⟨oa, ocap, rfl, HRO.out.below HBE.out (Nat.le_refl _), HBE.out⟩
end Go.Proofs.Ytooinlilplecpab
