/- Contract of the developers' (*run.Run).step at what sets a local. -/
import Derived.Test.YtffnfjkjlmlonaaGreatDoorZ35
namespace Go.Proofs.YtffnfjkjlmlonaaGreatDoor
open Go.RowKit

set_option maxHeartbeats 4000000 in
set_option maxRecDepth 100000 in
theorem step_zero (X : RX) (w0 : World) (P : List FnD) (rb : Nat) (ini : List LiveD) (x : LiveD) (w : World) (hgd : Good P) (hR : RunAt X w0 P rb w ⟨0, 0, ini ++ [x]⟩) (hx : WfLive P x) (h8 : ∀ y ∈ ini, y.locals.length ≤ 8) (hlen : ini.length ≤ 100) (hcode : (opOf P x).code < 4)
    (HRES : ∀ (W : World) (oa : Option Addr) (ocap : Nat), Calls Tryz.prog 221 #[.agg (frmCells x).toArray, .agg #[.int .i64 (opOf P x).code, .int .i64 (opOf P x).line, .int .i64 (opOf P x).a, .int .i64 (opOf P x).b, .int .i64 (opOf P x).c, .slice oa (opOf P x).args.length ocap]] W fun e w' => e = .returned (.tuple #[.int .i64 0, .bool false]) ∧ Below W.heap.size W w') :
    Calls Tryz.prog 195 #[.pointer (some ⟨rb, 0, none⟩)] w fun e w' => e = .returned (.tuple #[]) ∧ RunAt X w0 P rb w' ⟨2, 0, ini ++ [x]⟩ := by
  have hR0 := hR
  obtain ⟨pa, pcap, fv, hk, hp, hb, hrb, hown, hvr, hkx⟩ := hR
  replace hkx := hid hkx
  obtain ⟨m, hm⟩ : ∃ m, m = ini.length := ⟨_, rfl⟩
  have hll : (ini ++ [x]).length = m + 1 := by simp [hm]
  dsimp only at hown hk
  rw [hll] at hown
  obtain ⟨g, vcap, rfl, hgb, hvc, hvm⟩ : ∃ g vcap, fv = .slice (some ⟨g, 0, none⟩) (m + 1) vcap ∧ w0.heap.size ≤ g ∧ m + 1 ≤ vcap ∧ vcap ≤ maxLen := by
    rcases hown.2 with ⟨h1, h2⟩ | ⟨g, c', cur, h1, h2, _, h3, h4, _⟩
    · omega
    · exact ⟨g, c', h1, h2, h3, h4⟩
  have hgr : rb ≠ g := fun e => hvr (by simp [Value.ownBlock, e])
  have hxl := hx.locals
  have hxf := (hx.fnOk hgd).locals
  have hxn := hx.next
  have hxb := (hx.fnOk hgd).body
  have hxa := (hx.opOk hgd).a
  have hx8 : x.locals.length ≤ 8 := by omega
  obtain ⟨hr1, hr2⟩ := rows_last ini x h8
  rw [← hm] at hr2
  have hcell : ∀ i u, (frmCells x)[i]? = some u → w.cell? ⟨g, m * 10 + i, none⟩ = some u := fun i u hu => by
    have hi : i < 10 := by
      have := (List.getElem?_eq_some_iff.1 hu).1
      simp [frmCells, pad8_len hx8] at this; omega
    rw [hown.cellAt (m * 10 + i) (by omega), hr1, List.getElem?_append_right (by omega), hr2, Nat.add_sub_cancel_left]; exact hu
  obtain ⟨l0, l1, l2, l3, l4, l5, l6, l7, hpad⟩ := frm_array x hx8
  obtain ⟨x0, hx0⟩ : ∃ v, v = x.fn := ⟨_, rfl⟩
  obtain ⟨x1, hx1⟩ : ∃ v, v = x.next := ⟨_, rfl⟩
  have hfc : frmCells x = [.int .i64 x0, .int .i64 x1, .int .i64 l0, .int .i64 l1, .int .i64 l2, .int .i64 l3, .int .i64 l4, .int .i64 l5, .int .i64 l6, .int .i64 l7] := by unfold frmCells; rw [hpad, hx0, hx1]; rfl
  rw [hfc] at hcell
  have t0 : w.cell? ⟨g, m * 10, none⟩ = some (.int .i64 x0) := hcell 0 _ rfl
  have t1 : w.cell? ⟨g, m * 10 + 1, none⟩ = some (.int .i64 x1) := hcell 1 _ rfl
  have t2 : w.cell? ⟨g, m * 10 + 2, none⟩ = some (.int .i64 l0) := hcell 2 _ rfl
  have t3 : w.cell? ⟨g, m * 10 + 3, none⟩ = some (.int .i64 l1) := hcell 3 _ rfl
  have t4 : w.cell? ⟨g, m * 10 + 4, none⟩ = some (.int .i64 l2) := hcell 4 _ rfl
  have t5 : w.cell? ⟨g, m * 10 + 5, none⟩ = some (.int .i64 l3) := hcell 5 _ rfl
  have t6 : w.cell? ⟨g, m * 10 + 6, none⟩ = some (.int .i64 l4) := hcell 6 _ rfl
  have t7 : w.cell? ⟨g, m * 10 + 7, none⟩ = some (.int .i64 l5) := hcell 7 _ rfl
  have t8 : w.cell? ⟨g, m * 10 + 8, none⟩ = some (.int .i64 l6) := hcell 8 _ rfl
  have t9 : w.cell? ⟨g, m * 10 + 9, none⟩ = some (.int .i64 l7) := hcell 9 _ rfl
  have hfz : ∀ j, w.frozen? ⟨g, j, none⟩ = false := fun j => hown.frozenAt j
  have r1 : w.cell? ⟨rb, 1, none⟩ = some (.slice (some ⟨g, 0, none⟩) (m + 1) vcap) := by simp [World.cell?, hk]
  have ltg : g < w.heap.size := World.block_lt_of_cell? w _ t0
  have ltr : rb < w.heap.size := World.block_lt_of_cell? w _ r1
  unfold maxLen at hvm
  have HOP := hid (fun (W : World) (h : Below w.heap.size w W) => op_any rb P pa pcap x W ((h.cell (p := ⟨rb, 0, none⟩) ltr).trans (by simp [World.cell?, hk])) (hp.below (hb.trans (h.mono hb.size))) hx hx8)
  obtain ⟨o, ho⟩ : ∃ o, o = opOf P x := ⟨_, rfl⟩
  rw [← ho] at HOP hxa
  rw [hfc] at HOP
  obtain ⟨n1, hn1⟩ : ∃ n, n = m + 1 := ⟨_, rfl⟩
  rw [← hn1] at r1 hvc
  have e2 : IntKind.i64.wrap ((n1 : Int) - 1) = (m : Int) := by rw [IntKind.wrap_i64]; omega
  have hmn : m < n1 := by omega
  have HRS := hid HRES
  clear HRES
  rw [hfc, ← ho] at HRS
  rw [← ho] at hcode
  obtain ⟨oc, ol, oA, ob, od, oargs⟩ := o
  dsimp only at *
  have n4 : (oc == 4) = false := by simp; omega
  have n5 : (oc == 5) = false := by simp; omega
  have n6 : (oc == 6) = false := by simp; omega
  obtain ⟨aN, rfl⟩ : ∃ aN : Nat, oA = (aN : Int) := ⟨oA.toNat, by omega⟩
  obtain ⟨na, hna⟩ : ∃ v, v = oargs.length := ⟨_, rfl⟩
  rw [← hna] at HOP HRS
  clear hp hown hvr hm hll hr1 hr2 hcell hfc hpad hna ho hx hfz hx0 hx1 hn1 hcode
  have HK := hid hk
  clear hk
  obtain ⟨wa, hwa⟩ : ∃ wa, wa = w.alloc (Obj.cells #[.int .i64 x0, .int .i64 x1, .int .i64 l0, .int .i64 l1, .int .i64 l2, .int .i64 l3, .int .i64 l4, .int .i64 l5, .int .i64 l6, .int .i64 l7] 248) := ⟨_, rfl⟩
  have hba : Below w.heap.size w wa := by rw [hwa]; exact (Below.refl _ _).alloc (Nat.le_refl _) _
  have hsa : wa.heap.size = w.heap.size + 1 := by rw [hwa]; simp
  have kf : wa.heap[w.heap.size]? = some (.cells #[.int .i64 x0, .int .i64 x1, .int .i64 l0, .int .i64 l1, .int .i64 l2, .int .i64 l3, .int .i64 l4, .int .i64 l5, .int .i64 l6, .int .i64 l7] 248 (0, 0)) := by rw [hwa]; exact heap_new_at rfl
  go_enter Tryz.func195, Tryz.ntmps195
  go_wp2_with fail
  rw [← hwa]
  clear hwa t0 t1 t2 t3 t4 t5 t6 t7 t8 t9 r1
  refine (HOP.out _ hba).mono ?_
  rintro e w2 ⟨oa, ocap, rfl, hro, hb2⟩
  have hw2 := hba.trans (hb2.mono hba.size)
  have hs2 := hb2.size
  have kf2 := (hb2.block w.heap.size (by omega)).trans kf
  have ltf2 : w.heap.size < w2.heap.size := by omega
  have ltg2 : g < w2.heap.size := by omega
  have ltr2 : rb < w2.heap.size := by omega
  have q0 : w2.cell? ⟨w.heap.size, 0, none⟩ = some (.int .i64 x0) := by simp [World.cell?, kf2]
  have q1 : w2.cell? ⟨w.heap.size, 1, none⟩ = some (.int .i64 x1) := by simp [World.cell?, kf2]
  have q2 : w2.cell? ⟨w.heap.size, 2, none⟩ = some (.int .i64 l0) := by simp [World.cell?, kf2]
  have q3 : w2.cell? ⟨w.heap.size, 3, none⟩ = some (.int .i64 l1) := by simp [World.cell?, kf2]
  have q4 : w2.cell? ⟨w.heap.size, 4, none⟩ = some (.int .i64 l2) := by simp [World.cell?, kf2]
  have q5 : w2.cell? ⟨w.heap.size, 5, none⟩ = some (.int .i64 l3) := by simp [World.cell?, kf2]
  have q6 : w2.cell? ⟨w.heap.size, 6, none⟩ = some (.int .i64 l4) := by simp [World.cell?, kf2]
  have q7 : w2.cell? ⟨w.heap.size, 7, none⟩ = some (.int .i64 l5) := by simp [World.cell?, kf2]
  have q8 : w2.cell? ⟨w.heap.size, 8, none⟩ = some (.int .i64 l6) := by simp [World.cell?, kf2]
  have q9 : w2.cell? ⟨w.heap.size, 9, none⟩ = some (.int .i64 l7) := by simp [World.cell?, kf2]
  have lt2 : rb < w2.heap.size + 1 := by omega
  obtain ⟨wb, hwb⟩ : ∃ wb, wb = w2.alloc (Obj.cells #[.int .i64 oc, .int .i64 ol, .int .i64 aN, .int .i64 ob, .int .i64 od, .slice oa na ocap] 183) := ⟨_, rfl⟩
  have hb2b : Below w2.heap.size w2 wb := by rw [hwb]; exact (Below.refl _ _).alloc (Nat.le_refl _) _
  have hwb2 := hw2.trans (hb2b.mono hw2.size)
  have HC2 := hid (HRS.out wb oa ocap)
  clear hro HRS HOP kf kf2 hb2 hba
  go_wp2_with fail
  rw [← hwb]
  refine HC2.out.mono ?_
  rintro e w5 ⟨rfl, hb5⟩
  have hw5 := hwb2.trans (hb5.mono hwb2.size)
  have k5 := (hw5.block rb ltr).trans HK.out
  have z2 : w5.cell? ⟨rb, 2, none⟩ = some (.int .i64 0) := by simp [World.cell?, k5]
  have f2 : w5.frozen? ⟨rb, 2, none⟩ = false := by simp [World.frozen?, k5]
  have hR5 := hR0.below hw5
  have HFIN : Hid (RunAt X w0 P rb (w5.setCell ⟨rb, 2, none⟩ (.int .i64 2)) ⟨2, 0, ini ++ [x]⟩) := by
    obtain ⟨pa, pcap, fv, hk, hp, hb, hrb, hown, hvr, hkx⟩ := hR5
    exact ⟨pa, pcap, fv, by rw [heap_setCell_same w5 rb 2 _ _ _ hk]; rfl, hp, hb.setCell (p := ⟨rb, 2, none⟩) hrb _, hrb, ownsRow_setCell_other hown hvr _, hvr, hkx.set _ _⟩
  clear hwb k5 HK hR0 hR5 hw5 hwb2 hw2 hb2b hb5 HC2
  go_wp2
  exact bodyPost_ret (v := .tuple #[]) (by simp [results, Tryz.results195, go_sem]) rfl ⟨rfl, HFIN.out⟩

set_option maxHeartbeats 4000000 in
set_option maxRecDepth 100000 in
theorem step_val (X : RX) (w0 : World) (P : List FnD) (rb : Nat) (ini : List LiveD) (x : LiveD) (w : World) (hgd : Good P) (hR : RunAt X w0 P rb w ⟨0, 0, ini ++ [x]⟩) (hx : WfLive P x) (h8 : ∀ y ∈ ini, y.locals.length ≤ 8) (hlen : ini.length ≤ 100) (hcode : (opOf P x).code < 4) (v : Int)
    (HRES : ∀ (W : World) (oa : Option Addr) (ocap : Nat), Calls Tryz.prog 221 #[.agg (frmCells x).toArray, .agg #[.int .i64 (opOf P x).code, .int .i64 (opOf P x).line, .int .i64 (opOf P x).a, .int .i64 (opOf P x).b, .int .i64 (opOf P x).c, .slice oa (opOf P x).args.length ocap]] W fun e w' => e = .returned (.tuple #[.int .i64 v, .bool true]) ∧ Below W.heap.size W w') :
    Calls Tryz.prog 195 #[.pointer (some ⟨rb, 0, none⟩)] w fun e w' => e = .returned (.tuple #[]) ∧ RunAt X w0 P rb w' ⟨0, 0, ini ++ [setL x (opOf P x).a v (x.next + 1)]⟩ := by
  obtain ⟨pa, pcap, fv, hk, hp, hb, hrb, hown, hvr, hkx⟩ := hR
  replace hkx := hid hkx
  obtain ⟨m, hm⟩ : ∃ m, m = ini.length := ⟨_, rfl⟩
  have hll : (ini ++ [x]).length = m + 1 := by simp [hm]
  dsimp only at hown hk
  rw [hll] at hown
  obtain ⟨g, vcap, rfl, hgb, hvc, hvm⟩ : ∃ g vcap, fv = .slice (some ⟨g, 0, none⟩) (m + 1) vcap ∧ w0.heap.size ≤ g ∧ m + 1 ≤ vcap ∧ vcap ≤ maxLen := by
    rcases hown.2 with ⟨h1, h2⟩ | ⟨g, c', cur, h1, h2, _, h3, h4, _⟩
    · omega
    · exact ⟨g, c', h1, h2, h3, h4⟩
  have hgr : rb ≠ g := fun e => hvr (by simp [Value.ownBlock, e])
  have hxl := hx.locals
  have hxf := (hx.fnOk hgd).locals
  have hxn := hx.next
  have hxb := (hx.fnOk hgd).body
  have hxa := (hx.opOk hgd).a
  have hx8 : x.locals.length ≤ 8 := by omega
  obtain ⟨hr1, hr2⟩ := rows_last ini x h8
  rw [← hm] at hr2
  have hcell : ∀ i u, (frmCells x)[i]? = some u → w.cell? ⟨g, m * 10 + i, none⟩ = some u := fun i u hu => by
    have hi : i < 10 := by
      have := (List.getElem?_eq_some_iff.1 hu).1
      simp [frmCells, pad8_len hx8] at this; omega
    rw [hown.cellAt (m * 10 + i) (by omega), hr1, List.getElem?_append_right (by omega), hr2, Nat.add_sub_cancel_left]; exact hu
  obtain ⟨l0, l1, l2, l3, l4, l5, l6, l7, hpad⟩ := frm_array x hx8
  obtain ⟨x0, hx0⟩ : ∃ v, v = x.fn := ⟨_, rfl⟩
  obtain ⟨x1, hx1⟩ : ∃ v, v = x.next := ⟨_, rfl⟩
  have hfc : frmCells x = [.int .i64 x0, .int .i64 x1, .int .i64 l0, .int .i64 l1, .int .i64 l2, .int .i64 l3, .int .i64 l4, .int .i64 l5, .int .i64 l6, .int .i64 l7] := by unfold frmCells; rw [hpad, hx0, hx1]; rfl
  rw [hfc] at hcell
  have t0 : w.cell? ⟨g, m * 10, none⟩ = some (.int .i64 x0) := hcell 0 _ rfl
  have t1 : w.cell? ⟨g, m * 10 + 1, none⟩ = some (.int .i64 x1) := hcell 1 _ rfl
  have t2 : w.cell? ⟨g, m * 10 + 2, none⟩ = some (.int .i64 l0) := hcell 2 _ rfl
  have t3 : w.cell? ⟨g, m * 10 + 3, none⟩ = some (.int .i64 l1) := hcell 3 _ rfl
  have t4 : w.cell? ⟨g, m * 10 + 4, none⟩ = some (.int .i64 l2) := hcell 4 _ rfl
  have t5 : w.cell? ⟨g, m * 10 + 5, none⟩ = some (.int .i64 l3) := hcell 5 _ rfl
  have t6 : w.cell? ⟨g, m * 10 + 6, none⟩ = some (.int .i64 l4) := hcell 6 _ rfl
  have t7 : w.cell? ⟨g, m * 10 + 7, none⟩ = some (.int .i64 l5) := hcell 7 _ rfl
  have t8 : w.cell? ⟨g, m * 10 + 8, none⟩ = some (.int .i64 l6) := hcell 8 _ rfl
  have t9 : w.cell? ⟨g, m * 10 + 9, none⟩ = some (.int .i64 l7) := hcell 9 _ rfl
  have hfz : ∀ j, w.frozen? ⟨g, j, none⟩ = false := fun j => hown.frozenAt j
  have r1 : w.cell? ⟨rb, 1, none⟩ = some (.slice (some ⟨g, 0, none⟩) (m + 1) vcap) := by simp [World.cell?, hk]
  have ltg : g < w.heap.size := World.block_lt_of_cell? w _ t0
  have ltr : rb < w.heap.size := World.block_lt_of_cell? w _ r1
  unfold maxLen at hvm
  have HOP := hid (fun (W : World) (h : Below w.heap.size w W) => op_any rb P pa pcap x W ((h.cell (p := ⟨rb, 0, none⟩) ltr).trans (by simp [World.cell?, hk])) (hp.below (hb.trans (h.mono hb.size))) hx hx8)
  obtain ⟨o, ho⟩ : ∃ o, o = opOf P x := ⟨_, rfl⟩
  rw [← ho] at HOP hxa
  rw [hfc] at HOP
  obtain ⟨n1, hn1⟩ : ∃ n, n = m + 1 := ⟨_, rfl⟩
  rw [← hn1] at r1 hvc
  have e2 : IntKind.i64.wrap ((n1 : Int) - 1) = (m : Int) := by rw [IntKind.wrap_i64]; omega
  have hmn : m < n1 := by omega
  have HRS := hid HRES
  clear HRES
  rw [hfc, ← ho] at HRS
  rw [← ho] at hcode
  rw [← ho]
  obtain ⟨oc, ol, oA, ob, od, oargs⟩ := o
  dsimp only at *
  have n4 : (oc == 4) = false := by simp; omega
  have n5 : (oc == 5) = false := by simp; omega
  have n6 : (oc == 6) = false := by simp; omega
  obtain ⟨aN, rfl⟩ : ∃ aN : Nat, oA = (aN : Int) := ⟨oA.toNat, by omega⟩
  obtain ⟨na, hna⟩ : ∃ v, v = oargs.length := ⟨_, rfl⟩
  rw [← hna] at HOP HRS
  have hset : setL x aN v (x.next + 1) = ⟨x.fn, x.next + 1, x.locals.set aN v⟩ := by unfold setL; simp
  rw [hset]
  have HGO := hid (fun (W : World) => goOn_any x aN v W hx8 (by omega) (by omega))
  obtain ⟨q0, q1, q2, q3, q4, q5, q6, q7, hq⟩ := frm_array ⟨x.fn, x.next + 1, x.locals.set aN v⟩ (by simpa using hx8)
  obtain ⟨nx, hnx⟩ : ∃ v, v = x.next + 1 := ⟨_, rfl⟩
  rw [← hnx] at HGO hq ⊢
  have hfc' : frmCells ⟨x.fn, nx, x.locals.set aN v⟩ = [.int .i64 x0, .int .i64 nx, .int .i64 q0, .int .i64 q1, .int .i64 q2, .int .i64 q3, .int .i64 q4, .int .i64 q5, .int .i64 q6, .int .i64 q7] := by unfold frmCells; dsimp only at hq ⊢; rw [hq, hx0]; rfl
  rw [hfc', hfc] at HGO
  have HFIN := hid (fun (W : World) (hW : Below w.heap.size w W) => runAt_stored (c := x) (c' := ⟨x.fn, nx, x.locals.set aN v⟩) (w := W) (m := m) (ini := ini) ((hW.block rb ltr).trans hk) hp (hb.trans (hW.mono hb.size)) hrb hgb hgr (ownsRow_below hown hW) h8 hm hx8 (by simpa using hx8) (hkx.out.below hW) hfc')
  have HG1 : Hid (∀ W, Below w.heap.size w W → W.cell? ⟨g, m * 10, none⟩ = some (.int .i64 x0) ∧ W.cell? ⟨g, m * 10 + 1, none⟩ = some (.int .i64 x1) ∧ W.cell? ⟨g, m * 10 + 2, none⟩ = some (.int .i64 l0) ∧ W.cell? ⟨g, m * 10 + 3, none⟩ = some (.int .i64 l1) ∧ W.cell? ⟨g, m * 10 + 4, none⟩ = some (.int .i64 l2) ∧ W.cell? ⟨g, m * 10 + 5, none⟩ = some (.int .i64 l3) ∧ W.cell? ⟨g, m * 10 + 6, none⟩ = some (.int .i64 l4) ∧ W.cell? ⟨g, m * 10 + 7, none⟩ = some (.int .i64 l5) ∧ W.cell? ⟨g, m * 10 + 8, none⟩ = some (.int .i64 l6) ∧ W.cell? ⟨g, m * 10 + 9, none⟩ = some (.int .i64 l7) ∧ W.frozen? ⟨g, m * 10, none⟩ = false ∧ W.frozen? ⟨g, m * 10 + 1, none⟩ = false ∧ W.frozen? ⟨g, m * 10 + 2, none⟩ = false ∧ W.frozen? ⟨g, m * 10 + 3, none⟩ = false ∧ W.frozen? ⟨g, m * 10 + 4, none⟩ = false ∧ W.frozen? ⟨g, m * 10 + 5, none⟩ = false ∧ W.frozen? ⟨g, m * 10 + 6, none⟩ = false ∧ W.frozen? ⟨g, m * 10 + 7, none⟩ = false ∧ W.frozen? ⟨g, m * 10 + 8, none⟩ = false ∧ W.frozen? ⟨g, m * 10 + 9, none⟩ = false) := fun W hW => by
    have h := ownsRow_below hown hW
    have hc : ∀ i u, (frmCells x)[i]? = some u → W.cell? ⟨g, m * 10 + i, none⟩ = some u := fun i u hu => by
      have hi : i < 10 := by
        have := (List.getElem?_eq_some_iff.1 hu).1
        simp [frmCells, pad8_len hx8] at this; omega
      rw [h.cellAt (m * 10 + i) (by omega), hr1, List.getElem?_append_right (by omega), hr2, Nat.add_sub_cancel_left]; exact hu
    rw [hfc] at hc
    exact ⟨hc 0 _ rfl, hc 1 _ rfl, hc 2 _ rfl, hc 3 _ rfl, hc 4 _ rfl, hc 5 _ rfl, hc 6 _ rfl, hc 7 _ rfl, hc 8 _ rfl, hc 9 _ rfl, h.frozenAt _, h.frozenAt _, h.frozenAt _, h.frozenAt _, h.frozenAt _, h.frozenAt _, h.frozenAt _, h.frozenAt _, h.frozenAt _, h.frozenAt _⟩
  clear hp hown hvr hm hll hr1 hr2 hcell hfc hfc' hpad hnx hna ho hx hfz hx0 hx1 hq hset hcode
  have HK := hid hk
  clear hk
  obtain ⟨wa, hwa⟩ : ∃ wa, wa = w.alloc (Obj.cells #[.int .i64 x0, .int .i64 x1, .int .i64 l0, .int .i64 l1, .int .i64 l2, .int .i64 l3, .int .i64 l4, .int .i64 l5, .int .i64 l6, .int .i64 l7] 248) := ⟨_, rfl⟩
  have hba : Below w.heap.size w wa := by rw [hwa]; exact (Below.refl _ _).alloc (Nat.le_refl _) _
  have hsa : wa.heap.size = w.heap.size + 1 := by rw [hwa]; simp
  have kf : wa.heap[w.heap.size]? = some (.cells #[.int .i64 x0, .int .i64 x1, .int .i64 l0, .int .i64 l1, .int .i64 l2, .int .i64 l3, .int .i64 l4, .int .i64 l5, .int .i64 l6, .int .i64 l7] 248 (0, 0)) := by rw [hwa]; exact heap_new_at rfl
  go_enter Tryz.func195, Tryz.ntmps195
  go_wp2_with fail
  rw [← hwa]
  clear hwa t0 t1 t2 t3 t4 t5 t6 t7 t8 t9 r1
  refine (HOP.out _ hba).mono ?_
  rintro e w2 ⟨oa, ocap, rfl, hro, hb2⟩
  have hw2 := hba.trans (hb2.mono hba.size)
  have hs2 := hb2.size
  have kf2 := (hb2.block w.heap.size (by omega)).trans kf
  have ltf2 : w.heap.size < w2.heap.size := by omega
  have ltg2 : g < w2.heap.size := by omega
  have ltr2 : rb < w2.heap.size := by omega
  have p0 : w2.cell? ⟨w.heap.size, 0, none⟩ = some (.int .i64 x0) := by simp [World.cell?, kf2]
  have p1 : w2.cell? ⟨w.heap.size, 1, none⟩ = some (.int .i64 x1) := by simp [World.cell?, kf2]
  have p2 : w2.cell? ⟨w.heap.size, 2, none⟩ = some (.int .i64 l0) := by simp [World.cell?, kf2]
  have p3 : w2.cell? ⟨w.heap.size, 3, none⟩ = some (.int .i64 l1) := by simp [World.cell?, kf2]
  have p4 : w2.cell? ⟨w.heap.size, 4, none⟩ = some (.int .i64 l2) := by simp [World.cell?, kf2]
  have p5 : w2.cell? ⟨w.heap.size, 5, none⟩ = some (.int .i64 l3) := by simp [World.cell?, kf2]
  have p6 : w2.cell? ⟨w.heap.size, 6, none⟩ = some (.int .i64 l4) := by simp [World.cell?, kf2]
  have p7 : w2.cell? ⟨w.heap.size, 7, none⟩ = some (.int .i64 l5) := by simp [World.cell?, kf2]
  have p8 : w2.cell? ⟨w.heap.size, 8, none⟩ = some (.int .i64 l6) := by simp [World.cell?, kf2]
  have p9 : w2.cell? ⟨w.heap.size, 9, none⟩ = some (.int .i64 l7) := by simp [World.cell?, kf2]
  obtain ⟨w3, hw3⟩ : ∃ w3, w3 = w2.alloc (Obj.cells #[.int .i64 oc, .int .i64 ol, .int .i64 aN, .int .i64 ob, .int .i64 od, .slice oa na ocap] 183) := ⟨_, rfl⟩
  have hb23 : Below w2.heap.size w2 w3 := by rw [hw3]; exact (Below.refl _ _).alloc (Nat.le_refl _) _
  have hs3 : w3.heap.size = w2.heap.size + 1 := by rw [hw3]; simp
  have ko3 : w3.heap[w2.heap.size]? = some (.cells #[.int .i64 oc, .int .i64 ol, .int .i64 aN, .int .i64 ob, .int .i64 od, .slice oa na ocap] 183 (0, 0)) := by rw [hw3]; exact heap_new_at rfl
  have HC2 := hid (HRS.out w3 oa ocap)
  clear hro HRS HOP kf hb2 hba
  go_wp2_with fail
  rw [← hw3]
  clear hw3 p0 p1 p2 p3 p4 p5 p6 p7 p8 p9
  refine HC2.out.mono ?_
  rintro e wb ⟨rfl, hb3b⟩
  have hb2b := hb23.trans (hb3b.mono hb23.size)
  have hsb := hb3b.size
  have kfb := (hb2b.block w.heap.size (by omega)).trans kf2
  have kob := (hb3b.block w2.heap.size (by omega)).trans ko3
  have hbw : Below w.heap.size w wb := hw2.trans (hb2b.mono hw2.size)
  have krb := (hbw.block rb ltr).trans HK.out
  have a1 : wb.cell? ⟨w2.heap.size, 2, none⟩ = some (.int .i64 aN) := by simp [World.cell?, kob]
  clear HK kf2 ko3 HC2 hb23 hb3b
  go_wp2
  clear a1
  have y0 : wb.cell? ⟨rb, 1, none⟩ = some (.slice (some ⟨g, 0, none⟩) n1 vcap) := by simp [World.cell?, krb, hn1]
  have hgf : w.heap.size ≠ g := by omega
  have hgo : w2.heap.size ≠ g := by omega
  have KS : Hid (∀ W, ButG g wb W → ButG g wb W ∧ W.cell? ⟨rb, 1, none⟩ = some (.slice (some ⟨g, 0, none⟩) n1 vcap) ∧ W.cell? ⟨w.heap.size, 0, none⟩ = some (.int .i64 x0) ∧ W.cell? ⟨w.heap.size, 1, none⟩ = some (.int .i64 x1) ∧ W.cell? ⟨w.heap.size, 2, none⟩ = some (.int .i64 l0) ∧ W.cell? ⟨w.heap.size, 3, none⟩ = some (.int .i64 l1) ∧ W.cell? ⟨w.heap.size, 4, none⟩ = some (.int .i64 l2) ∧ W.cell? ⟨w.heap.size, 5, none⟩ = some (.int .i64 l3) ∧ W.cell? ⟨w.heap.size, 6, none⟩ = some (.int .i64 l4) ∧ W.cell? ⟨w.heap.size, 7, none⟩ = some (.int .i64 l5) ∧ W.cell? ⟨w.heap.size, 8, none⟩ = some (.int .i64 l6) ∧ W.cell? ⟨w.heap.size, 9, none⟩ = some (.int .i64 l7) ∧ W.cell? ⟨w2.heap.size, 2, none⟩ = some (.int .i64 aN)) := fun W h => ⟨h, h.cell hgr y0, h.cell hgf (by simp [World.cell?, kfb]), h.cell hgf (by simp [World.cell?, kfb]), h.cell hgf (by simp [World.cell?, kfb]), h.cell hgf (by simp [World.cell?, kfb]), h.cell hgf (by simp [World.cell?, kfb]), h.cell hgf (by simp [World.cell?, kfb]), h.cell hgf (by simp [World.cell?, kfb]), h.cell hgf (by simp [World.cell?, kfb]), h.cell hgf (by simp [World.cell?, kfb]), h.cell hgf (by simp [World.cell?, kfb]), h.cell hgo (by simp [World.cell?, kob])⟩
  have HGB : Hid (∀ W, Below wb.drew.heap.size wb.drew W → W.cell? ⟨g, m * 10, none⟩ = some (.int .i64 x0) ∧ W.cell? ⟨g, m * 10 + 1, none⟩ = some (.int .i64 x1) ∧ W.cell? ⟨g, m * 10 + 2, none⟩ = some (.int .i64 l0) ∧ W.cell? ⟨g, m * 10 + 3, none⟩ = some (.int .i64 l1) ∧ W.cell? ⟨g, m * 10 + 4, none⟩ = some (.int .i64 l2) ∧ W.cell? ⟨g, m * 10 + 5, none⟩ = some (.int .i64 l3) ∧ W.cell? ⟨g, m * 10 + 6, none⟩ = some (.int .i64 l4) ∧ W.cell? ⟨g, m * 10 + 7, none⟩ = some (.int .i64 l5) ∧ W.cell? ⟨g, m * 10 + 8, none⟩ = some (.int .i64 l6) ∧ W.cell? ⟨g, m * 10 + 9, none⟩ = some (.int .i64 l7) ∧ W.frozen? ⟨g, m * 10, none⟩ = false ∧ W.frozen? ⟨g, m * 10 + 1, none⟩ = false ∧ W.frozen? ⟨g, m * 10 + 2, none⟩ = false ∧ W.frozen? ⟨g, m * 10 + 3, none⟩ = false ∧ W.frozen? ⟨g, m * 10 + 4, none⟩ = false ∧ W.frozen? ⟨g, m * 10 + 5, none⟩ = false ∧ W.frozen? ⟨g, m * 10 + 6, none⟩ = false ∧ W.frozen? ⟨g, m * 10 + 7, none⟩ = false ∧ W.frozen? ⟨g, m * 10 + 8, none⟩ = false ∧ W.frozen? ⟨g, m * 10 + 9, none⟩ = false) := fun W hW => HG1.out W (hbw.trans ((Below.refl _ _).drew.trans hW |>.mono hbw.size))
  have HFB : Hid (∀ W, Below wb.drew.heap.size wb.drew W → _) := fun W hW => HFIN.out W (hbw.trans ((Below.refl _ _).drew.trans hW |>.mono hbw.size))
  clear y0 krb kfb kob HG1 HFIN hbw hb2b hw2 hn1
  go_region_held (fun W => ButG g wb W ∧ W.cell? ⟨rb, 1, none⟩ = some (.slice (some ⟨g, 0, none⟩) n1 vcap) ∧ W.cell? ⟨w.heap.size, 0, none⟩ = some (.int .i64 x0) ∧ W.cell? ⟨w.heap.size, 1, none⟩ = some (.int .i64 x1) ∧ W.cell? ⟨w.heap.size, 2, none⟩ = some (.int .i64 l0) ∧ W.cell? ⟨w.heap.size, 3, none⟩ = some (.int .i64 l1) ∧ W.cell? ⟨w.heap.size, 4, none⟩ = some (.int .i64 l2) ∧ W.cell? ⟨w.heap.size, 5, none⟩ = some (.int .i64 l3) ∧ W.cell? ⟨w.heap.size, 6, none⟩ = some (.int .i64 l4) ∧ W.cell? ⟨w.heap.size, 7, none⟩ = some (.int .i64 l5) ∧ W.cell? ⟨w.heap.size, 8, none⟩ = some (.int .i64 l6) ∧ W.cell? ⟨w.heap.size, 9, none⟩ = some (.int .i64 l7) ∧ W.cell? ⟨w2.heap.size, 2, none⟩ = some (.int .i64 aN))
    ((refine KS.out _ ?_; first | with_reducible exact (ButG.refl _ _).drew | with_reducible exact (ButG.refl _ _).drew.below hb4 | with_reducible exact ((((((((((((ButG.refl _ _).drew.below hb4).setCell _ _).setCell _ _).setCell _ _).setCell _ _).setCell _ _).setCell _ _).setCell _ _).setCell _ _).setCell _ _).setCell _ _)))
    ((go_at_call 222; refine (HGO.out _).mono ?_; rintro e w4 ⟨rfl, hb4⟩; obtain ⟨g0, g1, g2, g3, g4, g5, g6, g7, g8, g9, z0, z1, z2, z3, z4, z5, z6, z7, z8, z9⟩ := HGB.out _ hb4))
  go_wp2
  go_end0
  exact ⟨rfl, HFB.out _ hb4⟩
end Go.Proofs.YtffnfjkjlmlonaaGreatDoor
