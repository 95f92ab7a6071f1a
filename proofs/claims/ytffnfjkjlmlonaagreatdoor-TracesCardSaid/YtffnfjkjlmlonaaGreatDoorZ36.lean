/- Contract of the developers' (*run.Run).step at a Call. Contract of the developers' (*run.Run).step at a Ret. -/
import Derived.Test.YtffnfjkjlmlonaaGreatDoorZ35
namespace Go.Proofs.YtffnfjkjlmlonaaGreatDoor
open Go.RowKit

set_option maxHeartbeats 4000000 in
set_option maxRecDepth 100000 in
theorem step_call (X : RX) (w0 : World) (P : List FnD) (rb : Nat) (ini : List LiveD) (x : LiveD) (w : World) (hgd : Good P) (hR : RunAt X w0 P rb w ⟨0, 0, ini ++ [x]⟩) (hx : WfLive P x) (h8 : ∀ y ∈ ini, y.locals.length ≤ 8) (hlen : ini.length + 1 ≤ 20) (hcode : (opOf P x).code = 5) :
    Calls Tryz.prog 195 #[.pointer (some ⟨rb, 0, none⟩)] w fun e w' => e = .returned (.tuple #[]) ∧ RunAt X w0 P rb w' (if (ini ++ [x]).length = 20 then ⟨3, 0, ini ++ [x]⟩ else ⟨0, 0, (ini ++ [x]) ++ [⟨(opOf P x).b, 0, (opOf P x).args.map (locOf x)⟩]⟩) := by
  have hR0 := hR
  have hxc := (hx.opOk hgd).call hcode
  have hln' : (ini ++ [x]).length ≤ 20 := by simpa using hlen
  obtain ⟨pa, pcap, fv, hk, hp, hb, hrb, hown, hvr, hkx⟩ := hR
  replace hkx := hid hkx
  obtain ⟨m, hm⟩ : ∃ m, m = ini.length := ⟨_, rfl⟩
  have hll : (ini ++ [x]).length = m + 1 := by simp [hm]
  dsimp only at hown hk
  rw [hll] at hown
  obtain ⟨g, vcap, rfl, hgb, hvc, hvm⟩ : ∃ g vcap, fv = .slice (some ⟨g, 0, none⟩) (m + 1) vcap ∧ w0.heap.size ≤ g ∧ m + 1 ≤ vcap ∧ vcap ≤ maxLen := by
    rcases hown.2 with ⟨h1, h2⟩ | ⟨g, c', cur, h1, h2, _, h3, h4, _⟩
    · omega
    · exact ⟨g, c', h1, h2, h3, h4⟩
  have hgr : rb ≠ g := fun e => hvr (by simp [Value.ownBlock, e])
  have hxl := hx.locals
  have hxf := (hx.fnOk hgd).locals
  have hxn := hx.next
  have hxb := (hx.fnOk hgd).body
  have hxa := (hx.opOk hgd).a
  have hx8 : x.locals.length ≤ 8 := by omega
  obtain ⟨hr1, hr2⟩ := rows_last ini x h8
  rw [← hm] at hr2
  have hcell : ∀ i u, (frmCells x)[i]? = some u → w.cell? ⟨g, m * 10 + i, none⟩ = some u := fun i u hu => by
    have hi : i < 10 := by
      have := (List.getElem?_eq_some_iff.1 hu).1
      simp [frmCells, pad8_len hx8] at this; omega
    rw [hown.cellAt (m * 10 + i) (by omega), hr1, List.getElem?_append_right (by omega), hr2, Nat.add_sub_cancel_left]; exact hu
  obtain ⟨l0, l1, l2, l3, l4, l5, l6, l7, hpad⟩ := frm_array x hx8
  obtain ⟨x0, hx0⟩ : ∃ v, v = x.fn := ⟨_, rfl⟩
  obtain ⟨x1, hx1⟩ : ∃ v, v = x.next := ⟨_, rfl⟩
  have hfc : frmCells x = [.int .i64 x0, .int .i64 x1, .int .i64 l0, .int .i64 l1, .int .i64 l2, .int .i64 l3, .int .i64 l4, .int .i64 l5, .int .i64 l6, .int .i64 l7] := by unfold frmCells; rw [hpad, hx0, hx1]; rfl
  rw [hfc] at hcell
  have t0 : w.cell? ⟨g, m * 10, none⟩ = some (.int .i64 x0) := hcell 0 _ rfl
  have t1 : w.cell? ⟨g, m * 10 + 1, none⟩ = some (.int .i64 x1) := hcell 1 _ rfl
  have t2 : w.cell? ⟨g, m * 10 + 2, none⟩ = some (.int .i64 l0) := hcell 2 _ rfl
  have t3 : w.cell? ⟨g, m * 10 + 3, none⟩ = some (.int .i64 l1) := hcell 3 _ rfl
  have t4 : w.cell? ⟨g, m * 10 + 4, none⟩ = some (.int .i64 l2) := hcell 4 _ rfl
  have t5 : w.cell? ⟨g, m * 10 + 5, none⟩ = some (.int .i64 l3) := hcell 5 _ rfl
  have t6 : w.cell? ⟨g, m * 10 + 6, none⟩ = some (.int .i64 l4) := hcell 6 _ rfl
  have t7 : w.cell? ⟨g, m * 10 + 7, none⟩ = some (.int .i64 l5) := hcell 7 _ rfl
  have t8 : w.cell? ⟨g, m * 10 + 8, none⟩ = some (.int .i64 l6) := hcell 8 _ rfl
  have t9 : w.cell? ⟨g, m * 10 + 9, none⟩ = some (.int .i64 l7) := hcell 9 _ rfl
  have hfz : ∀ j, w.frozen? ⟨g, j, none⟩ = false := fun j => hown.frozenAt j
  have r1 : w.cell? ⟨rb, 1, none⟩ = some (.slice (some ⟨g, 0, none⟩) (m + 1) vcap) := by simp [World.cell?, hk]
  have ltg : g < w.heap.size := World.block_lt_of_cell? w _ t0
  have ltr : rb < w.heap.size := World.block_lt_of_cell? w _ r1
  unfold maxLen at hvm
  have HOP := hid (fun (W : World) (h : Below w.heap.size w W) => op_any rb P pa pcap x W ((h.cell (p := ⟨rb, 0, none⟩) ltr).trans (by simp [World.cell?, hk])) (hp.below (hb.trans (h.mono hb.size))) hx hx8)
  obtain ⟨o, ho⟩ : ∃ o, o = opOf P x := ⟨_, rfl⟩
  rw [← ho] at HOP hxa
  rw [hfc] at HOP
  obtain ⟨n1, hn1⟩ : ∃ n, n = m + 1 := ⟨_, rfl⟩
  rw [← hn1] at r1 hvc
  have e2 : IntKind.i64.wrap ((n1 : Int) - 1) = (m : Int) := by rw [IntKind.wrap_i64]; omega
  have hmn : m < n1 := by omega
  rw [← ho] at hcode hxc ⊢
  have hfb := hgd.fns _ _ (fnAt_some ⟨hxc.1, hxc.2.1⟩)
  have hal : o.args.length ≤ 8 := by
    have h1 := hfb.params
    have h2 := hfb.locals
    have h3 := hxc.2.2.1
    omega
  have hargs : ∀ k ∈ o.args, 0 ≤ k ∧ k < (x.locals.length : Int) := fun k hk => by
    have := hxc.2.2.2 k hk
    omega
  have HCA := hid (fun (W : World) (hW : Below w.heap.size w W) (oa : Option Addr) (ocap : Nat) (hr : Rd .i64 W oa o.args.length ocap o.args) => call_any X w0 P rb ⟨0, 0, ini ++ [x]⟩ x o oa ocap W (hR0.below hW) hx8 hr hal hargs hln')
  rw [hfc] at HCA
  obtain ⟨oc, ol, oA, ob, od, oargs⟩ := o
  dsimp only at *
  subst hcode
  obtain ⟨na, hna⟩ : ∃ v, v = oargs.length := ⟨_, rfl⟩
  rw [← hna] at HOP HCA
  clear hp hown hvr hm hll hr1 hr2 hcell hfc hpad hna ho hx hfz hx0 hx1 hk hn1 hR0 hargs hal hfb hxc
  have HCB := hid HCA.out
  clear HCA
  generalize (if (ini ++ [x]).length = 20 then (⟨3, 0, ini ++ [x]⟩ : StandD) else ⟨0, 0, (ini ++ [x]) ++ [⟨ob, 0, oargs.map (locOf x)⟩]⟩) = R at *
  obtain ⟨wa, hwa⟩ : ∃ wa, wa = w.alloc (Obj.cells #[.int .i64 x0, .int .i64 x1, .int .i64 l0, .int .i64 l1, .int .i64 l2, .int .i64 l3, .int .i64 l4, .int .i64 l5, .int .i64 l6, .int .i64 l7] 248) := ⟨_, rfl⟩
  have hba : Below w.heap.size w wa := by rw [hwa]; exact (Below.refl _ _).alloc (Nat.le_refl _) _
  have hsa : wa.heap.size = w.heap.size + 1 := by rw [hwa]; simp
  have kf : wa.heap[w.heap.size]? = some (.cells #[.int .i64 x0, .int .i64 x1, .int .i64 l0, .int .i64 l1, .int .i64 l2, .int .i64 l3, .int .i64 l4, .int .i64 l5, .int .i64 l6, .int .i64 l7] 248 (0, 0)) := by rw [hwa]; exact heap_new_at rfl
  go_enter Tryz.func195, Tryz.ntmps195
  go_wp2_with fail
  rw [← hwa]
  clear hwa t0 t1 t2 t3 t4 t5 t6 t7 t8 t9 r1
  refine (HOP.out _ hba).mono ?_
  rintro e w2 ⟨oa, ocap, rfl, hro, hb2⟩
  have hw2 := hba.trans (hb2.mono hba.size)
  have hs2 := hb2.size
  have kf2 := (hb2.block w.heap.size (by omega)).trans kf
  have ltf2 : w.heap.size < w2.heap.size := by omega
  have ltg2 : g < w2.heap.size := by omega
  have ltr2 : rb < w2.heap.size := by omega
  have q0 : w2.cell? ⟨w.heap.size, 0, none⟩ = some (.int .i64 x0) := by simp [World.cell?, kf2]
  have q1 : w2.cell? ⟨w.heap.size, 1, none⟩ = some (.int .i64 x1) := by simp [World.cell?, kf2]
  have q2 : w2.cell? ⟨w.heap.size, 2, none⟩ = some (.int .i64 l0) := by simp [World.cell?, kf2]
  have q3 : w2.cell? ⟨w.heap.size, 3, none⟩ = some (.int .i64 l1) := by simp [World.cell?, kf2]
  have q4 : w2.cell? ⟨w.heap.size, 4, none⟩ = some (.int .i64 l2) := by simp [World.cell?, kf2]
  have q5 : w2.cell? ⟨w.heap.size, 5, none⟩ = some (.int .i64 l3) := by simp [World.cell?, kf2]
  have q6 : w2.cell? ⟨w.heap.size, 6, none⟩ = some (.int .i64 l4) := by simp [World.cell?, kf2]
  have q7 : w2.cell? ⟨w.heap.size, 7, none⟩ = some (.int .i64 l5) := by simp [World.cell?, kf2]
  have q8 : w2.cell? ⟨w.heap.size, 8, none⟩ = some (.int .i64 l6) := by simp [World.cell?, kf2]
  have q9 : w2.cell? ⟨w.heap.size, 9, none⟩ = some (.int .i64 l7) := by simp [World.cell?, kf2]
  obtain ⟨wb, hwb⟩ : ∃ wb, wb = w2.alloc (Obj.cells #[.int .i64 5, .int .i64 ol, .int .i64 oA, .int .i64 ob, .int .i64 od, .slice oa na ocap] 183) := ⟨_, rfl⟩
  have hb2b : Below w2.heap.size w2 wb := by rw [hwb]; exact (Below.refl _ _).alloc (Nat.le_refl _) _
  have HC2 := hid (HCB.out wb (hw2.trans (hb2b.mono hw2.size)) oa ocap (hro.below hb2b (Nat.le_refl _)))
  clear hro HCB HOP kf kf2 hb2 hw2 hba
  go_wp2_with fail
  rw [← hwb]
  refine HC2.out.mono ?_
  rintro e w5 ⟨rfl, hfin⟩
  have HFIN := hid hfin
  clear hfin
  go_wp2
  go_end0
  exact ⟨rfl, HFIN.out⟩
end Go.Proofs.YtffnfjkjlmlonaaGreatDoor
namespace Go.Proofs.YtffnfjkjlmlonaaGreatDoor
open Go.RowKit

set_option maxHeartbeats 4000000 in
set_option maxRecDepth 100000 in
theorem step_ret (X : RX) (w0 : World) (P : List FnD) (rb : Nat) (ini : List LiveD) (x : LiveD) (w : World) (hgd : Good P) (hR : RunAt X w0 P rb w ⟨0, 0, ini ++ [x]⟩) (hx : WfLive P x) (h8 : ∀ y ∈ ini, y.locals.length ≤ 8) (hlen : ini.length ≤ 100) (hcode : (opOf P x).code = 6) (R : Int → StandD)
    (HRET : ∀ (W : World) (v : Int), RunAt X w0 P rb W ⟨0, 0, ini ++ [x]⟩ → Calls Tryz.prog 220 #[.pointer (some ⟨rb, 0, none⟩), .int .i64 v] W fun e w' => e = .returned (.tuple #[]) ∧ RunAt X w0 P rb w' (R v)) :
    Calls Tryz.prog 195 #[.pointer (some ⟨rb, 0, none⟩)] w fun e w' => e = .returned (.tuple #[]) ∧ RunAt X w0 P rb w' (R (locOf x (opOf P x).a)) := by
  have hR0 := hR
  obtain ⟨pa, pcap, fv, hk, hp, hb, hrb, hown, hvr, hkx⟩ := hR
  replace hkx := hid hkx
  obtain ⟨m, hm⟩ : ∃ m, m = ini.length := ⟨_, rfl⟩
  have hll : (ini ++ [x]).length = m + 1 := by simp [hm]
  dsimp only at hown hk
  rw [hll] at hown
  obtain ⟨g, vcap, rfl, hgb, hvc, hvm⟩ : ∃ g vcap, fv = .slice (some ⟨g, 0, none⟩) (m + 1) vcap ∧ w0.heap.size ≤ g ∧ m + 1 ≤ vcap ∧ vcap ≤ maxLen := by
    rcases hown.2 with ⟨h1, h2⟩ | ⟨g, c', cur, h1, h2, _, h3, h4, _⟩
    · omega
    · exact ⟨g, c', h1, h2, h3, h4⟩
  have hgr : rb ≠ g := fun e => hvr (by simp [Value.ownBlock, e])
  have hxl := hx.locals
  have hxf := (hx.fnOk hgd).locals
  have hxn := hx.next
  have hxb := (hx.fnOk hgd).body
  have hxa := (hx.opOk hgd).a
  have hx8 : x.locals.length ≤ 8 := by omega
  obtain ⟨hr1, hr2⟩ := rows_last ini x h8
  rw [← hm] at hr2
  have hcell : ∀ i u, (frmCells x)[i]? = some u → w.cell? ⟨g, m * 10 + i, none⟩ = some u := fun i u hu => by
    have hi : i < 10 := by
      have := (List.getElem?_eq_some_iff.1 hu).1
      simp [frmCells, pad8_len hx8] at this; omega
    rw [hown.cellAt (m * 10 + i) (by omega), hr1, List.getElem?_append_right (by omega), hr2, Nat.add_sub_cancel_left]; exact hu
  obtain ⟨l0, l1, l2, l3, l4, l5, l6, l7, hpad⟩ := frm_array x hx8
  obtain ⟨x0, hx0⟩ : ∃ v, v = x.fn := ⟨_, rfl⟩
  obtain ⟨x1, hx1⟩ : ∃ v, v = x.next := ⟨_, rfl⟩
  have hfc : frmCells x = [.int .i64 x0, .int .i64 x1, .int .i64 l0, .int .i64 l1, .int .i64 l2, .int .i64 l3, .int .i64 l4, .int .i64 l5, .int .i64 l6, .int .i64 l7] := by unfold frmCells; rw [hpad, hx0, hx1]; rfl
  rw [hfc] at hcell
  have t0 : w.cell? ⟨g, m * 10, none⟩ = some (.int .i64 x0) := hcell 0 _ rfl
  have t1 : w.cell? ⟨g, m * 10 + 1, none⟩ = some (.int .i64 x1) := hcell 1 _ rfl
  have t2 : w.cell? ⟨g, m * 10 + 2, none⟩ = some (.int .i64 l0) := hcell 2 _ rfl
  have t3 : w.cell? ⟨g, m * 10 + 3, none⟩ = some (.int .i64 l1) := hcell 3 _ rfl
  have t4 : w.cell? ⟨g, m * 10 + 4, none⟩ = some (.int .i64 l2) := hcell 4 _ rfl
  have t5 : w.cell? ⟨g, m * 10 + 5, none⟩ = some (.int .i64 l3) := hcell 5 _ rfl
  have t6 : w.cell? ⟨g, m * 10 + 6, none⟩ = some (.int .i64 l4) := hcell 6 _ rfl
  have t7 : w.cell? ⟨g, m * 10 + 7, none⟩ = some (.int .i64 l5) := hcell 7 _ rfl
  have t8 : w.cell? ⟨g, m * 10 + 8, none⟩ = some (.int .i64 l6) := hcell 8 _ rfl
  have t9 : w.cell? ⟨g, m * 10 + 9, none⟩ = some (.int .i64 l7) := hcell 9 _ rfl
  have hfz : ∀ j, w.frozen? ⟨g, j, none⟩ = false := fun j => hown.frozenAt j
  have r1 : w.cell? ⟨rb, 1, none⟩ = some (.slice (some ⟨g, 0, none⟩) (m + 1) vcap) := by simp [World.cell?, hk]
  have ltg : g < w.heap.size := World.block_lt_of_cell? w _ t0
  have ltr : rb < w.heap.size := World.block_lt_of_cell? w _ r1
  unfold maxLen at hvm
  have HOP := hid (fun (W : World) (h : Below w.heap.size w W) => op_any rb P pa pcap x W ((h.cell (p := ⟨rb, 0, none⟩) ltr).trans (by simp [World.cell?, hk])) (hp.below (hb.trans (h.mono hb.size))) hx hx8)
  obtain ⟨o, ho⟩ : ∃ o, o = opOf P x := ⟨_, rfl⟩
  rw [← ho] at HOP hxa
  rw [hfc] at HOP
  obtain ⟨n1, hn1⟩ : ∃ n, n = m + 1 := ⟨_, rfl⟩
  rw [← hn1] at r1 hvc
  have e2 : IntKind.i64.wrap ((n1 : Int) - 1) = (m : Int) := by rw [IntKind.wrap_i64]; omega
  have hmn : m < n1 := by omega
  rw [← ho] at hcode ⊢
  obtain ⟨oc, ol, oA, ob, od, oargs⟩ := o
  dsimp only at *
  subst hcode
  obtain ⟨aN, rfl⟩ : ∃ aN : Nat, oA = (aN : Int) := ⟨oA.toNat, by omega⟩
  have haN : aN < x.locals.length := by omega
  have ha8 : (aN : Int) < 8 := by omega
  have g1 : (#[.int .i64 x0, .int .i64 x1, .int .i64 l0, .int .i64 l1, .int .i64 l2, .int .i64 l3, .int .i64 l4, .int .i64 l5, .int .i64 l6, .int .i64 l7] : Array Value)[2 + aN]? = some (.int .i64 (locOf x aN)) := by
    have h := arr_get (.int .i64 x0) (.int .i64 x1) ([l0, l1, l2, l3, l4, l5, l6, l7].map (Value.int .i64)) aN
    rw [← hpad, List.getElem?_map] at h
    have h2 : (pad8 x.locals)[aN]? = some (locOf x aN) := by
      unfold pad8 locOf
      rw [List.getElem?_append_left haN, List.getElem?_eq_getElem haN]; simp [haN]
    rw [h2, hpad] at h
    exact h
  obtain ⟨lv, hlv⟩ : ∃ v, v = locOf x aN := ⟨_, rfl⟩
  rw [← hlv] at g1 ⊢
  have HRB := hid (fun (W : World) (hW : Below w.heap.size w W) => HRET W lv (hR0.below hW))
  have HG1 := hid g1
  obtain ⟨na, hna⟩ : ∃ v, v = oargs.length := ⟨_, rfl⟩
  rw [← hna] at HOP
  clear hp hown hvr hm hll hr1 hr2 hcell hfc hpad hna ho hx hfz hx0 hx1 hk hn1 hR0 hlv HRET g1
  obtain ⟨wa, hwa⟩ : ∃ wa, wa = w.alloc (Obj.cells #[.int .i64 x0, .int .i64 x1, .int .i64 l0, .int .i64 l1, .int .i64 l2, .int .i64 l3, .int .i64 l4, .int .i64 l5, .int .i64 l6, .int .i64 l7] 248) := ⟨_, rfl⟩
  have hba : Below w.heap.size w wa := by rw [hwa]; exact (Below.refl _ _).alloc (Nat.le_refl _) _
  have hsa : wa.heap.size = w.heap.size + 1 := by rw [hwa]; simp
  have kf : wa.heap[w.heap.size]? = some (.cells #[.int .i64 x0, .int .i64 x1, .int .i64 l0, .int .i64 l1, .int .i64 l2, .int .i64 l3, .int .i64 l4, .int .i64 l5, .int .i64 l6, .int .i64 l7] 248 (0, 0)) := by rw [hwa]; exact heap_new_at rfl
  go_enter Tryz.func195, Tryz.ntmps195
  go_wp2_with fail
  rw [← hwa]
  clear hwa t0 t1 t2 t3 t4 t5 t6 t7 t8 t9 r1
  refine (HOP.out _ hba).mono ?_
  rintro e w2 ⟨oa, ocap, rfl, hro, hb2⟩
  have hw2 := hba.trans (hb2.mono hba.size)
  have hs2 := hb2.size
  have kf2 := (hb2.block w.heap.size (by omega)).trans kf
  have ltf2 : w.heap.size < w2.heap.size := by omega
  have ltg2 : g < w2.heap.size := by omega
  have ltr2 : rb < w2.heap.size := by omega
  have q0 : w2.cell? ⟨w.heap.size, 2 + aN, none⟩ = some (.int .i64 lv) := by simp [World.cell?, kf2, HG1.out]
  obtain ⟨wb, hwb⟩ : ∃ wb, wb = w2.alloc (Obj.cells #[.int .i64 6, .int .i64 ol, .int .i64 aN, .int .i64 ob, .int .i64 od, .slice oa na ocap] 183) := ⟨_, rfl⟩
  have hb2b : Below w2.heap.size w2 wb := by rw [hwb]; exact (Below.refl _ _).alloc (Nat.le_refl _) _
  have HC2 := hid (HRB.out wb (hw2.trans (hb2b.mono hw2.size)))
  clear hro HRB HOP kf kf2 hb2 hw2 hba HG1
  go_wp2_with fail
  rw [← hwb]
  refine HC2.out.mono ?_
  rintro e w5 ⟨rfl, hfin⟩
  have HFIN := hid hfin
  clear hfin
  go_wp2
  go_end0
  exact ⟨rfl, HFIN.out⟩
end Go.Proofs.YtffnfjkjlmlonaaGreatDoor
