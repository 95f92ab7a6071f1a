/- Contract of the developers' (*code.writer).instance: the body of a function laid as the newest instance, and within it those that begin there. -/
import Derived.Test.YtffnfjkjlmlonaaGreatDoorQ1b
namespace Go.Proofs.YtffnfjkjlmlonaaGreatDoor
open Go.RowKit

set_option maxHeartbeats 4000000 in
set_option maxRecDepth 100000 in
theorem instance_step (p : List FnD) (hgd : Good p) (bud : Int) (f : Nat) (hf : f ≤ 12) (K : Nat → Option Obj) (w0 : World) (first : Int) (wb fn : Nat) (ar : List Int) (w : World) (s : LyD) (hR : WrAt K w0 p bud first wb w s) (hfn : fn < p.length) (hbd : BndL 0 s)
    (IH : ∀ (b : Nat) (K' : Nat → Option Obj) (W : World) (t : LyD), b < p.length → (b : Int) ∉ ((fn : Int) :: ar) → BndL 0 t → WrAt K' w0 p bud first wb W t →
      Calls Tryz.prog 212 #[.pointer (some ⟨wb, 0, none⟩), .int .i64 b, .agg (arCells ((fn : Int) :: ar)).toArray] W fun e w' => e = .returned (.tuple #[]) ∧ WrAt K' w0 p bud first wb w' (layI p bud f b ((fn : Int) :: ar) t)) :
    Calls Tryz.prog 212 #[.pointer (some ⟨wb, 0, none⟩), .int .i64 fn, .agg (arCells ar).toArray] w fun e w' => e = .returned (.tuple #[]) ∧ WrAt K w0 p bud first wb w' (layI p bud (f + 1) fn ar s) := by
  obtain ⟨pa, pcap, pl, tr, hW⟩ := hR
  have h12 := hgd.len.2
  have ltw := hW.lt
  have hbd1 := hbd.1
  have hbd2 := hbd.2.1
  have hbd3 := hbd.2.2
  obtain ⟨r0, r1, r2, r3, r4, r5, rf⟩ := hW.cell
  obtain ⟨ta, tcap, rfl, htc, htm⟩ : ∃ ta tcap, tr = .slice ta s.tree.length tcap ∧ s.tree.length ≤ tcap ∧ tcap ≤ maxLen := by
    rcases hW.trs.2 with ⟨h1, h2⟩ | ⟨g, c, cur, h1, _, _, h3, h4, _⟩
    · exact ⟨none, 0, by rw [h1, h2], by omega, by unfold maxLen; omega⟩
    · exact ⟨_, c, h1, h3, h4⟩
  have hfs : p[fn]? = some (fnAt p fn) := by
    have := fnAt_some (p := p) (n := (fn : Int)) ⟨by omega, by omega⟩
    simpa using this
  have hup : ∀ (q : Addr) (u : Value), w0.cell? q = some u → w.cell? q = some u := fun q u h => (hW.old.cell (World.block_lt_of_cell? w0 _ h)).trans h
  obtain ⟨pb, poff, ba, bcap, rfl, -, -, -, -, -, c4', hrb, -, -⟩ := hW.prog.at fn _ hfs
  have c4 := hup _ _ c4'
  have hbl1 := hrb.2.1
  have hbl2 := hrb.2.2.1
  have hpc1 := hW.prog.2.1
  have hpc2 := hW.prog.2.2.1
  unfold maxLen at hbl2 hpc2 htm
  have lt1 := World.block_lt_of_cell? w _ c4
  simp only at lt1
  have hg := arCells_get ar fn (by omega)
  unfold arCells at hg
  have hg2 : (#[Value.bool (arB ar 0), .bool (arB ar 1), .bool (arB ar 2), .bool (arB ar 3), .bool (arB ar 4), .bool (arB ar 5), .bool (arB ar 6), .bool (arB ar 7), .bool (arB ar 8), .bool (arB ar 9), .bool (arB ar 10), .bool (arB ar 11)] : Array Value)[fn]? = some (.bool (arB ar fn)) := by simpa using hg
  have hf12 : (fn : Int) < 12 := by omega
  have hfp : fn < p.length := hfn
  have HGD := hid hgd
  have HIH := hid IH
  have HW := hid hW
  have HRB := hid hrb
  clear hg hgd IH hup c4' hfs hrb hW
  obtain ⟨n, hn⟩ : ∃ v, v = (fnAt p fn).body.length := ⟨_, rfl⟩
  rw [← hn] at hbl1 c4
  have HN := hid hn
  obtain ⟨pn, hpn⟩ : ∃ v, v = p.length := ⟨_, rfl⟩
  rw [← hpn] at r0 hpc1 h12 hfp
  have HPN := hid hpn
  obtain ⟨tl, htl⟩ : ∃ v, v = s.tree.length := ⟨_, rfl⟩
  rw [← htl] at r5 htc hbd3
  have HTL := hid htl
  clear hn hpn htl hfn
  have ltA : wb < w.heap.size + 1 := by omega
  have ltB : pb < w.heap.size + 1 := by omega
  have neA : wb ≠ w.heap.size := by omega
  have neB : pb ≠ w.heap.size := by omega
  obtain ⟨body, hbody⟩ : ∃ b, b = (fnAt p fn).body := ⟨_, rfl⟩
  rw [← hbody] at HN HRB
  obtain ⟨fin, hfin⟩ : ∃ t, t = layI p bud (f + 1) fn ar s := ⟨_, rfl⟩
  rw [← hfin]
  have HFIN : Hid (fin = layB (layI p bud f) p bud fn ((fn : Int) :: ar) tl body 0 s) := by rw [hfin, hbody, HTL.out]; rfl
  clear hfin
  have HBODY := hid hbody
  clear hbody
  unfold arCells
  go_enter Tryz.func212, Tryz.ntmps212
  have HKN : Hid (K w.heap.size = none) := by
    cases h : K w.heap.size with
    | none => rfl
    | some o =>
      have := (Array.getElem?_eq_some_iff.1 (HW.out.kept _ _ h).1).1
      omega
  obtain ⟨wB, hwB⟩ : ∃ wB, wB = w.alloc (Obj.cells (([Value.bool (arB ar 0), .bool (arB ar 1), .bool (arB ar 2), .bool (arB ar 3), .bool (arB ar 4), .bool (arB ar 5), .bool (arB ar 6), .bool (arB ar 7), .bool (arB ar 8), .bool (arB ar 9), .bool (arB ar 10), .bool (arB ar 11)].set fn (.bool true)).toArray) 268) := ⟨_, rfl⟩
  have kB : wB.heap[w.heap.size]? = some (.cells (arCells ((fn : Int) :: ar)).toArray 268 (0, 0)) := by
    rw [hwB, ← arCells_set]; exact heap_new_at rfl
  have hbB : Below w.heap.size w wB := by rw [hwB]; exact (Below.refl _ _).alloc (Nat.le_refl _) _
  obtain ⟨AO, hAO⟩ : ∃ o, o = Obj.cells (arCells ((fn : Int) :: ar)).toArray 268 (0, 0) := ⟨_, rfl⟩
  rw [← hAO] at kB
  have HAT0 : Hid (WrAt (withK K w.heap.size AO) w0 p bud first wb wB s) := ⟨_, _, _, _, (HW.out.below hbB).keep kB (fun e => neA e.symm) (fun e => by have := (HW.out.pls.lt _ e).2; omega) (fun e => by have := (HW.out.trs.lt _ e).2; omega)⟩
  have HAO := hid hAO
  have HBD := hid (show BndL f s from ⟨by have := hbd.1; omega, hbd.2⟩)
  clear hAO kB hbB hbd
  go_wp2
  rw [← hwB]
  clear hwB r0 r1 r2 r3 r4 r5 rf c4 hg2
  go_loopw [27] (fun i wr => ∃ (j : Nat) (t : LyD), i = .int .i64 j ∧ j ≤ n ∧ BndL f t ∧ WrAt (withK K w.heap.size AO) w0 p bud first wb wr t ∧ fin = layB (layI p bud f) p bud fn ((fn : Int) :: ar) tl (body.drop j) j t) (fun i _ => n - (intOf i).toNat)
  case atStart => exact ⟨0, s, rfl, by omega, HBD.out, HAT0.out, HFIN.out⟩
  case round =>
    clear HAT0 HFIN HBD HW
    obtain ⟨j, t, rfl, hj, hbt, hat, hfn⟩ := hrel
    by_cases hjn : j < n
    · have hjn' : (j : Int) < (n : Int) := by omega
      obtain ⟨o, ho⟩ : ∃ o, body[j]? = some o := ⟨_, List.getElem?_eq_getElem (by rw [← HN.out]; exact hjn)⟩
      obtain ⟨qa, qcap, pl, tr, hin⟩ := hat
      have hup : ∀ (q : Addr) (u : Value), w0.cell? q = some u → wr.cell? q = some u := fun q u h => (hin.old.cell (World.block_lt_of_cell? w0 _ h)).trans h
      obtain ⟨qb, qoff, oa, ocap, rfl, -, q0, q1, q2, q3, q4, q5, hro⟩ := HRB.out.opAt j _ ho
      replace q0 := hup _ _ q0
      replace q1 := hup _ _ q1
      replace q2 := hup _ _ q2
      replace q3 := hup _ _ q3
      replace q4 := hup _ _ q4
      replace q5 := hup _ _ q5
      have hdr : body.drop j = o :: body.drop (j + 1) := by
        obtain ⟨hlt, he⟩ := List.getElem?_eq_some_iff.1 ho
        rw [List.drop_eq_getElem_cons hlt, he]
      rw [hdr] at hfn
      have hkb := (hin.kept w.heap.size AO (by unfold withK; rw [if_pos rfl])).1
      have hop : o.code = 5 → 0 ≤ o.b ∧ o.b < p.length := fun hc => by
        have hx := HGD.out.fns fn (fnAt p fn) (by
          have := fnAt_some (p := p) (n := (fn : Int)) ⟨by omega, by have := HPN.out; omega⟩
          simpa using this)
        have := (hx.ops j o (by rw [← HBODY.out]; exact ho)).call hc
        exact ⟨this.1, this.2.1⟩
      have HIN := hid hin
      have hwr := hin.lt
      have lt3 := World.block_lt_of_cell? wr _ q0
      have lt4 := (Array.getElem?_eq_some_iff.1 hkb).1
      simp only at lt3 lt4
      obtain ⟨r0, r1, r2, r3, r4, r5, rf⟩ := hin.cell
      obtain ⟨b1, b2, b3⟩ := hbt
      have ew : IntKind.i64.wrap (t.room - 1) = t.room - 1 := by rw [IntKind.wrap_i64]; omega
      have HFN := hid hfn
      have HOP := hid hop
      have HDR := hid hdr
      clear hin hup hro ho hdr hfn hop
      obtain ⟨oc, ol, oA, ob, od, oargs⟩ := o
      dsimp only at *
      obtain ⟨na, hna⟩ : ∃ v, v = oargs.length := ⟨_, rfl⟩
      rw [← hna] at q5
      clear hna
      by_cases h0 : t.room - 1 < 0
      · have hend : fin = ⟨t.room - 1, t.places, t.tree⟩ := by
          rw [HFN.out]
          unfold layB
          rw [if_pos h0]
        have HEND := hid hend
        clear hend
        have HFW : Hid (WrAt K w0 p bud first wb ((wr.setCell ⟨wb, 2, none⟩ (.int .i64 (t.room - 1))).alloc (Obj.cells #[.int .i64 oc, .int .i64 ol, .int .i64 oA, .int .i64 ob, .int .i64 od, .slice oa na ocap] 183)) fin) := by
          rw [HEND.out]
          exact WrAt.below ⟨_, _, _, _, ((HIN.out.room (t.room - 1)).drop HKN.out).1⟩ ((Below.refl _ _).alloc (Nat.le_refl _) _)
        go_wp2
        exact bodyPost_ret (v := .tuple #[]) (by simp [results, Tryz.results212, go_sem]) rfl ⟨rfl, HFW.out⟩
      · have h0' : decide (t.room - 1 < 0) = false := by simpa using h0
        obtain ⟨la, lcap, rfl, hlc, hlm⟩ : ∃ la lcap, pl = .slice la t.places.length lcap ∧ t.places.length ≤ lcap ∧ lcap ≤ maxLen := by
          rcases HIN.out.pls.2 with ⟨h1, h2⟩ | ⟨g, c, cur, h1, _, _, h3, h4, _⟩
          · exact ⟨none, 0, by rw [h1, h2], by omega, by unfold maxLen; omega⟩
          · exact ⟨_, c, h1, h3, h4⟩
        unfold maxLen at hlm
        have hpl2 : t.places.length ≤ 1012 := by omega
        obtain ⟨npl, hnpl⟩ : ∃ v, v = t.places.length := ⟨_, rfl⟩
        rw [← hnpl] at r4 hlc hpl2
        have HNPL := hid hnpl
        clear hnpl
        obtain ⟨OPO, hOPO⟩ : ∃ o, o = Obj.cells #[.int .i64 oc, .int .i64 ol, .int .i64 oA, .int .i64 ob, .int .i64 od, .slice oa na ocap] 183 (0, 0) := ⟨_, rfl⟩
        obtain ⟨K2, hK2⟩ : ∃ k, k = withK (withK K w.heap.size AO) wr.heap.size OPO := ⟨_, rfl⟩
        obtain ⟨w1, hw1⟩ : ∃ v, v = (wr.setCell ⟨wb, 2, none⟩ (.int .i64 (t.room - 1))).alloc (Obj.cells #[.int .i64 oc, .int .i64 ol, .int .i64 oA, .int .i64 ob, .int .i64 od, .slice oa na ocap] 183) := ⟨_, rfl⟩
        have hs1 : w1.heap.size = wr.heap.size + 1 := by rw [hw1]; simp
        have hrm := HIN.out.room (t.room - 1)
        have hb1 : Below (wr.setCell ⟨wb, 2, none⟩ (.int .i64 (t.room - 1))).heap.size (wr.setCell ⟨wb, 2, none⟩ (.int .i64 (t.room - 1))) w1 := by rw [hw1]; exact (Below.refl _ _).alloc (Nat.le_refl _) _
        have kop : w1.heap[wr.heap.size]? = some OPO := by rw [hw1, hOPO]; exact heap_new_at (by simp)
        have hin1 := (hrm.below hb1).keep kop (by omega) (fun e => by have := (HIN.out.pls.lt _ e).2; omega) (fun e => by have := (HIN.out.trs.lt _ e).2; omega)
        rw [← hK2] at hin1
        have HB2 : Hid (Below w1.heap.size w1 (w1.alloc (Obj.cells #[.int .i64 fn, .int .i64 j, .int .i64 tl] 270))) := (Below.refl _ _).alloc (Nat.le_refl _) _
        have HIN2 := hid (hin1.below HB2.out)
        have HO2 : Hid ((((wr.setCell ⟨wb, 2, none⟩ (.int .i64 (t.room - 1))).alloc (Obj.cells #[.int .i64 oc, .int .i64 ol, .int .i64 oA, .int .i64 ob, .int .i64 od, .slice oa na ocap] 183)).alloc (Obj.cells #[.int .i64 fn, .int .i64 j, .int .i64 tl] 270)).ownsRow (wb + 1) 270 3 (.slice la npl lcap) npl (t.places.map plCells).flatten) := by
          rw [← hw1, HNPL.out]
          exact HIN2.out.pls
        have HS1 := hid hs1
        have HW1 := hid hw1
        have HOPO := hid hOPO
        have HK2 := hid hK2
        clear hs1 hw1 hrm hb1 kop hin1 hOPO hK2
        obtain ⟨i0, hi, hz0, hz1, hz2⟩ := info_parts Tryz.infoPlace
        go_wp2_with (at_builtin; refine wpList_append_lies _ rfl (.tmp 56) (.tmp 61) 218 rfl (wb + 1) 270 i0 (.agg #[.int .i64 0, .int .i64 0, .int .i64 0]) 3 24 Tryz.underlying218 hi hz0 hz1 hz2 rfl (by decide) _ _ _ rfl HO2.out ⟨wr.heap.size + 1, 0, none⟩ 1 1 [.int .i64 fn, .int .i64 j, .int .i64 tl] rfl rfl (new3_at (by simp) _ _ _ _) (one3 _ _ _) (by decide) (by unfold maxLen; omega) (by omega) (by simp; omega) _ rfl ?_)
        intro g c w5 hown5 hgrow5 hat5 hlt5
        rw [← HW1.out] at hgrow5
        have hin3 : WrIn K2 w0 p bud first wb qa qcap (.slice (some ⟨g, 0, none⟩) (npl + 1) c) tr (w5.setCell ⟨wb, 4, none⟩ (.slice (some ⟨g, 0, none⟩) (npl + 1) c)) ⟨t.room - 1, t.places ++ [⟨fn, j, tl⟩], t.tree⟩ := by
          rw [HNPL.out] at hown5 hgrow5 hat5 ⊢
          refine HIN2.out.addPl ⟨fn, j, tl⟩ hgrow5 ?_ hown5
          rcases hat5 with h | h
          · exact .inl h
          · exact .inr (by rw [h]; simp [HS1.out])
        have kw5 : w5.heap[wb]? = some (.cells #[.slice qa p.length qcap, .int .i64 bud, .int .i64 (t.room - 1), .int .i64 first, .slice la npl lcap, tr] 266 (0, 0)) := by
          refine (hgrow5.block wb (by simp [HS1.out]; omega) (fun e => ?_)).trans ?_
          · rw [HNPL.out] at e
            exact own_ne HIN2.out.pls (Nat.lt_succ_self _) e.symm
          · rw [HNPL.out]; exact HIN2.out.box
        have z4 : w5.cell? ⟨wb, 4, none⟩ = some (.slice la npl lcap) := by simp [World.cell?, kw5]
        have f4 : w5.frozen? ⟨wb, 4, none⟩ = false := by simp [World.frozen?, kw5]
        have HIN3 := hid hin3
        have ka := (hin3.kept w.heap.size AO (by rw [HK2.out]; unfold withK; rw [if_neg (by omega), if_pos rfl])).1
        have ko := (hin3.kept wr.heap.size OPO (by rw [HK2.out]; unfold withK; rw [if_pos rfl])).1
        rw [HAO.out] at ka
        rw [HOPO.out] at ko
        obtain ⟨s0, s1, s2, s3, s4, s5, sf⟩ := hin3.cell
        dsimp only at s2
        have hsz3 : wr.heap.size + 2 ≤ w5.heap.size := by have := hgrow5.size; simp [HS1.out] at this; omega
        have HINL := hid (isInl_any wb p qa qcap bud ((fn : Int) :: ar) ⟨oc, ol, oA, ob, od, oargs⟩ oa na ocap _ s0 s1 (hin3.prog.below hin3.old) (by have := HPN.out; omega) HOP.out)
        have a0 : (w5.setCell ⟨wb, 4, none⟩ (.slice (some ⟨g, 0, none⟩) (npl + 1) c)).cell? ⟨w.heap.size, 0, none⟩ = some (.bool (arB ((fn : Int) :: ar) 0)) := by simp [World.cell?, ka, arCells]
        have a1 : (w5.setCell ⟨wb, 4, none⟩ (.slice (some ⟨g, 0, none⟩) (npl + 1) c)).cell? ⟨w.heap.size, 1, none⟩ = some (.bool (arB ((fn : Int) :: ar) 1)) := by simp [World.cell?, ka, arCells]
        have a2 : (w5.setCell ⟨wb, 4, none⟩ (.slice (some ⟨g, 0, none⟩) (npl + 1) c)).cell? ⟨w.heap.size, 2, none⟩ = some (.bool (arB ((fn : Int) :: ar) 2)) := by simp [World.cell?, ka, arCells]
        have a3 : (w5.setCell ⟨wb, 4, none⟩ (.slice (some ⟨g, 0, none⟩) (npl + 1) c)).cell? ⟨w.heap.size, 3, none⟩ = some (.bool (arB ((fn : Int) :: ar) 3)) := by simp [World.cell?, ka, arCells]
        have a4 : (w5.setCell ⟨wb, 4, none⟩ (.slice (some ⟨g, 0, none⟩) (npl + 1) c)).cell? ⟨w.heap.size, 4, none⟩ = some (.bool (arB ((fn : Int) :: ar) 4)) := by simp [World.cell?, ka, arCells]
        have a5 : (w5.setCell ⟨wb, 4, none⟩ (.slice (some ⟨g, 0, none⟩) (npl + 1) c)).cell? ⟨w.heap.size, 5, none⟩ = some (.bool (arB ((fn : Int) :: ar) 5)) := by simp [World.cell?, ka, arCells]
        have a6 : (w5.setCell ⟨wb, 4, none⟩ (.slice (some ⟨g, 0, none⟩) (npl + 1) c)).cell? ⟨w.heap.size, 6, none⟩ = some (.bool (arB ((fn : Int) :: ar) 6)) := by simp [World.cell?, ka, arCells]
        have a7 : (w5.setCell ⟨wb, 4, none⟩ (.slice (some ⟨g, 0, none⟩) (npl + 1) c)).cell? ⟨w.heap.size, 7, none⟩ = some (.bool (arB ((fn : Int) :: ar) 7)) := by simp [World.cell?, ka, arCells]
        have a8 : (w5.setCell ⟨wb, 4, none⟩ (.slice (some ⟨g, 0, none⟩) (npl + 1) c)).cell? ⟨w.heap.size, 8, none⟩ = some (.bool (arB ((fn : Int) :: ar) 8)) := by simp [World.cell?, ka, arCells]
        have a9 : (w5.setCell ⟨wb, 4, none⟩ (.slice (some ⟨g, 0, none⟩) (npl + 1) c)).cell? ⟨w.heap.size, 9, none⟩ = some (.bool (arB ((fn : Int) :: ar) 9)) := by simp [World.cell?, ka, arCells]
        have a10 : (w5.setCell ⟨wb, 4, none⟩ (.slice (some ⟨g, 0, none⟩) (npl + 1) c)).cell? ⟨w.heap.size, 10, none⟩ = some (.bool (arB ((fn : Int) :: ar) 10)) := by simp [World.cell?, ka, arCells]
        have a11 : (w5.setCell ⟨wb, 4, none⟩ (.slice (some ⟨g, 0, none⟩) (npl + 1) c)).cell? ⟨w.heap.size, 11, none⟩ = some (.bool (arB ((fn : Int) :: ar) 11)) := by simp [World.cell?, ka, arCells]
        have o0 : (w5.setCell ⟨wb, 4, none⟩ (.slice (some ⟨g, 0, none⟩) (npl + 1) c)).cell? ⟨wr.heap.size, 0, none⟩ = some (.int .i64 oc) := by simp [World.cell?, ko]
        have o1 : (w5.setCell ⟨wb, 4, none⟩ (.slice (some ⟨g, 0, none⟩) (npl + 1) c)).cell? ⟨wr.heap.size, 1, none⟩ = some (.int .i64 ol) := by simp [World.cell?, ko]
        have o2 : (w5.setCell ⟨wb, 4, none⟩ (.slice (some ⟨g, 0, none⟩) (npl + 1) c)).cell? ⟨wr.heap.size, 2, none⟩ = some (.int .i64 oA) := by simp [World.cell?, ko]
        have o3 : (w5.setCell ⟨wb, 4, none⟩ (.slice (some ⟨g, 0, none⟩) (npl + 1) c)).cell? ⟨wr.heap.size, 3, none⟩ = some (.int .i64 ob) := by simp [World.cell?, ko]
        have o4 : (w5.setCell ⟨wb, 4, none⟩ (.slice (some ⟨g, 0, none⟩) (npl + 1) c)).cell? ⟨wr.heap.size, 4, none⟩ = some (.int .i64 od) := by simp [World.cell?, ko]
        have o5 : (w5.setCell ⟨wb, 4, none⟩ (.slice (some ⟨g, 0, none⟩) (npl + 1) c)).cell? ⟨wr.heap.size, 5, none⟩ = some (.slice oa na ocap) := by simp [World.cell?, ko]
        clear hown5 hgrow5 hat5 hin3 kw5 ka ko s0 s1 s2 s3 s4 s5 sf q0 q1 q2 q3 q4 q5 r0 r1 r2 r3 r4 r5 rf hi hz0 hz1 hz2 HO2 HB2
        have HB3 : Hid (BndL f ⟨t.room - 1, t.places ++ [⟨fn, j, tl⟩], t.tree⟩) := ⟨by dsimp only; omega, by simp only [List.length_append, List.length_cons, List.length_nil]; omega, by simp only [List.length_append, List.length_cons, List.length_nil]; omega⟩
        have HK1 : Hid (withK K w.heap.size AO wr.heap.size = none) := by
          cases h : withK K w.heap.size AO wr.heap.size with
          | none => rfl
          | some o =>
            have := (Array.getElem?_eq_some_iff.1 (HIN.out.kept _ _ h).1).1
            omega
        clear HIN HIN2
        go_wp2_with fail
        refine HINL.out.mono ?_
        clear HINL a0 a1 a2 a3 a4 a5 a6 a7 a8 a9 a10 a11 o0 o1 o2 o3 o4 o5 z4 f4
        rintro e w6 ⟨rfl, hb6⟩
        have HIN6 := hid (HIN3.out.below hb6)
        clear HIN3
        by_cases hil : inlB p bud ((fn : Int) :: ar) ⟨oc, ol, oA, ob, od, oargs⟩ = true
        · rw [hil]
          have HNX : Hid (fin = layB (layI p bud f) p bud fn ((fn : Int) :: ar) tl (body.drop (j + 1)) (j + 1) (layI p bud f ob ((fn : Int) :: ar) ⟨t.room - 1, t.places ++ [⟨fn, j, tl⟩], t.tree ++ [(ob, (t.places.length : Int))]⟩)) := by
            have h := HFN.out
            unfold layB at h
            rw [if_neg (by omega), if_pos hil] at h
            exact h
          obtain ⟨c1, c2, c3⟩ := inlB_true hil
          dsimp only at c1 c2 c3
          obtain ⟨hob1, hob2⟩ := HOP.out c1
          obtain ⟨bN, rfl⟩ : ∃ n : Nat, ob = n := ⟨ob.toNat, by omega⟩
          clear hil HFN HOP HDR
          obtain ⟨s0, s1, s2, s3, s4, s5, sf⟩ := HIN6.out.cell
          obtain ⟨ua, ucap, rfl, huc, hum⟩ : ∃ ua ucap, tr = .slice ua t.tree.length ucap ∧ t.tree.length ≤ ucap ∧ ucap ≤ maxLen := by
            have htr6 : w6.ownsRow (wb + 1) 112 2 tr t.tree.length (t.tree.map ndCells).flatten := HIN6.out.trs
            rcases htr6.2 with ⟨h1, h2⟩ | ⟨g, c, cur, h1, _, _, h3, h4, _⟩
            · exact ⟨none, 0, by rw [h1, h2], by omega, by unfold maxLen; omega⟩
            · exact ⟨_, c, h1, h3, h4⟩
          unfold maxLen at hum
          obtain ⟨nt, hnt⟩ : ∃ v, v = t.tree.length := ⟨_, rfl⟩
          rw [← hnt] at s5 huc b3
          have HNT := hid hnt
          clear hnt
          have ko := (HIN6.out.kept wr.heap.size OPO (by rw [HK2.out]; unfold withK; rw [if_pos rfl])).1
          rw [HOPO.out] at ko
          have o3 : w6.cell? ⟨wr.heap.size, 3, none⟩ = some (.int .i64 bN) := by simp [World.cell?, ko]
          have lt6 := (Array.getElem?_eq_some_iff.1 ko).1
          have HB7 : Hid (Below w6.heap.size w6 (w6.drew.alloc (Obj.cells #[.int .i64 bN, .int .i64 npl] 112))) := (Below.refl _ _).drew.alloc (Nat.le_refl _) _
          have HIN7 := hid (HIN6.out.below HB7.out)
          have HO7 : Hid (w6.drew.ownsRow (wb + 1) 112 2 (.slice ua nt ucap) nt (t.tree.map ndCells).flatten) := by
            rw [HNT.out]
            exact HIN6.out.trs.drew
          have ltw6 := HIN6.out.lt
          have HBX : Hid (w6.heap[wb]? = some (.cells #[.slice qa p.length qcap, .int .i64 bud, .int .i64 (t.room - 1), .int .i64 first, .slice (some ⟨g, 0, none⟩) (npl + 1) c, .slice ua nt ucap] 266 (0, 0))) := by
            rw [HNT.out]
            exact HIN6.out.box
          have hnew : ∀ v, (Value.slice ua nt ucap).ownBlock = some v → v ≠ wb := fun v hv e => by
            subst e
            rw [HNT.out] at hv
            exact own_ne HIN6.out.trs (Nat.lt_succ_self _) hv
          have HNEW := hid hnew
          have hnt2 : nt ≤ 1012 := by omega
          clear ko s0 s1 s2 s3 sf hnew
          obtain ⟨i0, hi, hz0, hz1, hz2⟩ := info_parts Tryz.infoNodeQ
          go_wp2
          apply cutB
          case k =>
            intro key
            go_region_law (refine step_append_lies _ rfl (.tmp 75) (.tmp 80) 110 rfl (wb + 1) 112 i0 (.agg #[.int .i64 0, .int .i64 0]) 2 16 Tryz.underlying110 hi hz0 hz1 hz2 rfl (by decide) (.slice ua nt ucap) nt _ (by simp [Act.eval]) (HO7.out.alloc _) ⟨w6.heap.size, 0, none⟩ 1 1 [Value.int .i64 bN, .int .i64 npl] (by simp [Act.eval]) rfl (new2_at rfl _ _ _) (one2 _ _) (by decide) (by unfold maxLen; omega) (by omega) (by simp; omega) _ rfl ?_; intro g' cap' w7 hown7 hgrow7 hat7 hlt7; have k7 : w7.heap[wb]? = _ := (hgrow7.block wb (by simp; omega) (fun e => HNEW.out wb e.symm rfl)).trans ((heap_alloc_old _ _ ltw6).trans HBX.out); have z5 : w7.cell? ⟨wb, 5, none⟩ = some (.slice ua nt ucap) := (by simp [World.cell?, k7]); have f5 : w7.frozen? ⟨wb, 5, none⟩ = false := (by simp [World.frozen?, k7]); clear k7)
            all_goals
              have hfin : WrIn K2 w0 p bud first wb qa qcap (.slice (some ⟨g, 0, none⟩) (npl + 1) c) (.slice (some ⟨g', 0, none⟩) (nt + 1) cap') (w7.setCell ⟨wb, 5, none⟩ (.slice (some ⟨g', 0, none⟩) (nt + 1) cap')) ⟨t.room - 1, t.places ++ [⟨fn, j, tl⟩], t.tree ++ [((bN : Int), (npl : Int))]⟩ := by
                rw [HNT.out] at hown7 hgrow7 hat7 ⊢
                exact HIN7.out.addNd ((bN : Int), (npl : Int)) hgrow7 hat7 hown7
              obtain ⟨w8, hw8⟩ : ∃ w8, w8 = w7.setCell ⟨wb, 5, none⟩ (.slice (some ⟨g', 0, none⟩) (nt + 1) cap') := ⟨_, rfl⟩
              rw [← hw8] at hfin ⊢
              clear hw8 hown7 hgrow7 hat7 hlt7 z5 f5
              revert hfin
              revert w8 cap' g'
              exact key.out
          intro g' cap' w8 hin8
          have ka := (hin8.kept w.heap.size AO (by rw [HK2.out]; unfold withK; rw [if_neg (by omega), if_pos rfl])).1
          have ko := (hin8.kept wr.heap.size OPO (by rw [HK2.out]; unfold withK; rw [if_pos rfl])).1
          rw [HAO.out] at ka
          rw [HOPO.out] at ko
          have a0 : w8.cell? ⟨w.heap.size, 0, none⟩ = some (.bool (arB ((fn : Int) :: ar) 0)) := by simp [World.cell?, ka, arCells]
          have a1 : w8.cell? ⟨w.heap.size, 1, none⟩ = some (.bool (arB ((fn : Int) :: ar) 1)) := by simp [World.cell?, ka, arCells]
          have a2 : w8.cell? ⟨w.heap.size, 2, none⟩ = some (.bool (arB ((fn : Int) :: ar) 2)) := by simp [World.cell?, ka, arCells]
          have a3 : w8.cell? ⟨w.heap.size, 3, none⟩ = some (.bool (arB ((fn : Int) :: ar) 3)) := by simp [World.cell?, ka, arCells]
          have a4 : w8.cell? ⟨w.heap.size, 4, none⟩ = some (.bool (arB ((fn : Int) :: ar) 4)) := by simp [World.cell?, ka, arCells]
          have a5 : w8.cell? ⟨w.heap.size, 5, none⟩ = some (.bool (arB ((fn : Int) :: ar) 5)) := by simp [World.cell?, ka, arCells]
          have a6 : w8.cell? ⟨w.heap.size, 6, none⟩ = some (.bool (arB ((fn : Int) :: ar) 6)) := by simp [World.cell?, ka, arCells]
          have a7 : w8.cell? ⟨w.heap.size, 7, none⟩ = some (.bool (arB ((fn : Int) :: ar) 7)) := by simp [World.cell?, ka, arCells]
          have a8 : w8.cell? ⟨w.heap.size, 8, none⟩ = some (.bool (arB ((fn : Int) :: ar) 8)) := by simp [World.cell?, ka, arCells]
          have a9 : w8.cell? ⟨w.heap.size, 9, none⟩ = some (.bool (arB ((fn : Int) :: ar) 9)) := by simp [World.cell?, ka, arCells]
          have a10 : w8.cell? ⟨w.heap.size, 10, none⟩ = some (.bool (arB ((fn : Int) :: ar) 10)) := by simp [World.cell?, ka, arCells]
          have a11 : w8.cell? ⟨w.heap.size, 11, none⟩ = some (.bool (arB ((fn : Int) :: ar) 11)) := by simp [World.cell?, ka, arCells]
          have o8 : w8.cell? ⟨wr.heap.size, 3, none⟩ = some (.int .i64 bN) := by simp [World.cell?, ko]
          have HCI := hid (HIH.out bN K2 w8 ⟨t.room - 1, t.places ++ [⟨fn, j, tl⟩], t.tree ++ [((bN : Int), (npl : Int))]⟩ (by omega) c2 ⟨by dsimp only; omega, by simp only [List.length_append, List.length_cons, List.length_nil]; omega, by simp only [List.length_append, List.length_cons, List.length_nil]; have := HNT.out; omega⟩ ⟨_, _, _, _, hin8⟩)
          have HBB : Hid (BndL f (layI p bud f bN ((fn : Int) :: ar) ⟨t.room - 1, t.places ++ [⟨fn, j, tl⟩], t.tree ++ [((bN : Int), (npl : Int))]⟩)) := layI_bnd p bud f bN _ _ ⟨by dsimp only; omega, by simp only [List.length_append, List.length_cons, List.length_nil]; omega, by simp only [List.length_append, List.length_cons, List.length_nil]; have := HNT.out; omega⟩
          rw [← HNPL.out] at HNX
          clear ka ko hin8 HIN6 HIN7 HB7 HO7 HBX HNEW hi hz0 hz1 hz2 o3 s4 s5
          go_wp2_with fail
          refine HCI.out.mono ?_
          clear HCI a0 a1 a2 a3 a4 a5 a6 a7 a8 a9 a10 a11 o8
          rintro e w9 ⟨rfl, hat9⟩
          have HAT9 : Hid (WrAt (withK K w.heap.size AO) w0 p bud first wb w9 (layI p bud f bN ((fn : Int) :: ar) ⟨t.room - 1, t.places ++ [⟨fn, j, tl⟩], t.tree ++ [((bN : Int), (npl : Int))]⟩)) := by
            obtain ⟨xa, xcap, xp, xt, h⟩ := hat9
            rw [HK2.out] at h
            exact ⟨_, _, _, _, (h.drop HK1.out).1⟩
          clear hat9
          go_wp2
          go_roundw
          case rel => exact ⟨j + 1, _, by go_num, by omega, HBB.out, HAT9.out, HNX.out⟩
          case measure => simp [intOf]; omega
        · have hil' : inlB p bud ((fn : Int) :: ar) ⟨oc, ol, oA, ob, od, oargs⟩ = false := by simpa using hil
          have HNX : Hid (fin = layB (layI p bud f) p bud fn ((fn : Int) :: ar) tl (body.drop (j + 1)) (j + 1) ⟨t.room - 1, t.places ++ [⟨fn, j, tl⟩], t.tree⟩) := by
            have h := HFN.out
            unfold layB at h
            rw [if_neg (by omega), if_neg hil] at h
            exact h
          have HAT : Hid (WrAt (withK K w.heap.size AO) w0 p bud first wb w6 ⟨t.room - 1, t.places ++ [⟨fn, j, tl⟩], t.tree⟩) := by
            have h := HIN6.out
            rw [HK2.out] at h
            exact ⟨_, _, _, _, (h.drop HK1.out).1⟩
          rw [hil']
          clear hil hil' HFN HOP HDR
          go_wp2
          go_roundw
          case rel => exact ⟨j + 1, _, by go_num, by omega, HB3.out, HAT.out, HNX.out⟩
          case measure => simp [intOf]; omega
    · have hje : j = n := by omega
      subst hje
      have hjn' : decide ((j : Int) < (j : Int)) = false := by simp
      have hend : fin = t := by
        have : body.drop j = [] := List.drop_of_length_le (by rw [← HN.out]; exact Nat.le_refl _)
        rw [this] at hfn
        exact hfn
      have HAT : Hid (WrAt K w0 p bud first wb wr fin) := by
        obtain ⟨xa, xcap, xp, xt, h⟩ := hat
        rw [hend]
        exact ⟨_, _, _, _, (h.drop HKN.out).1⟩
      clear hat hfn hend hbt
      go_wp2
      go_end0
      exact ⟨rfl, HAT.out⟩

/-- The body of a function laid as the newest instance, and all that begins there. -/
theorem instance_any (p : List FnD) (hgd : Good p) (bud : Int) (w0 : World) (first : Int) (wb : Nat) : ∀ (f : Nat) (K : Nat → Option Obj) (fn : Nat) (ar : List Int) (w : World) (s : LyD), f ≤ 12 → freeN ar p.length ≤ f → fn < p.length → (fn : Int) ∉ ar → BndL 0 s → WrAt K w0 p bud first wb w s →
    Calls Tryz.prog 212 #[.pointer (some ⟨wb, 0, none⟩), .int .i64 fn, .agg (arCells ar).toArray] w fun e w' => e = .returned (.tuple #[]) ∧ WrAt K w0 p bud first wb w' (layI p bud f fn ar s)
  | 0, K, fn, ar, w, s, _, hfr, hfn, hni, _, _ => by
    have := freeN_cons hni (by omega) p.length (by omega)
    omega
  | f + 1, K, fn, ar, w, s, hf, hfr, hfn, hni, hbd, hat => by
    have hfc := freeN_cons hni (by omega) p.length (by omega)
    exact instance_step p hgd bud f (by omega) K w0 first wb fn ar w s hat hfn hbd (fun b K' W t hb hnb hbt hW => instance_any p hgd bud w0 first wb f K' b ((fn : Int) :: ar) W t (by omega) (by omega) hb hnb hbt hW)
end Go.Proofs.YtffnfjkjlmlonaaGreatDoor
