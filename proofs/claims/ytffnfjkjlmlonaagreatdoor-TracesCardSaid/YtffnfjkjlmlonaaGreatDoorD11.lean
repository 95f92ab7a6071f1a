/- Contract of the developers' (*run.Run).State: what Told tells, in a list of its own. -/
import Derived.Test.YtffnfjkjlmlonaaGreatDoorZ40
namespace Go.Proofs.YtffnfjkjlmlonaaGreatDoor
open Go.RowKit

theorem wf8' {P : List FnD} {x : LiveD} (hg : Good P) (hx : WfLive P x) : x.locals.length ≤ 8 := by
  have h1 := hx.locals
  have h2 := (hx.fnOk hg).locals
  omega

theorem three_new_at {w : World} {n : Nat} (h : w.heap.size = n) (a b c : Value) (t : TypeId) : ∀ j u, [a, b, c][j]? = some u → (w.alloc (.cells #[a, b, c] t)).cell? ((⟨n, 0, none⟩ : Addr).add j) = some u := by subst h; exact three_new w a b c t

set_option maxHeartbeats 4000000 in
set_option maxRecDepth 100000 in
theorem State_any (X : RX) (w0 : World) (P : List FnD) (rb : Nat) (s : StandD) (w : World) (hgd : Good P) (hw : Wf P s) (hR : RunAt X w0 P rb w s) :
    Calls Tryz.prog 143 #[.pointer (some ⟨rb, 0, none⟩)] w fun e w' => ∃ a cap, e = .returned (.agg #[.int .i64 s.status, .int .i64 s.value, .slice a (toldD P s).length cap]) ∧
      w'.ownsRow w.heap.size 107 3 (.slice a (toldD P s).length cap) (toldD P s).length ((toldD P s).map frCells).flatten ∧ Below w.heap.size w w' := by
  obtain ⟨pa, pcap, fv, hk, hp0, hb, hrb, hown0, hvr, hkx⟩ := hR
  replace hkx := hid hkx
  have hp : RdP w pa P.length pcap P := hp0.below hb
  have HLV := hid hw.live
  have HP := hid hp
  have HG := hid hgd
  have hlen := hw.len
  have htd : toldD P s = s.live.reverse.map (tellD P) := rfl
  rw [htd]
  obtain ⟨st, sv, live⟩ := s
  simp only at *
  obtain ⟨nl, hnl⟩ : ∃ v, v = live.length := ⟨_, rfl⟩
  rw [← hnl] at hown0 hlen
  obtain ⟨va, vcap, rfl, hvc, hvm, hvg⟩ : ∃ va vcap, fv = .slice va nl vcap ∧ nl ≤ vcap ∧ vcap ≤ maxLen ∧ (0 < nl → ∃ g, va = some ⟨g, 0, none⟩) := by
    rcases hown0.2 with ⟨h1, h2⟩ | ⟨g, c', cur, h1, _, _, h3, h4, _⟩
    · exact ⟨none, 0, by rw [h1, h2], by omega, by unfold maxLen; omega, fun h => by omega⟩
    · exact ⟨_, c', h1, h3, h4, fun _ => ⟨g, rfl⟩⟩
  have HNL := hid hnl
  have HROW : Hid (∀ k x g, live[k]? = some x → x.locals.length ≤ 8 → va = some ⟨g, 0, none⟩ → ∀ i u, (frmCells x)[i]? = some u → w.cell? ⟨g, k * 10 + i, none⟩ = some u) := fun k x g hx h8 hva i u hu => by
    subst hva
    have hkl : k < live.length := (List.getElem?_eq_some_iff.1 hx).1
    have hi : i < 10 := by
      have := (List.getElem?_eq_some_iff.1 hu).1
      simp [frmCells, pad8_len h8] at this; omega
    have hall : ∀ c ∈ live.map frmCells, c.length = 10 := fun c hc => by
      obtain ⟨y, hy, rfl⟩ := List.mem_map.1 hc
      simp [frmCells, pad8_len (wf8' HG.out (HLV.out y hy))]
    rw [hown0.cellAt (k * 10 + i) (by omega), flatten_get 10 _ k i hall (by simpa using hkl) hi]
    simp only [List.getD, List.getElem?_map, hx, Option.map_some, Option.getD_some]
    exact hu
  have hpc1 := hp.2.1
  have hpc2 := hp.2.2.1
  unfold maxLen at hpc2 hvm
  obtain ⟨pl, hpl⟩ : ∃ v, v = P.length := ⟨_, rfl⟩
  rw [← hpl] at HP hpc1 hk
  have HPL := hid hpl
  obtain ⟨fr, hfr⟩ : ∃ v, v = live.reverse.map (tellD P) := ⟨_, rfl⟩
  rw [← hfr]
  have hfl : fr.length = nl := by rw [hfr, HNL.out]; simp
  have HGET : Hid (∀ j x, j < nl → live[nl - 1 - j]? = some x → fr[j]? = some (tellD P x)) := fun j x hj hx => by
    rw [hfr, List.getElem?_map, List.getElem?_reverse (by rw [← HNL.out]; exact hj), ← HNL.out, hx]; rfl
  have HFL := hid hfl
  rw [hfl]
  have r2 : w.cell? ⟨rb, 2, none⟩ = some (.int .i64 st) := by simp [World.cell?, hk]
  have r3 : w.cell? ⟨rb, 3, none⟩ = some (.int .i64 sv) := by simp [World.cell?, hk]
  have r1 : w.cell? ⟨rb, 1, none⟩ = some (.slice va nl vcap) := by simp [World.cell?, hk]
  have lt0 : rb < w.heap.size := World.block_lt_of_cell? w _ r1
  have lt1 : rb < w.heap.size + 1 := by omega
  have lt2 : rb < w.heap.size + 1 + 1 := by omega
  obtain ⟨wb, hwb⟩ : ∃ wb, wb = ((w.alloc (Obj.cells #[.int .i64 0, .int .i64 0, .slice none 0 0] 72)).alloc (Obj.cells #[.int .i64 st, .int .i64 sv, .slice none 0 0] 72)).drew := ⟨_, rfl⟩
  have hbb : Below w.heap.size w wb := by rw [hwb]; exact (((Below.refl _ _).alloc (Nat.le_refl _) _).alloc (by simp) _).drew
  have hbs : wb.heap.size = w.heap.size + 2 := by rw [hwb]; show (World.alloc (World.alloc _ _) _).heap.size = _; simp
  have k2b : wb.heap[w.heap.size]? = some (.cells #[.int .i64 0, .int .i64 0, .slice none 0 0] 72 (0, 0)) := by rw [hwb]; exact heap_at1 (by simp) (heap_new_at rfl)
  have k3b : wb.heap[w.heap.size + 1]? = some (.cells #[.int .i64 st, .int .i64 sv, .slice none 0 0] 72 (0, 0)) := by rw [hwb]; exact heap_new_at (by simp)
  have r1b : wb.cell? ⟨rb, 1, none⟩ = some (.slice va nl vcap) := (hbb.cell (p := ⟨rb, 1, none⟩) lt0).trans r1
  have hwr : IntKind.i64.wrap ((nl : Int) - 1) = (nl : Int) - 1 := by rw [IntKind.wrap_i64]; omega
  have HK := hid hk
  have HOP := hid (fun (x : LiveD) (hx : WfLive P x) (W : World) (hW : Below w.heap.size w W) => op_any rb P pa pcap x W ((hW.cell (p := ⟨rb, 0, none⟩) lt0).trans (by rw [← HPL.out]; simp [World.cell?, hk])) (by rw [← HPL.out]; exact HP.out.below hW) hx (wf8' HG.out hx))
  clear hnl hpl hfr hfl htd hown0 hp hp0 hw hgd hk hb hvr
  go_enter Tryz.func143, Tryz.ntmps143
  go_wp2
  go_region
  rw [← hwb]
  clear hwb
  go_wp2
  clear r1 r2 r3 r1b
  have HK2 := hid k2b
  have HK3 := hid k3b
  clear k2b k3b
  go_loopw [4] (fun i wr => ∃ (j : Nat) (lv : Value), i = .int .i64 ((nl : Int) - 1 - j) ∧ j ≤ nl ∧ wr.heap[w.heap.size]? = some (.cells #[.int .i64 0, .int .i64 0, .slice none 0 0] 72 (0, 0)) ∧ wr.heap[w.heap.size + 1]? = some (.cells #[.int .i64 st, .int .i64 sv, lv] 72 (0, 0)) ∧ wr.ownsRow wb.heap.size 107 3 lv j ((fr.take j).map frCells).flatten ∧ Below w.heap.size w wr ∧ wb.heap.size ≤ wr.heap.size) (fun i _ => (intOf i + 1).toNat)
  case atStart => exact ⟨0, .slice none 0 0, by simp, by omega, HK2.out, HK3.out, ⟨rfl, .inl ⟨rfl, rfl⟩⟩, hbb, Nat.le_refl _⟩
  case round =>
    clear HK2 HK3 hwr
    obtain ⟨j, lv, rfl, hj, k2, k3, hown, hbel, hsz⟩ := hrel
    have hlv : ∀ k, lv.ownBlock = some k → wb.heap.size ≤ k := fun k hk => (hown.lt k hk).1
    have hlvs : lv.ownBlock ≠ some (w.heap.size + 1) := fun e => by have := hlv _ e; omega
    have hlv0 : lv.ownBlock ≠ some w.heap.size := fun e => by have := hlv _ e; omega
    by_cases hjn : j < nl
    · obtain ⟨k, hk⟩ : ∃ k, k = nl - 1 - j := ⟨_, rfl⟩
      have hki : (nl : Int) - 1 - j = (k : Int) := by omega
      rw [hki]
      have hkn : (k : Int) < (nl : Int) := by omega
      have hk0 : (0 : Int) ≤ (k : Int) := by omega
      obtain ⟨x, hx⟩ : ∃ x, live[k]? = some x := ⟨_, List.getElem?_eq_getElem (by rw [← HNL.out]; omega)⟩
      have hfx := HGET.out j x hjn (by rw [← hk]; exact hx)
      have hwx := HLV.out x (List.mem_of_getElem? hx)
      have hx8 := wf8' HG.out hwx
      obtain ⟨g, rfl⟩ := hvg (by omega)
      have hcell := HROW.out k x g hx hx8 rfl
      obtain ⟨l0, l1, l2, l3, l4, l5, l6, l7, hpad⟩ := frm_array x hx8
      obtain ⟨x1, hx1⟩ : ∃ v, v = x.next := ⟨_, rfl⟩
      obtain ⟨fN, hfN⟩ : ∃ n : Nat, x.fn = n := ⟨x.fn.toNat, by have := hwx.fn; omega⟩
      have hfc : frmCells x = [.int .i64 fN, .int .i64 x1, .int .i64 l0, .int .i64 l1, .int .i64 l2, .int .i64 l3, .int .i64 l4, .int .i64 l5, .int .i64 l6, .int .i64 l7] := by unfold frmCells; rw [hpad, hx1, hfN]; rfl
      rw [hfc] at hcell
      have up : ∀ (q : Addr) (u : Value), w.cell? q = some u → wr.cell? q = some u := fun q u h => (hbel.cell (World.block_lt_of_cell? w _ h)).trans h
      have t0 : wr.cell? ⟨g, k * 10, none⟩ = some (.int .i64 fN) := up _ _ (hcell 0 _ rfl)
      have t1 : wr.cell? ⟨g, k * 10 + 1, none⟩ = some (.int .i64 x1) := up _ _ (hcell 1 _ rfl)
      have t2 : wr.cell? ⟨g, k * 10 + 2, none⟩ = some (.int .i64 l0) := up _ _ (hcell 2 _ rfl)
      have t3 : wr.cell? ⟨g, k * 10 + 3, none⟩ = some (.int .i64 l1) := up _ _ (hcell 3 _ rfl)
      have t4 : wr.cell? ⟨g, k * 10 + 4, none⟩ = some (.int .i64 l2) := up _ _ (hcell 4 _ rfl)
      have t5 : wr.cell? ⟨g, k * 10 + 5, none⟩ = some (.int .i64 l3) := up _ _ (hcell 5 _ rfl)
      have t6 : wr.cell? ⟨g, k * 10 + 6, none⟩ = some (.int .i64 l4) := up _ _ (hcell 6 _ rfl)
      have t7 : wr.cell? ⟨g, k * 10 + 7, none⟩ = some (.int .i64 l5) := up _ _ (hcell 7 _ rfl)
      have t8 : wr.cell? ⟨g, k * 10 + 8, none⟩ = some (.int .i64 l6) := up _ _ (hcell 8 _ rfl)
      have t9 : wr.cell? ⟨g, k * 10 + 9, none⟩ = some (.int .i64 l7) := up _ _ (hcell 9 _ rfl)
      obtain ⟨pb, poff, ba, bcap, rfl, -, d0, d1, d2, d3, d4, -, -, -⟩ := HP.out.at x.fn.toNat _ (fnOf_some hwx)
      replace d0 := up _ _ d0
      replace d1 := up _ _ d1
      replace d2 := up _ _ d2
      replace d3 := up _ _ d3
      replace d4 := up _ _ d4
      have hfp : fN < pl := by have := HPL.out; have := hwx.fn; omega
      rw [hfN] at d0 d1 d2 d3 d4
      simp only [Int.toNat_natCast] at d0 d1 d2 d3 d4
      have htl : frCells (tellD P x) = [.string (fnOf P x).name, .string (fnOf P x).file, .int .i64 (opOf P x).line] := rfl
      have hfl2 : ((fr.take j).map frCells).flatten ++ [.string (fnOf P x).name, .string (fnOf P x).file, .int .i64 (opOf P x).line] = ((fr.take (j + 1)).map frCells).flatten := by
        obtain ⟨hjf, he⟩ := List.getElem?_eq_some_iff.1 hfx
        rw [List.take_succ_eq_append_getElem hjf, he, List.map_append, List.flatten_append]
        simp [htl]
      have HF2 := hid hfl2
      have HOX := hid (HOP.out x hwx)
      rw [hfc] at HOX
      have r0r : wr.cell? ⟨rb, 0, none⟩ = some (.slice (some ⟨pb, poff, none⟩) pl pcap) := up _ _ (by simp [World.cell?, HK.out])
      have r1r : wr.cell? ⟨rb, 1, none⟩ = some (.slice (some ⟨g, 0, none⟩) nl vcap) := up _ _ (by simp [World.cell?, HK.out])
      clear hfl2 htl hcell up hwx hx hfx hfN hk hfc hpad hx1
      generalize (fnOf P x).name = nm at *
      generalize (fnOf P x).file = fl at *
      generalize (fnOf P x).params = fp at *
      generalize (fnOf P x).locals = fo at *
      generalize (fnOf P x).body.length = bl at *
      generalize opOf P x = o at *
      obtain ⟨oc, ol, oA, ob, od, oargs⟩ := o
      dsimp only at *
      obtain ⟨na, hna⟩ : ∃ v, v = oargs.length := ⟨_, rfl⟩
      rw [← hna] at HOX
      clear hna
      have lt3 := World.block_lt_of_cell? wr _ t0
      have lt4 := World.block_lt_of_cell? wr _ d0
      have lt5 := World.block_lt_of_cell? wr _ r0r
      simp only at lt3 lt4 lt5
      have lt4a : pb < wr.heap.size + 1 := by omega
      have lt4b : pb < wr.heap.size + 1 + 1 := by omega
      have lt5a : rb < wr.heap.size + 1 := by omega
      have lt5b : rb < wr.heap.size + 1 + 1 := by omega
      obtain ⟨w2, hw2⟩ : ∃ w2, w2 = ((wr.alloc (Obj.cells #[.int .i64 fN, .int .i64 x1, .int .i64 l0, .int .i64 l1, .int .i64 l2, .int .i64 l3, .int .i64 l4, .int .i64 l5, .int .i64 l6, .int .i64 l7] 248)).alloc (Obj.cells #[.string nm, .string fl, .int .i64 fp, .int .i64 fo, .slice ba bl bcap] 122)).drew := ⟨_, rfl⟩
      have hb2 : Below wr.heap.size wr w2 := by rw [hw2]; exact (((Below.refl _ _).alloc (Nat.le_refl _) _).alloc (by simp) _).drew
      have hs2 : w2.heap.size = wr.heap.size + 2 := by rw [hw2]; show (World.alloc (World.alloc _ _) _).heap.size = _; simp
      have m0 : w2.heap[wr.heap.size]? = some (.cells #[.int .i64 fN, .int .i64 x1, .int .i64 l0, .int .i64 l1, .int .i64 l2, .int .i64 l3, .int .i64 l4, .int .i64 l5, .int .i64 l6, .int .i64 l7] 248 (0, 0)) := by rw [hw2]; exact heap_at1 (by simp) (heap_new_at rfl)
      have m1 : w2.heap[wr.heap.size + 1]? = some (.cells #[.string nm, .string fl, .int .i64 fp, .int .i64 fo, .slice ba bl bcap] 122 (0, 0)) := by rw [hw2]; exact heap_new_at (by simp)
      go_wp2
      go_region
      rw [← hw2]
      clear hw2 t0 t1 t2 t3 t4 t5 t6 t7 t8 t9 d0 d1 d2 d3 d4 r0r r1r
      have q0 : w2.cell? ⟨wr.heap.size, 0, none⟩ = some (.int .i64 fN) := by simp [World.cell?, m0]
      have q1 : w2.cell? ⟨wr.heap.size, 1, none⟩ = some (.int .i64 x1) := by simp [World.cell?, m0]
      have q2 : w2.cell? ⟨wr.heap.size, 2, none⟩ = some (.int .i64 l0) := by simp [World.cell?, m0]
      have q3 : w2.cell? ⟨wr.heap.size, 3, none⟩ = some (.int .i64 l1) := by simp [World.cell?, m0]
      have q4 : w2.cell? ⟨wr.heap.size, 4, none⟩ = some (.int .i64 l2) := by simp [World.cell?, m0]
      have q5 : w2.cell? ⟨wr.heap.size, 5, none⟩ = some (.int .i64 l3) := by simp [World.cell?, m0]
      have q6 : w2.cell? ⟨wr.heap.size, 6, none⟩ = some (.int .i64 l4) := by simp [World.cell?, m0]
      have q7 : w2.cell? ⟨wr.heap.size, 7, none⟩ = some (.int .i64 l5) := by simp [World.cell?, m0]
      have q8 : w2.cell? ⟨wr.heap.size, 8, none⟩ = some (.int .i64 l6) := by simp [World.cell?, m0]
      have q9 : w2.cell? ⟨wr.heap.size, 9, none⟩ = some (.int .i64 l7) := by simp [World.cell?, m0]
      have hbw2 := hbel.trans (hb2.mono hbel.size)
      have hwsz := hbel.size
      have n3 := (hb2.block (w.heap.size + 1) (by omega)).trans k3
      have n2 := (hb2.block w.heap.size (by omega)).trans k2
      have hown2 := ownsRow_below hown hb2
      have HX2 := hid (HOX.out w2 hbw2)
      clear m0 k2 k3 HOX hown
      go_wp2_with fail
      refine HX2.out.mono ?_
      clear HX2 q0 q1 q2 q3 q4 q5 q6 q7 q8 q9
      rintro e w3 ⟨oa, ocap, rfl, hro, hb3⟩
      have hs3 := hb3.size
      have p3 := (hb3.block (w.heap.size + 1) (by omega)).trans n3
      have p2 := (hb3.block w.heap.size (by omega)).trans n2
      have p1 := (hb3.block (wr.heap.size + 1) (by omega)).trans m1
      have hown3 := ownsRow_below hown2 hb3
      have hbw3 := hbw2.trans (hb3.mono hbw2.size)
      clear hro n3 n2 m1 hown2 hb2
      have y0 : w3.cell? ⟨wr.heap.size + 1, 0, none⟩ = some (.string nm) := by simp [World.cell?, p1]
      have y1 : w3.cell? ⟨wr.heap.size + 1, 1, none⟩ = some (.string fl) := by simp [World.cell?, p1]
      have y2 : w3.cell? ⟨w.heap.size + 1, 2, none⟩ = some lv := by simp [World.cell?, p3]
      have lt6 : wr.heap.size + 1 < w3.heap.size := by omega
      have lt7 : w.heap.size + 1 < w3.heap.size := by omega
      have lt7a : w.heap.size + 1 < w3.heap.size + 1 := by omega
      have lt6a : wr.heap.size + 1 < w3.heap.size + 1 := by omega
      obtain ⟨i0, hi, hz0, hz1, hz2⟩ := info_parts Tryz.infoFrame
      have hszb : wb.heap.size ≤ w3.heap.size := by omega
      have HOWX := hid hown3
      have HP2 := hid p2
      have HP3 := hid p3
      clear p1 p2 p3 hown3
      go_wp2_with (at_builtin; refine wpList_append_lies _ rfl (.tmp 46) (.tmp 54) 38 rfl wb.heap.size 107 i0 (.agg #[.string ⟨#[]⟩, .string ⟨#[]⟩, .int .i64 0]) 3 40 Tryz.underlying38 hi hz0 hz1 hz2 rfl (by decide) _ _ _ rfl ((HOWX.out.alloc _).alloc _) ⟨w3.heap.size + 1, 0, none⟩ 1 1 [.string nm, .string fl, .int .i64 ol] rfl rfl (three_new_at (by simp) _ _ _ _) (three_one_sf _ _ _) (by decide) (by unfold maxLen; omega) (by omega) (by simp; omega) _ rfl ?_)
      intro g' cap' w5 hown5 hgrow5 hat5 hlt5'
      have hold : ∀ b, b < w3.heap.size → lv.ownBlock ≠ some b → w5.heap[b]? = w3.heap[b]? := fun b hb hne => (hgrow5.block b (by simp; omega) (fun e => hne e.symm)).trans ((heap_alloc_old _ _ (by simp; omega)).trans (heap_alloc_old _ _ hb))
      have p3 := (hold (w.heap.size + 1) (by omega) hlvs).trans HP3.out
      have p2 := (hold w.heap.size (by omega) hlv0).trans HP2.out
      have hb5 : Below w.heap.size w w5 := ((hbw3.alloc (by omega) _).alloc (by simp; omega) _).grown hgrow5 (by simp; omega) (fun k hk => by have := hlv k hk; omega)
      have hs5 : wb.heap.size ≤ w5.heap.size := by
        have := hgrow5.size
        simp at this
        omega
      rw [← hbs, ← List.map_take, HF2.out] at hown5
      have hg'b : wb.heap.size ≤ g' := (hown5.lt g' rfl).1
      have z2 : w5.cell? ⟨w.heap.size + 1, 2, none⟩ = some lv := by simp [World.cell?, p3]
      have fz2 : w5.frozen? ⟨w.heap.size + 1, 2, none⟩ = false := by simp [World.frozen?, p3]
      have HE1 := hid (heap_setCell_same w5 (w.heap.size + 1) 2 _ _ (.slice (some ⟨g', 0, none⟩) (j + 1) cap') p3)
      have HE2 := hid ((heap_setCell_other w5 ⟨w.heap.size + 1, 2, none⟩ w.heap.size (.slice (some ⟨g', 0, none⟩) (j + 1) cap') (by show w.heap.size ≠ w.heap.size + 1; omega)).trans p2)
      have HE3 : Hid ((w5.setCell ⟨w.heap.size + 1, 2, none⟩ (.slice (some ⟨g', 0, none⟩) (j + 1) cap')).ownsRow wb.heap.size 107 3 (.slice (some ⟨g', 0, none⟩) (j + 1) cap') (j + 1) ((fr.take (j + 1)).map frCells).flatten) := ownsRow_setCell_other hown5 (by simp [Value.ownBlock]; omega) _
      have HE4 := hid (hb5.setCell (p := ⟨w.heap.size + 1, 2, none⟩) (Nat.le_succ _) (.slice (some ⟨g', 0, none⟩) (j + 1) cap'))
      clear hown5 hgrow5 hat5 hlt5' hold p2 p3 HP2 HP3 HOWX y0 y1 y2 hb5 hbw3 hb3 hbw2 hbel
      go_wp2
      go_roundw
      case rel => exact ⟨j + 1, .slice (some ⟨g', 0, none⟩) (j + 1) cap', by first | (rw [← hki]; congr 1; omega) | (congr 1; omega), by omega, HE2.out, HE1.out, HE3.out, HE4.out, by simp; exact hs5⟩
      case measure => simp [intOf] <;> omega
    · have hje : j = nl := by omega
      subst hje
      have hneg : ((j : Int) - 1 - j) = -1 := by omega
      rw [hneg]
      have htk : fr.take j = fr := List.take_of_length_le (by rw [HFL.out]; exact Nat.le_refl _)
      rw [htk] at hown
      obtain ⟨la, lcap, rfl⟩ : ∃ la lcap, lv = .slice la j lcap := by
        rcases hown.2 with ⟨h1, h2⟩ | ⟨g, c', cur, h1, _⟩
        · exact ⟨none, 0, by rw [h1, h2]⟩
        · exact ⟨_, _, h1⟩
      have z0 : wr.cell? ⟨w.heap.size + 1, 0, none⟩ = some (.int .i64 st) := by simp [World.cell?, k3]
      have z1 : wr.cell? ⟨w.heap.size + 1, 1, none⟩ = some (.int .i64 sv) := by simp [World.cell?, k3]
      have z2 : wr.cell? ⟨w.heap.size + 1, 2, none⟩ = some (.slice la j lcap) := by simp [World.cell?, k3]
      have y0 : wr.cell? ⟨w.heap.size, 0, none⟩ = some (.int .i64 0) := by simp [World.cell?, k2]
      have y1 : wr.cell? ⟨w.heap.size, 1, none⟩ = some (.int .i64 0) := by simp [World.cell?, k2]
      have y2 : wr.cell? ⟨w.heap.size, 2, none⟩ = some (.slice none 0 0) := by simp [World.cell?, k2]
      have f0 : wr.frozen? ⟨w.heap.size, 0, none⟩ = false := by simp [World.frozen?, k2]
      have f1 : wr.frozen? ⟨w.heap.size, 1, none⟩ = false := by simp [World.frozen?, k2]
      have f2 : wr.frozen? ⟨w.heap.size, 2, none⟩ = false := by simp [World.frozen?, k2]
      have HBE := hid (below_boxed (bx := w.heap.size) hbel (Nat.le_refl _) (.int .i64 st) (.int .i64 sv) (.slice la j lcap))
      have h3 := ownsRow_setCell_other (ownsRow_setCell_other (ownsRow_setCell_other hown (a := ⟨w.heap.size, 0, none⟩) hlv0 (.int .i64 st)) (a := ⟨w.heap.size, 1, none⟩) hlv0 (.int .i64 sv)) (a := ⟨w.heap.size, 2, none⟩) hlv0 (.slice la j lcap)
      have HOW := hid (owns_lower h3 (base' := w.heap.size) (by omega))
      clear hown htk h3 k2 k3
      go_wp2
      exact bodyPost_ret (v := .agg #[.int .i64 st, .int .i64 sv, .slice la j lcap]) (by simp [results, Tryz.results143, go_sem, y0, y1, y2]) rfl ⟨la, lcap, rfl, HOW.out, HBE.out⟩
end Go.Proofs.YtffnfjkjlmlonaaGreatDoor
