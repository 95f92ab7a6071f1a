/- The contract of the statement's Flat: true at whatever it is given. -/
import Derived.Test.YtebjndcokkefhaaDoorZ39
import Derived.Test.YtebjndcokkefhaaDoorQ6f
import Derived.Test.YtebjndcokkefhaaDoorQ10
import Derived.Test.YtebjndcokkefhaaDoorZ42
import Derived.Test.YtebjndcokkefhaaDoorT7
import Derived.Test.YtebjndcokkefhaaDoorZ47
import Derived.Test.YtebjndcokkefhaaDoorZ47
import Derived.Test.YtebjndcokkefhaaDoorZ47
import Derived.Test.YtebjndcokkefhaaDoorZ17
import Derived.Test.YtebjndcokkefhaaDoorZ48
namespace Go.Proofs.YtebjndcokkefhaaDoor
open Go.RowKit

set_option maxHeartbeats 8000000 in
set_option maxRecDepth 100000 in
theorem Flat_any (pa : Option Addr) (pcap : Nat) (p : List FnD) (ra : Option Addr) (rl rcap : Nat) (raw : List Int) (n : Int) (w : World) (hp : RdP w pa p.length pcap p) (hraw : RawP p) (hr : Rd .i64 w ra rl rcap raw) (hrr : ∀ x ∈ raw, R64 x) (hn : R64 n) (hH : HeadAt w) :
    Calls Tryd.prog 5 #[.agg #[.slice pa p.length pcap], .slice ra rl rcap, .int .i64 n] w fun e w' => e = .returned (.bool true) ∧ Below w.heap.size w w' := by
  obtain ⟨wb, hwb⟩ : ∃ v, v = w.alloc (Obj.cells #[.slice pa p.length pcap] 24) := ⟨_, rfl⟩
  have hbb : Below w.heap.size w wb := by rw [hwb]; exact (Below.refl _ _).alloc (Nat.le_refl _) _
  have hbs : wb.heap.size = w.heap.size + 1 := by rw [hwb]; simp
  have HT := hid (tame_any pa pcap p 3 8 true wb (hp.below hbb) hraw (by omega) (by omega) (by omega) (by omega))
  have HBB := hid hbb
  have HH := hid hH
  have HR := hid hr
  have HRR := hid hrr
  have hrc1 := hr.hcap
  have hrc2 := hr.hmax
  unfold maxLen at hrc2
  generalize p.length = pl at *
  clear hp hbb hH hr hrr
  go_enter Tryd.func5, Tryd.ntmps5
  go_wp2_with fail
  rw [← hwb]
  clear hwb
  refine HT.out.mono ?_
  rintro e w1 ⟨hb1, l, q, qa, qcap, rfl, hok, hl1, hl2, hfit, hrd⟩
  have hs1 := hb1.size
  have hsm : Small q := ⟨fit_chk hfit hok hl1 (by omega) (by omega), by rw [hfit.1]; exact hl2, fit_ops hfit, fit_ahead hfit⟩
  have hbw1 : Below w.heap.size w w1 := HBB.out.trans (hb1.mono HBB.out.size)
  obtain ⟨wq, hwq⟩ : ∃ v, v = w1.alloc (Obj.cells #[.slice qa q.length qcap] 24) := ⟨_, rfl⟩
  have hbq : Below w1.heap.size w1 wq := by rw [hwq]; exact (Below.refl _ _).alloc (Nat.le_refl _) _
  have hsq : wq.heap.size = w1.heap.size + 1 := by rw [hwq]; simp
  have kq : wq.heap[w1.heap.size]? = some (.cells #[.slice qa q.length qcap] 24 (0, 0)) := by rw [hwq]; exact heap_new_at rfl
  have hrq : RdP wq qa q.length qcap q := hrd wq (fun b _ h => hbq.block b h)
  have hbwq : Below w.heap.size w wq := hbw1.trans (hbq.mono hbw1.size)
  have HG := hid (given_any qa qcap q ra rl rcap raw wq hrq (good_of hsm.chk) (HR.out.below hbwq (Nat.le_refl _)) HRR.out)
  have hqc1 := hrq.2.1
  have hqc2 := hrq.2.2.1
  unfold maxLen at hqc2
  have HSM := hid hsm
  have HRQ := hid hrq
  have HBWQ := hid hbwq
  have HKQ := hid kq
  obtain ⟨ql, hql⟩ : ∃ v, v = q.length := ⟨_, rfl⟩
  rw [← hql] at HG HRQ HKQ hwq hqc1 ⊢
  have HQL := hid hql
  clear hb1 hok hl1 hl2 hfit hrd hsm hbw1 hbq hrq hbwq kq hql HT HR HRR
  go_wp2_with fail
  rw [← hwq]
  clear hwq
  refine HG.out.mono ?_
  rintro e w2 ⟨hb2, args, aa, acap, rfl, hownA, hgv⟩
  have hs2 := hb2.size
  obtain ⟨a', c', ea, hra⟩ := rdI_owns hownA
  cases ea
  have hac1 := hra.hcap
  have hac2 := hra.hmax
  unfold maxLen at hac2
  have HRA := hid hra
  have HGV := hid hgv
  obtain ⟨al, hal⟩ : ∃ v, v = args.length := ⟨_, rfl⟩
  rw [← hal] at HRA hac1 ⊢
  have HAL := hid hal
  have kq2 := (hb2.block w1.heap.size (by omega)).trans HKQ.out
  have q2 : w2.cell? ⟨w1.heap.size, 0, none⟩ = some (.slice qa ql qcap) := by simp [World.cell?, kq2]
  have hbw2 : Below w.heap.size w w2 := HBWQ.out.trans (hb2.mono HBWQ.out.size)
  have HB2 := hid (uBuild_any qa qcap q 30 w2 (by rw [← HQL.out]; exact HRQ.out.below hb2) ⟨by omega, by omega⟩ (HH.out.below hbw2 (Nat.le_refl _)))
  rw [← HQL.out] at HB2
  have HBQ2 := hid hb2
  have HBW2 := hid hbw2
  clear hb2 hownA hra hgv hal hbw2 kq2 HG
  go_wp2_with fail
  refine HB2.out.mono ?_
  rintro e w3 ⟨hb3, hcase⟩
  obtain ⟨hlay, cs, hcs⟩ := HSM.out.lay (bud := 30) (by omega) (by omega)
  rcases hcase with ⟨h, -⟩ | ⟨-, cs', bv, hcs', rfl, hown⟩
  · exact absurd hlay h
  rw [hcs] at hcs'
  cases hcs'
  obtain ⟨hlay0, cs0, hcs0⟩ := HSM.out.lay (bud := 0) (by omega) (by omega)
  obtain ⟨hwf, -, -⟩ := img_wf HSM.out.chk hcs
  have hdec := decI_enc hwf
  have hpos := encI_pos (imgD q cs)
  obtain ⟨hby, hbl⟩ := encI_ok hwf
  obtain ⟨x0, hx0⟩ : ∃ x, q[0]? = some x := ⟨_, List.getElem?_eq_getElem (by have := (good_of HSM.out.chk).len; omega)⟩
  obtain ⟨c0, hcc0, hL0, hsum0, -, -, -, -, hwt0, -⟩ := img_at HSM.out.chk hcs 0 x0 hx0
  have hLpos : 0 < (imgD q cs).length := (List.getElem?_eq_some_iff.1 hL0).1
  obtain ⟨bs, hbs'⟩ : ∃ v, v = encI (imgD q cs) := ⟨_, rfl⟩
  rw [← hbs'] at hown hdec hpos hby hbl
  obtain ⟨N, hN⟩ : ∃ v, v = bs.length := ⟨_, rfl⟩
  rw [← hN] at hown hpos hbl
  obtain ⟨ba, bcap, rfl, hrb⟩ := rd_of_owns8 hown hN.symm
  obtain ⟨bb, boff, rfl, hbc⟩ := hrb.open (by omega)
  have hbx : ∀ j, 0 ≤ bs.getD j 0 ∧ bs.getD j 0 ≤ 255 := getD_of_mem bs hby
  have hbbl : bb < w3.heap.size := World.block_lt_of_cell? w3 _ (hbc 0 (by omega))
  have hs3 := hb3.size
  have hbw3 : Below w.heap.size w w3 := HBW2.out.trans (hb3.mono HBW2.out.size)
  have HD1 := hid (uDecode_any (some ⟨bb, boff, none⟩) N bcap bs w3 hrb (fun q hq => by cases hq; exact hbbl) hbx (HH.out.below hbw3 (Nat.le_refl _)))
  rw [hdec] at HD1
  have hcap1 := hrb.hcap
  have hcap2 := hrb.hmax
  unfold maxLen at hcap2
  have HBW3 := hid hbw3
  have HB23 := hid hb3
  have HCS := hid hcs
  have HCS0 := hid hcs0
  have HLAY := hid hlay
  have HLAY0 := hid hlay0
  have HL0 := hid hL0
  have HCC0 := hid hcc0
  have HSUM := hid hsum0
  have HWT := hid hwt0
  have hLp' : decide (((imgD q cs).length : Int) = 0) = false := by rw [decide_eq_false_iff_not]; omega
  generalize imgD q cs = L at *
  generalize entOfD q x0 c0 = E0 at *
  clear hdec hown hrb hbc hbx hby hbs' hN hwf hb3 hbw3 hcs hcs0 hlay hlay0 hL0 hcc0 hsum0 hwt0 hx0 HB2
  go_wp2_with fail
  refine HD1.out.mono ?_
  rintro e w4 ⟨v, rfl, hownI, hb4⟩
  obtain ⟨va, vc, rfl, hri⟩ := hownI.rd
  dsimp only at hri ⊢
  have hs4 := hb4.size
  obtain ⟨w5, hw5⟩ : ∃ v, v = w4.alloc (Obj.cells #[.slice va L.length vc] 31) := ⟨_, rfl⟩
  have hb5 : Below w4.heap.size w4 w5 := by rw [hw5]; exact (Below.refl _ _).alloc (Nat.le_refl _) _
  have hs5 : w5.heap.size = w4.heap.size + 1 := by rw [hw5]; simp
  have ki5 : w5.heap[w4.heap.size]? = some (.cells #[.slice va L.length vc] 31 (0, 0)) := by rw [hw5]; exact heap_new_at rfl
  have hb35 : Below w3.heap.size w3 w5 := hb4.trans (hb5.mono hs4)
  have hb25 : Below w2.heap.size w2 w5 := HB23.out.trans (hb35.mono hs3)
  have hbq5 : Below wq.heap.size wq w5 := HBQ2.out.trans (hb25.mono hs2)
  have hbw5 : Below w.heap.size w w5 := HBW3.out.trans (hb35.mono HBW3.out.size)
  have hrq5 := HRQ.out.below hbq5
  have hra5 := HRA.out.below hb25 (Nat.le_refl _)
  have hne : newE q 30 args = 0 := by unfold newE; rw [HSM.out.chk, HGV.out]; simpa using HLAY.out
  have hne0 : newE q 0 args = 0 := by unfold newE; rw [HSM.out.chk, HGV.out]; simpa using HLAY0.out
  have HN1 := hid (uNewF_any qa qcap q 30 aa acap args w5 (by rw [← HQL.out]; exact hrq5) ⟨by omega, by omega⟩ (by rw [← HAL.out]; exact hra5))
  have HN2 := hid (fun (W : World) (hW : Below w5.heap.size w5 W) => uNewF_any qa qcap q 0 aa acap args W (by rw [← HQL.out]; exact hrq5.below hW) ⟨by omega, by omega⟩ (by rw [← HAL.out]; exact hra5.below hW (Nat.le_refl _)))
  rw [← HQL.out, ← HAL.out, hne] at HN1
  rw [← HQL.out, ← HAL.out, hne0] at HN2
  have kq5 := (hbq5.block w1.heap.size (by omega)).trans HKQ.out
  have q5 : w4.cell? ⟨w1.heap.size, 0, none⟩ = some (.slice qa ql qcap) := by
    have h := kq5
    rw [hw5, heap_alloc_old _ _ (by omega)] at h
    simp [World.cell?, h]
  have lt14 : w1.heap.size < w4.heap.size := by omega
  have HRI5 := hid (hri.below hb5)
  have HRQ5 := hid hrq5
  have HRA5 := hid hra5
  have HKQ5 := hid kq5
  have HKI5 := hid ki5
  have HBW5 := hid hbw5
  clear hb4 hb5 hb35 hb25 hbq5 hbw5 hrq5 hra5 hne hne0 kq5 ki5 hri hownI HD1 q2
  go_wp2_with fail
  rw [← hw5]
  clear hw5 q5
  refine HN1.out.mono ?_
  rintro e w6 ⟨hb6, hcase⟩
  rcases hcase with ⟨h, -⟩ | ⟨-, -, mb, n0, rfl, hmf⟩
  · exact absurd rfl h
  have hs6 := hb6.size
  have hmb6 : w5.heap.size < w6.heap.size := by
    obtain ⟨_, _, _, _, _, _, _, k2, _, k4, k5, _⟩ := hmf
    have := (Array.getElem?_eq_some_iff.1 k2).1
    omega
  have kq6 := (hb6.block w1.heap.size (by omega)).trans HKQ5.out
  have q6 : w6.cell? ⟨w1.heap.size, 0, none⟩ = some (.slice qa ql qcap) := by simp [World.cell?, kq6]
  have HM1 := hid hmf
  have HB56 := hid hb6
  have HN26 := hid (HN2.out w6 hb6)
  clear hb6 hmf kq6 HN1 HN2
  go_wp2_with fail
  clear q6
  refine HN26.out.mono ?_
  rintro e w7 ⟨hb7, hcase⟩
  rcases hcase with ⟨h, -⟩ | ⟨-, -, mb2, n2, rfl, hmf2⟩
  · exact absurd rfl h
  have hs7 := hb7.size
  have hmb7 : w6.heap.size < w7.heap.size := by
    obtain ⟨_, _, _, _, _, _, _, k2, _, k4, k5, _⟩ := hmf2
    have := (Array.getElem?_eq_some_iff.1 k2).1
    omega
  have ki7 := ((HB56.out.trans (hb7.mono hs6)).block w4.heap.size (by omega)).trans HKI5.out
  have i7 : w7.cell? ⟨w4.heap.size, 0, none⟩ = some (.slice va L.length vc) := by simp [World.cell?, ki7]
  have HPK := hid (pick_any n 2001 w7 hn.1 hn.2 (by omega) (by omega))
  have hpk := pickI_lt n (n := 2001) (by omega)
  generalize pickI n 2001 = kk at *
  obtain ⟨k, rfl⟩ : ∃ v : Nat, kk = (v : Int) := ⟨kk.toNat, by omega⟩
  have hk2 : k ≤ 2000 := by omega
  -- the machines
  have hgd := good_strip (good_of HSM.out.chk)
  have hgt := given_true HGV.out
  have hwb0 : Wf (strip q) (begunD (strip q) args) := wf_begun hgd (by rw [fnAt_strip]; exact hgt.1) hgt.2
  have hwN : Wf (strip q) (runD (strip q) (begunD (strip q) args) k) := wf_run hgd hwb0 k
  have hwq : Wf q (runD q (begunD q args) k) := wf_run (good_of HSM.out.chk) (wf_begun (good_of HSM.out.chk) hgt.1 hgt.2) k
  have hends : Ends (runD q (begunD q args) k) := ends_run (ends_begun q args) k
  obtain ⟨pc1, pc2, pc3⟩ := HSM.out.pcs HCS.out HCS0.out args k hwq
  have hre : runE q args (k : Int) = 0 := by
    unfold runE
    rw [HSM.out.chk, HGV.out]
    simp
    omega
  have hrs : runS q args (k : Int) = runD q (begunD q args) k := by
    unfold runS
    rw [if_pos hre]
    rfl
  have HRUN := hid (fun (W : World) (hW : Below w5.heap.size w5 W) => run_answers qa qcap q aa acap args (k : Int) W (by rw [← HQL.out]; exact HRQ5.out.below hW) (by rw [← HAL.out]; exact HRA5.out.below hW (Nat.le_refl _)) ⟨by omega, by omega⟩)
  rw [← HQL.out, ← HAL.out, hre, hrs] at HRUN
  obtain ⟨X1, w01, hm1, hB1, hbl1, hcl1⟩ := HM1.out.at (W := w6) (Nat.le_refl _) (fun _ _ _ => rfl)
  have hm1e := hm1.extend hb7
  have HST1 := hid (uStep_any q 30 mb _ w01 (begunD (strip q) args) k w7 hgd hwb0 hm1e hk2)
  have HST2 := hid (fun (X2 : RX) (w02 W : World) (hm : MachAt q 0 mb2 X2 w02 W (begunD (strip q) args)) => uStep_any q 0 mb2 X2 w02 (begunD (strip q) args) k W hgd hwb0 hm hk2)
  have HPC1 := hid (fun (X : RX) (v0 W : World) (hm : MachAt q 30 mb X v0 W (runD (strip q) (begunD (strip q) args) k)) => uPcs_any q 30 mb X v0 (runD (strip q) (begunD (strip q) args) k) W cs HCS.out hgd hwN hm)
  have HPC2 := hid (fun (X : RX) (v0 W : World) (hm : MachAt q 0 mb2 X v0 W (runD (strip q) (begunD (strip q) args) k)) => uPcs_any q 0 mb2 X v0 (runD (strip q) (begunD (strip q) args) k) W cs0 HCS0.out hgd hwN hm)
  rw [runD_strip, begunD_strip] at HPC1 HPC2
  obtain ⟨tk, htk⟩ : ∃ v, v = takenD (strip q) (begunD (strip q) args) k := ⟨_, rfl⟩
  rw [← htk] at HST1 HST2
  rw [runD_strip, begunD_strip] at HST1 HST2
  rw [begunD_strip] at hm1
  have HM1A := hid hm1
  have HCL1 := hid hcl1
  have HBL1 := hid hbl1
  have HM2 := hid hmf2
  rw [begunD_strip] at HM2
  have HEND := hid hends
  have HPC := hid (⟨pc1, pc2, pc3⟩ : _ ∧ _ ∧ _)
  have HB67 := hid hb7
  have HFR : Hid ((toldD q (runD q (begunD q args) k)).length = (runD q (begunD q args) k).live.length) := hid (by unfold toldD; simp)
  have hLpi : decide ((L.length : Int) = 0) = false := hLp'
  generalize runD q (begunD q args) k = sN at *
  clear hm1 hm1e hcl1 hbl1 hmf2 hends pc1 pc2 pc3 hwb0 hwN hwq hgd hgt hre hrs htk hb7 ki7 HN26
  go_wp2_with fail
  clear i7
  refine HPK.out.mono ?_
  rintro e w' ⟨rfl, he⟩
  rw [he]
  clear he w'
  go_wp2_with fail
  refine HST1.out.mono ?_
  rintro e w8 ⟨rfl, hm8⟩
  have since8 : ∀ b, w6.heap.size ≤ b → b < w7.heap.size → w8.heap[b]? = w7.heap[b]? := fun b h1 h2 => hm8.run.since b h1 h2
  have hsz8 : w7.heap.size ≤ w8.heap.size := by
    have h := since8 (w7.heap.size - 1) (by omega) (by omega)
    rw [Array.getElem?_eq_getElem (xs := w7.heap) (i := w7.heap.size - 1) (by omega)] at h
    have := (Array.getElem?_eq_some_iff.1 h).1
    omega
  have hb68 := (HCL1.out w8 _ ⟨HM1A.out.run.shrink hm8.run, HM1A.out.codes⟩).1
  obtain ⟨X2, w02, hm2, hB2, hbl2, hcl2⟩ := HM2.out.at (W := w8) hsz8 since8
  have HS2 := hid (HST2.out X2 w02 w8 hm2)
  have hle12 : w01.heap.size ≤ w02.heap.size := by have := HBL1.out.size; omega
  have HMV := hid (fun (W : World) (hm : MachAt q 0 mb2 X2 w02 W sN) => (⟨HM1A.out.move hm8 ((hcl2 W _ hm).1.mono hle12) (hcl2 W _ hm).2, (HB56.out.trans (hb68.mono hB1)).trans ((hcl2 W _ hm).1.mono (by omega))⟩ : _ ∧ _))
  clear hm8 since8 hb68 hm2 hbl2 hcl2 HST1 HST2 HM2 HCL1
  go_wp2_with fail
  refine HS2.out.mono ?_
  rintro e w9 ⟨rfl, hm9⟩
  obtain ⟨hm19, hB59⟩ := HMV.out w9 hm9
  have HM19 := hid hm19
  have HM29 := hid hm9
  have kq9 := (hB59.block w1.heap.size (by omega)).trans HKQ5.out
  have q9 : w9.cell? ⟨w1.heap.size, 0, none⟩ = some (.slice qa ql qcap) := by simp [World.cell?, kq9]
  have HRN := hid (HRUN.out w9 hB59)
  have HB59 := hid hB59
  clear hm19 hm9 hB59 kq9 HMV HS2 HRUN
  go_wp2_with fail
  clear q9
  refine HRN.out.mono ?_
  rintro e w10 ⟨fa, fcap, rfl, hfo, hb10⟩
  obtain ⟨nf, hnf⟩ : ∃ v, v = (toldD q sN).length := ⟨_, rfl⟩
  rw [← hnf] at hfo HFR ⊢
  obtain ⟨hfc1, hfc2⟩ : nf ≤ fcap ∧ fcap ≤ maxLen := by
    rcases hfo.2 with ⟨h1, h2⟩ | ⟨g', c', cur, h1, _, _, h3, h4, _⟩
    · simp only [Value.slice.injEq] at h1
      obtain ⟨-, h1, h3⟩ := h1
      rw [h1, h3]
      exact ⟨Nat.le_refl _, by unfold maxLen; omega⟩
    · simp only [Value.slice.injEq] at h1
      obtain ⟨-, -, rfl⟩ := h1
      exact ⟨h3, h4⟩
  unfold maxLen at hfc2
  have hs10 := hb10.size
  obtain ⟨w11, hw11⟩ : ∃ v, v = w10.alloc (Obj.cells #[.int .i64 sN.status, .int .i64 sN.value, .slice fa nf fcap] 47) := ⟨_, rfl⟩
  have hb11 : Below w10.heap.size w10 w11 := by rw [hw11]; exact (Below.refl _ _).alloc (Nat.le_refl _) _
  have hs11 : w11.heap.size = w10.heap.size + 1 := by rw [hw11]; simp
  have ks11 : w11.heap[w10.heap.size]? = some (.cells #[.int .i64 sN.status, .int .i64 sN.value, .slice fa nf fcap] 47 (0, 0)) := by rw [hw11]; exact heap_new_at rfl
  have hb911 : Below w9.heap.size w9 w11 := hb10.trans (hb11.mono hs10)
  have HP1 := hid (HPC1.out X1 w01 w11 (HM19.out.below hb911))
  have HB911 := hid hb911
  have HKS := hid ks11
  clear hnf hfo hb10 hb11 ks11 hb911 HRN
  go_wp2_with fail
  rw [← hw11]
  clear hw11
  refine HP1.out.mono ?_
  rintro e w12 ⟨la, lcap, rfl, hol, hb12⟩
  have hb912 : Below w9.heap.size w9 w12 := HB911.out.trans (hb12.mono HB911.out.size)
  have HP2 := hid (HPC2.out X2 w02 w12 (HM29.out.below hb912))
  have hs12 := hb12.size
  have HOL := hid hol
  have HB1112 := hid hb12
  have HB912 := hid hb912
  clear hol hb12 hb912 HP1
  go_wp2_with fail
  refine HP2.out.mono ?_
  rintro e w13 ⟨da, dcap, rfl, hod, hb13⟩
  have hs13 := hb13.size
  have ks13 := ((HB1112.out.trans (hb13.mono hs12)).block w10.heap.size (by omega)).trans HKS.out
  have t0 : w13.cell? ⟨w10.heap.size, 0, none⟩ = some (.int .i64 sN.status) := by simp [World.cell?, ks13]
  have t2 : w13.cell? ⟨w10.heap.size, 2, none⟩ = some (.slice fa nf fcap) := by simp [World.cell?, ks13]
  have hB913 : Below w9.heap.size w9 w13 := HB912.out.trans (hb13.mono HB912.out.size)
  have hB513 : Below w5.heap.size w5 w13 := HB59.out.trans (hB913.mono HB59.out.size)
  have HBW13 := hid (HBW5.out.trans (hB513.mono HBW5.out.size))
  have HOL13 := hid (ownsRow_below HOL.out hb13)
  obtain ⟨hd1, hd2, hd3⟩ := HPC.out
  have HD1 := hid hd1
  obtain ⟨nd, hnd⟩ : ∃ v, v = (pcsD cs0 sN.live).length := ⟨_, rfl⟩
  rw [← hnd] at hd1 hod ⊢
  obtain ⟨nl, hnl⟩ : ∃ v, v = (pcsD cs sN.live).length := ⟨_, rfl⟩
  rw [← hnl] at HOL13 ⊢
  by_cases hst : sN.status = 1
  · have hlive := HEND.out.1 hst
    have hl0 := hd2 hlive
    rw [hlive] at hd1
    have hnd0 : nd = 0 := hd1
    rw [hl0] at hnl
    have hnl0 : nl = 0 := hnl
    rw [hst] at t0 ⊢
    clear hd1 hl0 hlive hst HD1 HPC HEND HOL13 HOL HFR hnl
    subst hnd0
    subst hnl0
    clear hnd hod hd2 hd3 ks13 hB913 hB513
    go_wp2
    go_ret
    exact ⟨rfl, HBW13.out⟩
  · have hlive := HEND.out.2 hst
    obtain ⟨c, i, hc1, hi1, hl1⟩ := hd3 hlive
    have hst' : (sN.status == 1) = false := by simpa using hst
    rw [HCC0.out] at hc1
    cases hc1
    rw [hl1] at HOL13 hnl
    have hnl1 : nl = 1 := hnl
    have hnf0 : 0 < nf := by rw [HFR.out]; exact List.length_pos_iff.2 hlive
    have hndf : nd = nf := by rw [hd1, HFR.out]
    obtain ⟨lg, hlg⟩ : ∃ g, la = some ⟨g, 0, none⟩ := by
      rcases HOL13.out.2 with ⟨h1, h2⟩ | ⟨g, c', cur, h1, _⟩
      · omega
      · simp only [Value.slice.injEq] at h1
        exact ⟨g, h1.1⟩
    subst hlg
    have hlc : nl ≤ lcap ∧ lcap ≤ maxLen := by
      rcases HOL13.out.2 with ⟨h1, h2⟩ | ⟨g', c', cur, h1, _, _, h3, h4, _⟩
      · omega
      · simp only [Value.slice.injEq] at h1
        obtain ⟨-, -, rfl⟩ := h1
        exact ⟨h3, h4⟩
    obtain ⟨hlc1, hlc2⟩ := hlc
    unfold maxLen at hlc2
    have hlgs := (HOL13.out.lt lg rfl).2
    have l0 : w13.cell? ⟨lg, 0, none⟩ = some (.int .i64 (i : Int)) := by
      have h := HOL13.out.cellAt 0 (by omega)
      simpa [ints] using h
    obtain ⟨eb, eoff, la2, lcap2, xa, xcap, ta, tcap, rfl, -, -, m2, -, -, hrl, -, -⟩ := (HRI5.out.below hB513).at HL0.out
    simp only [Nat.zero_mul, Nat.add_zero] at m2
    have heb : eb < w13.heap.size := World.block_lt_of_cell? w13 _ m2
    have hwS : wfS E0.lines (-1) 1000 = true := by have h := HWT.out; unfold wfT at h; rw [Bool.and_eq_true] at h; exact h.1
    have HPCS := hid (kPcs_any la2 E0.lines.length lcap2 E0.lines w13 hrl hwS)
    rw [HSUM.out] at HPCS
    have ki13 := (hB513.block w4.heap.size (by omega)).trans HKI5.out
    have i13 : w13.cell? ⟨w4.heap.size, 0, none⟩ = some (.slice (some ⟨eb, eoff, none⟩) L.length vc) := by simp [World.cell?, ki13]
    have hvc := (HRI5.out).2.1
    have hvc2 := (HRI5.out).2.2.1
    unfold maxLen at hvc2
    have hLp2 : (0 : Int) < (L.length : Int) := by omega
    obtain ⟨np, hnp⟩ : ∃ v, v = c0.places.length := ⟨_, rfl⟩
    rw [← hnp] at HPCS hi1
    generalize L.length = Ln at *
    generalize E0.lines.length = En at *
    subst hnl1
    rw [hndf]
    clear hd1 hd2 hd3 HD1 HPC HEND HOL13 HOL HFR hnl hl1 hlive hnd hod ks13 hB913 hB513 hrl hwS ki13 hnp hndf hLp' hLpi
    go_wp2_with fail
    refine HPCS.out.mono ?_
    rintro e w14 ⟨rfl, hb14⟩
    have u0 := (hb14.cell (p := ⟨lg, 0, none⟩) hlgs).trans l0
    have u2 := (hb14.cell (p := ⟨w10.heap.size, 2, none⟩) (World.block_lt_of_cell? w13 _ t2)).trans t2
    have HF := hid (HBW13.out.trans (hb14.mono HBW13.out.size))
    have hi2 : (i : Int) < (np : Int) := by omega
    have hnf1 : (0 : Int) < (nf : Int) := by omega
    clear l0 t2 t0 m2 i13 hb14
    go_wp2
    go_ret
    exact ⟨by simp, HF.out⟩
end Go.Proofs.YtebjndcokkefhaaDoor
