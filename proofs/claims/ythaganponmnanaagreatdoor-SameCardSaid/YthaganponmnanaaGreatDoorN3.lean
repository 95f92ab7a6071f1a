/- The contract of the statement's Same: true at whatever it is given. -/
import Derived.Test.YthaganponmnanaaGreatDoorZ45
import Derived.Test.YthaganponmnanaaGreatDoorZ48
import Derived.Test.YthaganponmnanaaGreatDoorZ48
import Derived.Test.YthaganponmnanaaGreatDoorZ48
import Derived.Test.YthaganponmnanaaGreatDoorZ48
namespace Go.Proofs.YthaganponmnanaaGreatDoor
open Go.RowKit

theorem layE_of2 {q : List FnD} (hc : chk q = (0, 0, 0)) {n : Int} (h0 : 0 ≤ n) (h1 : n ≤ 30) {cs : List CodeD} (h : codesD q n = some cs) : layE q n = 0 := by
  unfold layE
  rw [hc, if_neg (by simp), if_pos ⟨h0, h1⟩, h]
  rfl

set_option maxHeartbeats 8000000 in
set_option maxRecDepth 100000 in
theorem Same_any (pa : Option Addr) (pcap : Nat) (p : List FnD) (bud : Int) (ra : Option Addr) (rl rcap : Nat) (raw : List Int) (n : Int) (w : World) (hp : RdP w pa p.length pcap p) (hraw : RawP p) (hbud : R64 bud) (hr : Rd .i64 w ra rl rcap raw) (hrr : ∀ x ∈ raw, R64 x) (hn : R64 n) (hH : HeadAt w) :
    Calls Tryz.prog 3 #[.agg #[.slice pa p.length pcap], .int .i64 bud, .slice ra rl rcap, .int .i64 n] w fun e w' => e = .returned (.bool true) ∧ Below w.heap.size w w' := by
  obtain ⟨wb, hwb⟩ : ∃ v, v = w.alloc (Obj.cells #[.slice pa p.length pcap] 24) := ⟨_, rfl⟩
  have hbb : Below w.heap.size w wb := by rw [hwb]; exact (Below.refl _ _).alloc (Nat.le_refl _) _
  have hbs : wb.heap.size = w.heap.size + 1 := by rw [hwb]; simp
  have HT := hid (whole_any pa pcap p wb (hp.below hbb) hraw)
  have HBB := hid hbb
  have HH := hid hH
  have HR := hid hr
  have HRR := hid hrr
  have hrc1 := hr.hcap
  have hrc2 := hr.hmax
  unfold maxLen at hrc2
  generalize p.length = pl at *
  clear hp hbb hH hr hrr
  go_enter Tryz.func3, Tryz.ntmps3
  go_wp2_with fail
  rw [← hwb]
  clear hwb
  refine HT.out.mono ?_
  rintro e w1 ⟨hb1, q, qa, qcap, rfl, hchk, hrd⟩
  have hs1 := hb1.size
  have hbw1 : Below w.heap.size w w1 := HBB.out.trans (hb1.mono HBB.out.size)
  obtain ⟨wq, hwq⟩ : ∃ v, v = w1.alloc (Obj.cells #[.slice qa q.length qcap] 24) := ⟨_, rfl⟩
  have hbq : Below w1.heap.size w1 wq := by rw [hwq]; exact (Below.refl _ _).alloc (Nat.le_refl _) _
  have hsq : wq.heap.size = w1.heap.size + 1 := by rw [hwq]; simp
  have kq : wq.heap[w1.heap.size]? = some (.cells #[.slice qa q.length qcap] 24 (0, 0)) := by rw [hwq]; exact heap_new_at rfl
  have hrq : RdP wq qa q.length qcap q := hrd wq (fun b _ h => hbq.block b h)
  have hbwq : Below w.heap.size w wq := hbw1.trans (hbq.mono hbw1.size)
  have HG := hid (given_any qa qcap q ra rl rcap raw wq hrq (good_of hchk) (HR.out.below hbwq (Nat.le_refl _)) HRR.out)
  have hqc1 := hrq.2.1
  have hqc2 := hrq.2.2.1
  unfold maxLen at hqc2
  have HCK := hid hchk
  have HRQ := hid hrq
  have HBWQ := hid hbwq
  have HKQ := hid kq
  obtain ⟨ql, hql⟩ : ∃ v, v = q.length := ⟨_, rfl⟩
  rw [← hql] at HG HRQ HKQ hwq hqc1 ⊢
  have HQL := hid hql
  clear hb1 hrd hchk hbw1 hbq hrq hbwq kq hql HT HR HRR
  go_wp2_with fail
  rw [← hwq]
  clear hwq
  refine HG.out.mono ?_
  rintro e w2 ⟨hb2, args, aa, acap, rfl, hownA, hgv⟩
  have hs2 := hb2.size
  obtain ⟨a', c', ea, hra⟩ := rdI_owns hownA
  cases ea
  have hac1 := hra.hcap
  have hac2 := hra.hmax
  unfold maxLen at hac2
  have HRA := hid hra
  have HGV := hid hgv
  obtain ⟨al, hal⟩ : ∃ v, v = args.length := ⟨_, rfl⟩
  rw [← hal] at HRA hac1 ⊢
  have HAL := hid hal
  have kq2 := (hb2.block w1.heap.size (by omega)).trans HKQ.out
  have q2 : w2.cell? ⟨w1.heap.size, 0, none⟩ = some (.slice qa ql qcap) := by simp [World.cell?, kq2]
  have hbw2 : Below w.heap.size w w2 := HBWQ.out.trans (hb2.mono HBWQ.out.size)
  have HRQ2 := hid (HRQ.out.below hb2)
  have HB2 := hid (built_any qa qcap q bud w2 (by rw [← HQL.out]; exact HRQ2.out) hbud HCK.out (HH.out.below hbw2 (Nat.le_refl _)))
  rw [← HQL.out] at HB2
  have HBW2 := hid hbw2
  have HKQ2 := hid kq2
  have lt12 : w1.heap.size < w2.heap.size := by omega
  clear hb2 hownA hra hgv hal hbw2 kq2 HG
  go_wp2_with fail
  refine HB2.out.mono ?_
  rintro e w3 ⟨hb3, c, cs, bv, hc0, hc30, hcs, rfl, hown⟩
  have hs3 := hb3.size
  have hlay := layE_of2 HCK.out hc0 hc30 hcs
  obtain ⟨hwf, -, -⟩ := img_wf HCK.out hcs
  have hdec := decI_enc hwf
  have hpos := encI_pos (imgD q cs)
  obtain ⟨hby, hbl⟩ := encI_ok hwf
  have HCG := hid (⟨HCK.out, hcs⟩ : CG q c cs)
  obtain ⟨bs, hbs'⟩ : ∃ v, v = encI (imgD q cs) := ⟨_, rfl⟩
  rw [← hbs'] at hown hdec hpos hby hbl
  obtain ⟨N, hN⟩ : ∃ v, v = bs.length := ⟨_, rfl⟩
  rw [← hN] at hown hpos hbl
  obtain ⟨ba, bcap, rfl, hrb⟩ := rd_of_owns8 hown hN.symm
  obtain ⟨bb, boff, rfl, hbc⟩ := hrb.open (by omega)
  have hbx : ∀ j, 0 ≤ bs.getD j 0 ∧ bs.getD j 0 ≤ 255 := getD_of_mem bs hby
  have hbbl : bb < w3.heap.size := World.block_lt_of_cell? w3 _ (hbc 0 (by omega))
  have hcap1 := hrb.hcap
  have hcap2 := hrb.hmax
  unfold maxLen at hcap2
  have hne : newE q c args = 0 := by unfold newE; rw [HCK.out, HGV.out]; simpa using hlay
  have hrq3 := HRQ2.out.below hb3
  have hra3 := HRA.out.below hb3 (Nat.le_refl _)
  have HN1 := hid (uNew_any qa qcap q c aa acap args w3 (by rw [← HQL.out]; exact hrq3) ⟨by omega, by omega⟩ (by rw [← HAL.out]; exact hra3))
  rw [← HQL.out, ← HAL.out, hne] at HN1
  have kq3 := (hb3.block w1.heap.size (by omega)).trans HKQ2.out
  have q3 : w3.cell? ⟨w1.heap.size, 0, none⟩ = some (.slice qa ql qcap) := by simp [World.cell?, kq3]
  have hbw3 : Below w.heap.size w w3 := HBW2.out.trans (hb3.mono HBW2.out.size)
  have HAG := hid (fun (mb : Nat) (X : RX) (w0 W : World) (k : Nat) (hk : k ≤ 2000) (hW : Below w3.heap.size w3 W) (hm : MachAt q c mb X w0 W (runD (strip q) (begunD (strip q) args) k)) =>
    agrees_any qa qcap q c cs HCG.out mb X w0 aa acap args k bb boff N bcap bs W (by rw [← HQL.out]; exact hrq3.below hW) (by rw [← HAL.out]; exact hra3.below hW (Nat.le_refl _)) HGV.out hk (hrb.below hW (Nat.le_refl _)) (Nat.lt_of_lt_of_le hbbl hW.size) hbx hdec (HH.out.below (hbw3.trans (hW.mono hbw3.size)) (Nat.le_refl _)) hm)
  rw [← HQL.out, ← HAL.out] at HAG
  have hgd := good_strip (good_of HCK.out)
  have hgt := given_true HGV.out
  have hwb0 : Wf (strip q) (begunD (strip q) args) := wf_begun hgd (by rw [fnAt_strip]; exact hgt.1) hgt.2
  have HST : Hid (∀ (mb : Nat) (X : RX) (w0 W : World) (k : Nat), MachAt q c mb X w0 W (runD (strip q) (begunD (strip q) args) k) →
      Calls Tryz.prog 10 #[.pointer (some ⟨mb, 0, none⟩), .int .i64 1] W fun e w' => e = .returned (.tuple #[.int .i64 (if (runD q (begunD q args) k).status = 0 then 1 else 0), .int .i64 0]) ∧ MachAt q c mb X w0 w' (runD (strip q) (begunD (strip q) args) (k + 1))) := hid fun mb X w0 W k hm => by
    have h := uStep_any q c mb X w0 (runD (strip q) (begunD (strip q) args) k) 1 W hgd (wf_run hgd hwb0 k) hm (by omega)
    have e1 : (takenD (strip q) (runD (strip q) (begunD (strip q) args) k) 1 : Nat) = (if (runD q (begunD q args) k).status = 0 then 1 else 0) := by
      show (if (runD (strip q) (begunD (strip q) args) k).status = 0 then 0 + 1 else 0) = _
      rw [runD_strip, begunD_strip]
    rw [e1] at h
    refine h.mono ?_
    rintro e w' ⟨rfl, hm'⟩
    exact ⟨by split <;> rfl, hm'⟩
  have HKQ3 := hid kq3
  have HBW3 := hid hbw3
  clear hb3 hlay hcs hgt hgd hwb0 hwf hdec hpos hby hbl hown hrb hbc hbx hne hrq3 hra3 kq3 hbw3 hbs' hN HB2 q2
  go_wp2_with fail
  refine HN1.out.mono ?_
  rintro e w4 ⟨hb4, hcase⟩
  rcases hcase with ⟨h, -⟩ | ⟨-, -, mb, X, w0, rfl, hb30, hm4⟩
  · exact absurd rfl h
  have hs4 := hb4.size
  have HPK := hid (pick_any n 2001 w4 hn.1 hn.2 (by omega) (by omega))
  have hpk := pickI_lt n (n := 2001) (by omega)
  generalize pickI n 2001 = kk at *
  obtain ⟨last, rfl⟩ : ∃ v : Nat, kk = (v : Int) := ⟨kk.toNat, by omega⟩
  have hlast : last ≤ 2000 := by omega
  have HM4 := hid hm4
  have HW := hid (fun (W : World) (s : StandD) (hm : MachAt q c mb X w0 W s) => hb30.trans (hm.run.old.mono hb30.size))
  have HAG2 := hid (fun (W : World) (k : Nat) (hk : k ≤ 2000) (hm : MachAt q c mb X w0 W (runD (strip q) (begunD (strip q) args) k)) => HAG.out mb X w0 W k hk (HW.out W _ hm) hm)
  have HST2 := hid (fun (W : World) (k : Nat) (hm : MachAt q c mb X w0 W (runD (strip q) (begunD (strip q) args) k)) => HST.out mb X w0 W k hm)
  have HCQ : Hid (∀ W s, MachAt q c mb X w0 W s → W.cell? ⟨w1.heap.size, 0, none⟩ = some (.slice qa ql qcap) ∧ w1.heap.size < W.heap.size) := hid fun W s hm => by
    have h := HW.out W s hm
    have k := (h.block w1.heap.size (by omega)).trans HKQ3.out
    exact ⟨by simp [World.cell?, k], by have := h.size; omega⟩
  have HFIN := hid (fun (W : World) (s : StandD) (hm : MachAt q c mb X w0 W s) => HBW3.out.trans ((HW.out W s hm).mono HBW3.out.size))
  clear hb4 hb30 hm4 HN1 HAG HST q3
  go_wp2_with fail
  refine HPK.out.mono ?_
  rintro e w' ⟨rfl, he⟩
  rw [he]
  clear he w' HPK
  go_wp2
  go_loopw [17] (fun iv wr => ∃ i : Nat, iv = .int .i64 i ∧ i ≤ last ∧ MachAt q c mb X w0 wr (runD (strip q) (begunD (strip q) args) i)) (fun iv _ => last - (intOf iv).toNat)
  case atStart => exact ⟨0, rfl, by omega, HM4.out⟩
  case round =>
    obtain ⟨i, rfl, hi, hm⟩ := hrel
    have hil : (i : Int) ≤ (last : Int) := by omega
    obtain ⟨q5, lt5⟩ := HCQ.out wr _ hm
    have HA := hid (HAG2.out wr i (by omega) hm)
    have HM := hid hm
    clear hm
    go_wp2_with fail
    clear q5
    refine HA.out.mono ?_
    rintro e w5 ⟨rfl, hb5⟩
    have hm5 := HM.out.below hb5
    clear hb5 HA
    by_cases hie : i = last
    · subst hie
      have HF := hid (HFIN.out w5 _ hm5)
      clear hm5
      generalize (runD q (begunD q args) i).status = st at *
      go_wp2
      go_ret
      exact ⟨rfl, HF.out⟩
    · have hie' : ((i : Int) == (last : Int)) = false := by simp; omega
      have HS := hid (HST2.out w5 i hm5)
      clear hm5
      generalize (runD q (begunD q args) i).status = st at *
      go_wp2_with fail
      refine HS.out.mono ?_
      rintro e w6 ⟨rfl, hm6⟩
      have HM6 := hid hm6
      clear hm6 HS
      by_cases hst : st = 0
      · subst hst
        rw [if_pos rfl]
        go_wp2
        go_roundw
        case rel => exact ⟨i + 1, by go_num, by omega, HM6.out⟩
        case measure => simp [intOf]; omega
      · have hst' : (st == 0) = false := by simpa using hst
        rw [if_neg hst]
        go_wp2
        go_roundw
        case rel => exact ⟨i + 1, by go_num, by omega, HM6.out⟩
        case measure => simp [intOf]; omega
end Go.Proofs.YthaganponmnanaaGreatDoor
