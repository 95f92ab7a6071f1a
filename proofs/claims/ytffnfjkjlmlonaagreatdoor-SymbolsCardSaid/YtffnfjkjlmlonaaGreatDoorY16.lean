/- The contract of the reference's Symbolize, whatever bytes and pcs it is given: symL, symE; nothing that was there is written. -/
import Derived.Test.YtffnfjkjlmlonaaGreatDoorY13
import Derived.Test.YtffnfjkjlmlonaaGreatDoorY14
import Derived.Test.YtffnfjkjlmlonaaGreatDoorY15
namespace Go.Proofs.YtffnfjkjlmlonaaGreatDoor
open Go.RowKit
theorem symB_false {n : Int} {l : List Int} {j : Nat} {pc : Int} (h : ∀ i v, i < j → l[i]? = some v → shiftD i ≤ v ∧ v < n + shiftD i) (hj : l[j]? = some pc) (hb : ¬ (shiftD j ≤ pc ∧ pc < n + shiftD j)) : symB n l = false := by
  unfold symB
  rw [pcsB_drop n l 0 j (fun i v h1 h2 => by rw [Nat.zero_add]; exact h i v h1 h2), Nat.zero_add]
  obtain ⟨hlt, he⟩ := List.getElem?_eq_some_iff.1 hj
  rw [List.drop_eq_getElem_cons hlt, he]
  unfold pcsB
  rw [show decide ((if j = 0 then 0 else 1) ≤ pc ∧ pc < n + (if j = 0 then 0 else 1)) = false from decide_eq_false hb]
  simp
theorem symB_true {n : Int} {l : List Int} (h20 : l.length ≤ 20) (h : ∀ i v, l[i]? = some v → shiftD i ≤ v ∧ v < n + shiftD i) : symB n l = true := by
  unfold symB
  rw [pcsB_drop n l 0 l.length (fun i v _ h2 => by rw [Nat.zero_add]; exact h i v h2), List.drop_length]
  simp [pcsB, h20]
set_option maxHeartbeats 6000000 in
set_option maxRecDepth 100000 in
theorem rSym_all (ba : Option Addr) (blen bcap : Nat) (bs : List Int) (pa : Option Addr) (pcap : Nat) (pl : List Int) (w : World) (hb : Rd .u8 w ba blen bcap bs) (hx : ∀ j, 0 ≤ bs.getD j 0 ∧ bs.getD j 0 ≤ 255) (hbig : blen ≤ 4611686018427387904)
    (hp : Rd .i64 w pa pl.length pcap pl) (hpl : ∀ x ∈ pl, R64 x) :
    Calls Tryz.prog 61 #[.slice ba blen bcap, .slice pa pl.length pcap] w fun e w' => ∃ a cap, e = .returned (.tuple #[.slice a (symL bs pl).length cap, .int .i64 (symE bs pl)]) ∧
      w'.ownsRow w.heap.size 107 3 (.slice a (symL bs pl).length cap) (symL bs pl).length ((symL bs pl).map frCells).flatten ∧ Below w.heap.size w w' := by
  have HD := hid (rDecode_is ba blen bcap bs w hb hx hbig)
  obtain ⟨FL, hFL⟩ : ∃ v, v = symL bs pl := ⟨_, rfl⟩
  obtain ⟨FE, hFE⟩ : ∃ v, v = symE bs pl := ⟨_, rfl⟩
  rw [← hFL, ← hFE]
  unfold symL at hFL
  unfold symE at hFE
  have hok := fun h => decI_ok (bs := bs) hx h
  obtain ⟨⟨L, er, pos⟩, hde⟩ : ∃ q, decI bs = q := ⟨_, rfl⟩
  rw [hde] at HD hFL hFE hok
  dsimp only at HD hFL hFE hok
  have HFL := hid hFL
  have HFE := hid hFE
  have HP := hid hp
  have HPL := hid hpl
  have hpc1 := hp.hcap
  have hpc2 := hp.hmax
  unfold maxLen at hpc2
  obtain ⟨pn, hpn⟩ : ∃ v, v = pl.length := ⟨_, rfl⟩
  rw [← hpn] at HP hpc1 ⊢
  have HPN := hid hpn
  obtain ⟨i0, hif, hz0, hz1, hz2⟩ := info_parts Tryz.infoFrame
  clear hb hx hp hpl hFL hFE hde hpn
  go_enter Tryz.func61, Tryz.ntmps61
  go_wp2_with fail
  refine HD.out.mono ?_
  rintro e w1 ⟨v, rfl, hownI, hb1⟩
  obtain ⟨va, vc, rfl, hri⟩ := hownI.rd
  dsimp only at hri ⊢
  have hs1 := hb1.size
  obtain ⟨w2, hw2⟩ : ∃ v, v = w1.alloc (Obj.cells #[.slice va L.length vc] 41) := ⟨_, rfl⟩
  have hb2 : Below w1.heap.size w1 w2 := by rw [hw2]; exact (Below.refl _ _).alloc (Nat.le_refl _) _
  have hs2 : w2.heap.size = w1.heap.size + 1 := by rw [hw2]; simp
  have k2 : w2.heap[w1.heap.size]? = some (.cells #[.slice va L.length vc] 41 (0, 0)) := by rw [hw2]; exact heap_new_at rfl
  have hbw2 : Below w.heap.size w w2 := hb1.trans (hb2.mono hs1)
  have HBW2 := hid hbw2
  by_cases he : er = 0
  · subst he
    obtain ⟨hwf, -, -⟩ := hok rfl
    have hg := wfI_entG hwf
    have h12 : L.length ≤ 12 := by unfold wfI at hwf; rw [Bool.and_eq_true] at hwf; have := of_decide_eq_true hwf.1; omega
    have HG := hid hg
    have HSHP := hid (shape_any va vc L w2 (hri.below hb2) hg h12)
    have hsl := shP_le L 0 hg
    have HSL := hid (shP_len hg)
    have HUN := hid (fun (f : Nat) (own : EntD) (h : L[f]? = some own) => unf_any va vc L f own (hg own (List.mem_of_getElem? h)) h h12)
    have HFU := hid (fun (pc : Nat) (p : Int × Int) (h : (shP L 0)[pc]? = some p) => frsD_unf hg h)
    have hfl := HFL.out
    rw [if_neg (by simp)] at hfl
    have hfe := HFE.out
    rw [if_neg (by simp)] at hfe
    have HFL2 := hid hfl
    have HFE2 := hid hfe
    have HRI := hid (hri.below hb2)
    have HK2 := hid k2
    clear hb1 hb2 hri hownI k2 hbw2 HD hok hwf hg hfl hfe HFL HFE
    obtain ⟨SH, hSH⟩ : ∃ v, v = shP L 0 := ⟨_, rfl⟩
    rw [← hSH] at HSHP hsl HSL HFU
    clear hSH
    obtain ⟨N, hN⟩ : ∃ v, v = SH.length := ⟨_, rfl⟩
    rw [← hN] at HSHP hsl HSL
    have HNN := hid hN
    clear hN
    obtain ⟨ln, hln⟩ : ∃ v, v = L.length := ⟨_, rfl⟩
    rw [← hln] at HSHP HUN HK2 hsl h12 HRI hw2 ⊢
    have HLN := hid hln
    clear hln
    go_wp2_with fail
    rw [← hw2]
    clear hw2
    refine HSHP.out.mono ?_
    rintro e w3 ⟨a1, c1, a2, c2, rfl, hr1, hr2, hb3⟩
    have hs3 := hb3.size
    obtain ⟨w4, hw4⟩ : ∃ v, v = w3.alloc (Obj.cells #[.slice a1 N c1, .slice a2 N c2] 148) := ⟨_, rfl⟩
    have hb4 : Below w3.heap.size w3 w4 := by rw [hw4]; exact (Below.refl _ _).alloc (Nat.le_refl _) _
    have hs4 : w4.heap.size = w3.heap.size + 1 := by rw [hw4]; simp
    have k4 : w4.heap[w3.heap.size]? = some (.cells #[.slice a1 N c1, .slice a2 N c2] 148 (0, 0)) := by rw [hw4]; exact heap_new_at rfl
    have hb24 : Below w2.heap.size w2 w4 := hb3.trans (hb4.mono hs3)
    have kI4 := (hb24.block w1.heap.size (by omega)).trans HK2.out
    have hq1 := hr1.hcap
    have hq2 := hr1.hmax
    have hq3 := hr2.hcap
    have hq4 := hr2.hmax
    unfold maxLen at hq2 hq4
    have HR1 := hid (hr1.below hb4 (Nat.le_refl _))
    have HR2 := hid (hr2.below hb4 (Nat.le_refl _))
    have HRI4 := hid (HRI.out.below hb24)
    have HBW4 := hid (HBW2.out.trans (hb24.mono HBW2.out.size))
    have HIM : Hid (∀ W, Below w4.heap.size w4 W → W.cell? ⟨w1.heap.size, 0, none⟩ = some (.slice va ln vc) ∧ W.cell? ⟨w3.heap.size, 0, none⟩ = some (.slice a1 N c1) ∧ W.cell? ⟨w3.heap.size, 1, none⟩ = some (.slice a2 N c2)) := hid (fun W hW => by
      have d1 := (hW.block w1.heap.size (by omega)).trans kI4
      have d2 := (hW.block w3.heap.size (by omega)).trans k4
      exact ⟨by simp [World.cell?, d1], by simp [World.cell?, d2], by simp [World.cell?, d2]⟩)
    have l1 : w1.heap.size < w4.heap.size := by omega
    have l3 : w3.heap.size < w4.heap.size := by omega
    have hww4 : w.heap.size ≤ w4.heap.size := by omega
    clear hr1 hr2 hb3 hb4 hb24 k4 kI4 HSHP HRI HBW2 hs2 hs3 hs4 hs1
    by_cases h20 : 20 < pn
    · have h20' : decide ((20 : Int) < (pn : Int)) = true := by simp; omega
      have hsb : symB (plcD L).length pl = false := by
        unfold symB
        rw [show decide (pl.length ≤ 20) = false from decide_eq_false (by rw [← HPN.out]; omega)]
        rfl
      have hfl := HFL2.out
      have hfe := HFE2.out
      rw [hsb, if_neg (by simp)] at hfl hfe
      go_wp2
      rw [← hw4]
      exact bodyPost_ret (v := .tuple #[.slice none 0 0, .int .i64 9]) (by simp [results, Tryz.results61, go_sem]) rfl ⟨none, 0, by rw [hfl, hfe]; rfl, by rw [hfl]; exact World.ownsRow_nil _ _ _ _, HBW4.out⟩
    · have h20' : decide ((20 : Int) < (pn : Int)) = false := by simp; omega
      go_wp2
      rw [← hw4]
      clear hw4
      go_loopw [10, 11, 12, 13, 14] (fun ov kv _ _ _ wr => ∃ j : Nat, kv = .int .i64 j ∧ j ≤ pn ∧ (∀ i v, i < j → pl[i]? = some v → shiftD i ≤ v ∧ v < (N : Int) + shiftD i) ∧ (symF L (plcD L) (pl.take j) 0 []).length ≤ 10000 * j ∧ wr.ownsRow w4.heap.size 107 3 ov (symF L (plcD L) (pl.take j) 0 []).length ((symF L (plcD L) (pl.take j) 0 []).map frCells).flatten ∧ Below w4.heap.size w4 wr) (fun _ kv _ _ _ _ => pn - (intOf kv).toNat)
      case atStart => exact ⟨0, rfl, by omega, fun i v h => by omega, by simp [symF], World.ownsRow_nil _ _ _ _, Below.refl _ _⟩
      case round =>
        rename World => wo
        obtain ⟨j, rfl, hj, hok, hfl, hown, hbel⟩ := hrel
        have hsr := hbel.size
        obtain ⟨oa, ocap, rfl, hl1, hl2⟩ := owns_form hown
        unfold maxLen at hl2
        obtain ⟨ci, cf, cx⟩ := HIM.out wo hbel
        by_cases hjn : j < pn
        · have hjn' : (j : Int) < (pn : Int) := by omega
          obtain ⟨v, hv⟩ : ∃ v, pl[j]? = some v := ⟨_, List.getElem?_eq_getElem (by rw [← HPN.out]; exact hjn)⟩
          obtain ⟨hv1, hv2⟩ := HPL.out v (List.mem_of_getElem? hv)
          obtain ⟨b0, off, rfl, hc⟩ := (HP.out.below (HBW4.out.trans (hbel.mono HBW4.out.size)) (Nat.le_refl _)).open (by omega)
          have c0 := hc j hjn
          have hgd : pl.getD j 0 = v := by rw [List.getD, hv]; rfl
          rw [hgd] at c0
          have hb0 : b0 < wo.heap.size := World.block_lt_of_cell? wo _ c0
          have HOK := hid hok
          have HOWN := hid hown
          have HBEL := hid hbel
          have HV := hid hv
          clear hok hown hbel hc hgd hv
          have l1' : w1.heap.size < wo.heap.size := by omega
          have l3' : w3.heap.size < wo.heap.size := by omega
          have ew : (if j = 0 then (0 : Int) else 1) = shiftD j := rfl
          by_cases hj0 : j = 0
          · have hj0' : decide ((0 : Int) < (j : Int)) = false := by simp; omega
            have hsh : shiftD j = 0 := if_pos hj0
            have HJ0 := hid hj0
            clear hj0
            by_cases hlo : v < 0
            · have q1 : decide (v < 0) = true := by simpa using hlo
              have hsb : symB (plcD L).length pl = false := symB_false (j := j) (pc := v) (fun i v' h1 h2 => by have := HOK.out i v' h1 h2; rw [HSL.out] at this; exact this) HV.out (by rw [hsh]; omega)
              have hfl2 := HFL2.out
              have hfe2 := HFE2.out
              rw [hsb, if_neg (by simp)] at hfl2 hfe2
              have HBF := hid (HBW4.out.trans (HBEL.out.mono HBW4.out.size))
              go_wp2
              go_quiet (fail)
              go_wp2
              exact bodyPost_ret (v := .tuple #[.slice none 0 0, .int .i64 9]) (by simp [results, Tryz.results61, go_sem]) rfl ⟨none, 0, by rw [hfl2, hfe2]; rfl, by rw [hfl2]; exact World.ownsRow_nil _ _ _ _, below_drawn HBF.out nq⟩
            · have q1 : decide (v < 0) = false := by simpa using hlo
              by_cases hhi : (N : Int) ≤ v
              · have q2 : decide ((N : Int) ≤ v) = true := by simpa using hhi
                have hsb : symB (plcD L).length pl = false := symB_false (j := j) (pc := v) (fun i v' h1 h2 => by have := HOK.out i v' h1 h2; rw [HSL.out] at this; exact this) HV.out (by rw [hsh, ← HSL.out]; omega)
                have hfl2 := HFL2.out
                have hfe2 := HFE2.out
                rw [hsb, if_neg (by simp)] at hfl2 hfe2
                have HBF := hid (HBW4.out.trans (HBEL.out.mono HBW4.out.size))
                go_wp2
                go_quiet (fail)
                go_wp2
                exact bodyPost_ret (v := .tuple #[.slice none 0 0, .int .i64 9]) (by simp [results, Tryz.results61, go_sem]) rfl ⟨none, 0, by rw [hfl2, hfe2]; rfl, by rw [hfl2]; exact World.ownsRow_nil _ _ _ _, below_drawn HBF.out nq⟩
              · have q2 : decide ((N : Int) ≤ v) = false := by simpa using hhi
                obtain ⟨z, rfl⟩ : ∃ z : Nat, v = (z : Int) := ⟨v.toNat, by omega⟩
                have hzN : z < N := by omega
                obtain ⟨p, hpz⟩ : ∃ p, SH[z]? = some p := ⟨_, List.getElem?_eq_getElem (by rw [← HNN.out]; exact hzN)⟩
                obtain ⟨f, x, own, rfl, hLf, hxl, hfr⟩ := HFU.out z p hpz
                have hgo := HG.out own (List.mem_of_getElem? hLf)
                have hin := inst_at hgo hxl
                have htr := hgo.trees
                obtain ⟨fb, foff, rfl, hcf⟩ := (HR1.out.below HBEL.out (Nat.le_refl _)).open (by omega)
                obtain ⟨xb, xoff, rfl, hcx⟩ := (HR2.out.below HBEL.out (Nat.le_refl _)).open (by omega)
                have f1 := hcf z hzN
                have x1 := hcx z hzN
                have hgf : (SH.map (·.1)).getD z 0 = (f : Int) := by simp [List.getD, hpz]
                have hgx : (SH.map (·.2)).getD z 0 = (x : Int) := by simp [List.getD, hpz]
                rw [hgf] at f1
                rw [hgx] at x1
                have hfb : fb < wo.heap.size := World.block_lt_of_cell? wo _ f1
                have hxb : xb < wo.heap.size := World.block_lt_of_cell? wo _ x1
                have ez : IntKind.i64.wrap (z : Int) = (z : Int) := by rw [IntKind.wrap_i64]; omega
                have ez1 : IntKind.i64.wrap ((z : Int) - 0) = (z : Int) := by rw [IntKind.wrap_i64]; omega
                have HUC := hid (fun (W : World) (hW : Below wo.heap.size wo W) => HUN.out f own hLf ((unroll own.index).getD x 0).toNat x W (by rw [HLN.out] at HRI4 ⊢; exact (HRI4.out.below HBEL.out).below hW) hxl (by omega) (by omega))
                rw [← hfr] at HUC
                have hfz : (frsD L (plcD L) z).length ≤ 10000 := by
                  rw [hfr]
                  have := unfD_len (L := L) (own := own) ((unroll own.index).getD x 0).toNat x
                  omega
                have HTK : Hid (symF L (plcD L) (pl.take (j + 1)) 0 [] = symF L (plcD L) (pl.take j) 0 [] ++ frsD L (plcD L) z) := hid (by
                  have e : ((z : Int) - 0).toNat = z := by omega
                  rw [symF_take HV.out, hsh, e])
                have hfp : 1 ≤ (frsD L (plcD L) z).length := by
                  rw [hfr]
                  cases ((unroll own.index).getD x 0).toNat with
                  | zero => simp [unfD]
                  | succ k =>
                    unfold unfD
                    split
                    · simp
                    · simp
                clear hcf hcx hgf hgx hpz hLf hfr hgo hin htr hxl
                generalize frsD L (plcD L) z = FD at *
                generalize hF0 : symF L (plcD L) (pl.take j) 0 [] = F0 at *
                go_wp2
                go_quiet (fail)
                go_wp2
                obtain ⟨wq, hwq⟩ : ∃ v, v = wo.drewN nq := ⟨_, rfl⟩
                rw [← hwq]
                have bq : Below wo.heap.size wo wq := by rw [hwq]; exact below_drawn (Below.refl _ _) nq
                have sq : wq.heap.size = wo.heap.size := by rw [hwq]; simp
                have KS := hid (fun (W : World) (h : Below wq.heap.size wq W) => (⟨h, ((bq.trans (h.mono bq.size)).cell (p := ⟨w1.heap.size, 0, none⟩) l1').trans ci, ((bq.trans (h.mono bq.size)).cell (p := ⟨w3.heap.size, 0, none⟩) l3').trans cf, ((bq.trans (h.mono bq.size)).cell (p := ⟨w3.heap.size, 1, none⟩) l3').trans cx, ((bq.trans (h.mono bq.size)).cell (p := ⟨fb, foff + z, none⟩) hfb).trans f1, ((bq.trans (h.mono bq.size)).cell (p := ⟨xb, xoff + z, none⟩) hxb).trans x1⟩ : Below wq.heap.size wq W ∧ W.cell? ⟨w1.heap.size, 0, none⟩ = some (.slice va ln vc) ∧ W.cell? ⟨w3.heap.size, 0, none⟩ = some (.slice (some ⟨fb, foff, none⟩) N c1) ∧ W.cell? ⟨w3.heap.size, 1, none⟩ = some (.slice (some ⟨xb, xoff, none⟩) N c2) ∧ W.cell? ⟨fb, foff + z, none⟩ = some (.int .i64 f) ∧ W.cell? ⟨xb, xoff + z, none⟩ = some (.int .i64 x)))
                have HUC2 := hid (fun (W : World) (h : Below wq.heap.size wq W) => HUC.out W (bq.trans (h.mono bq.size)))
                have HBQ := hid bq
                have hsq : w4.heap.size ≤ wq.heap.size := by omega
                clear ci cf cx f1 x1 c0 hwq bq HUC sq
                go_region_held (fun W => Below wq.heap.size wq W ∧ W.cell? ⟨w1.heap.size, 0, none⟩ = some (.slice va ln vc) ∧ W.cell? ⟨w3.heap.size, 0, none⟩ = some (.slice (some ⟨fb, foff, none⟩) N c1) ∧ W.cell? ⟨w3.heap.size, 1, none⟩ = some (.slice (some ⟨xb, xoff, none⟩) N c2) ∧ W.cell? ⟨fb, foff + z, none⟩ = some (.int .i64 f) ∧ W.cell? ⟨xb, xoff + z, none⟩ = some (.int .i64 x))
                  ((refine KS.out _ ?_; first | with_reducible exact (Below.refl _ _).drew | exact b5'))
                  ((go_at_call 110; refine (HUC2.out _ (Below.refl _ _).drew).mono ?_; rintro e w5 ⟨ra, rc, rfl, ho5, b5⟩; have b5' : Below wq.heap.size wq w5 := (Below.refl _ _).drew.trans b5))
                obtain ⟨ra', rc', re, -, hrc, hra⟩ := ownsRow_form ho5
                simp only [Value.slice.injEq, true_and] at re
                obtain ⟨rfl, rfl⟩ := re
                obtain ⟨rg, rfl⟩ := hra (by omega)
                unfold maxLen at hrc
                have HNW := hid (ho5.cells (g := rg) rfl)
                have b5w := HBQ.out.trans (b5'.mono HBQ.out.size)
                have HO5 := hid (owns_below HOWN.out b5w)
                have HB5 := hid (HBEL.out.trans (b5w.mono hsr))
                have hs5 : w4.heap.size ≤ w5.heap.size := HB5.out.size
                have HRL : Hid ((frRow FD).length = FD.length * 3) := hid (frRow_len FD)
                clear ho5 b5 b5' b5w HUC2 HOWN KS
                go_wp2_with (at_builtin; refine wpList_append_own _ rfl (.tmp 73) (.tmp 74) 38 rfl w4.heap.size 107 i0 (.agg #[.string ⟨#[]⟩, .string ⟨#[]⟩, .int .i64 0]) 3 40 Tryz.underlying38 hif hz0 hz1 hz2 rfl (by decide) _ _ _ rfl HO5.out ⟨rg, 0, none⟩ FD.length rc (frRow FD) rfl HRL.out HNW.out (frRow_one FD) (by unfold maxLen; omega) (by omega) hs5 ?_)
                intro v6 w6 hown6 hgrow6 _
                have HREL : Hid (∃ j' : Nat, Value.int .i64 ((j : Int) + 1) = .int .i64 j' ∧ j' ≤ pn ∧ (∀ i v, i < j' → pl[i]? = some v → shiftD i ≤ v ∧ v < (N : Int) + shiftD i) ∧ (symF L (plcD L) (pl.take j') 0 []).length ≤ 10000 * j' ∧ w6.ownsRow w4.heap.size 107 3 v6 (symF L (plcD L) (pl.take j') 0 []).length ((symF L (plcD L) (pl.take j') 0 []).map frCells).flatten ∧ Below w4.heap.size w4 w6) := hid (by
                  refine ⟨j + 1, by simp, by omega, fun i v' hi hv' => ?_, ?_, ?_, HB5.out.grown hgrow6 hs5 (fun k hk => (HO5.out.lt k hk).1)⟩
                  · by_cases e : i = j
                    · subst e
                      rw [HV.out] at hv'
                      cases hv'
                      rw [hsh]
                      omega
                    · exact HOK.out i v' (by omega) hv'
                  · rw [HTK.out, List.length_append]; omega
                  · rw [HTK.out, List.length_append, List.map_append, List.flatten_append]
                    exact hown6)
                clear hown6 hgrow6 HO5 HB5 HNW
                go_wp2
                go_roundw
                case rel => exact HREL.out
                case measure => simp [intOf]; omega
          · have hj0' : decide ((0 : Int) < (j : Int)) = true := by simp; omega
            have hsh : shiftD j = 1 := if_neg hj0
            by_cases hlo : v < 1
            · have q1 : decide (v < 1) = true := by simpa using hlo
              have hsb : symB (plcD L).length pl = false := symB_false (j := j) (pc := v) (fun i v' h1 h2 => by have := HOK.out i v' h1 h2; rw [HSL.out] at this; exact this) HV.out (by rw [hsh]; omega)
              have hfl2 := HFL2.out
              have hfe2 := HFE2.out
              rw [hsb, if_neg (by simp)] at hfl2 hfe2
              have HBF := hid (HBW4.out.trans (HBEL.out.mono HBW4.out.size))
              go_wp2
              go_quiet (fail)
              go_wp2
              exact bodyPost_ret (v := .tuple #[.slice none 0 0, .int .i64 9]) (by simp [results, Tryz.results61, go_sem]) rfl ⟨none, 0, by rw [hfl2, hfe2]; rfl, by rw [hfl2]; exact World.ownsRow_nil _ _ _ _, below_drawn HBF.out nq⟩
            · have q1 : decide (v < 1) = false := by simpa using hlo
              by_cases hhi : (N : Int) + 1 ≤ v
              · have q2 : decide ((N : Int) + 1 ≤ v) = true := by simpa using hhi
                have hsb : symB (plcD L).length pl = false := symB_false (j := j) (pc := v) (fun i v' h1 h2 => by have := HOK.out i v' h1 h2; rw [HSL.out] at this; exact this) HV.out (by rw [hsh, ← HSL.out]; omega)
                have hfl2 := HFL2.out
                have hfe2 := HFE2.out
                rw [hsb, if_neg (by simp)] at hfl2 hfe2
                have HBF := hid (HBW4.out.trans (HBEL.out.mono HBW4.out.size))
                go_wp2
                go_quiet (fail)
                go_wp2
                exact bodyPost_ret (v := .tuple #[.slice none 0 0, .int .i64 9]) (by simp [results, Tryz.results61, go_sem]) rfl ⟨none, 0, by rw [hfl2, hfe2]; rfl, by rw [hfl2]; exact World.ownsRow_nil _ _ _ _, below_drawn HBF.out nq⟩
              · have q2 : decide ((N : Int) + 1 ≤ v) = false := by simpa using hhi
                obtain ⟨z, hz⟩ : ∃ z : Nat, v = (z : Int) + 1 := ⟨(v - 1).toNat, by omega⟩
                have hzN : z < N := by omega
                obtain ⟨p, hpz⟩ : ∃ p, SH[z]? = some p := ⟨_, List.getElem?_eq_getElem (by rw [← HNN.out]; exact hzN)⟩
                obtain ⟨f, x, own, rfl, hLf, hxl, hfr⟩ := HFU.out z p hpz
                have hgo := HG.out own (List.mem_of_getElem? hLf)
                have hin := inst_at hgo hxl
                have htr := hgo.trees
                obtain ⟨fb, foff, rfl, hcf⟩ := (HR1.out.below HBEL.out (Nat.le_refl _)).open (by omega)
                obtain ⟨xb, xoff, rfl, hcx⟩ := (HR2.out.below HBEL.out (Nat.le_refl _)).open (by omega)
                have f1 := hcf z hzN
                have x1 := hcx z hzN
                have hgf : (SH.map (·.1)).getD z 0 = (f : Int) := by simp [List.getD, hpz]
                have hgx : (SH.map (·.2)).getD z 0 = (x : Int) := by simp [List.getD, hpz]
                rw [hgf] at f1
                rw [hgx] at x1
                have hfb : fb < wo.heap.size := World.block_lt_of_cell? wo _ f1
                have hxb : xb < wo.heap.size := World.block_lt_of_cell? wo _ x1
                have ez : IntKind.i64.wrap (z : Int) = (z : Int) := by rw [IntKind.wrap_i64]; omega
                have ez1 : IntKind.i64.wrap (v - 1) = (z : Int) := by rw [IntKind.wrap_i64]; omega
                have HUC := hid (fun (W : World) (hW : Below wo.heap.size wo W) => HUN.out f own hLf ((unroll own.index).getD x 0).toNat x W (by rw [HLN.out] at HRI4 ⊢; exact (HRI4.out.below HBEL.out).below hW) hxl (by omega) (by omega))
                rw [← hfr] at HUC
                have hfz : (frsD L (plcD L) z).length ≤ 10000 := by
                  rw [hfr]
                  have := unfD_len (L := L) (own := own) ((unroll own.index).getD x 0).toNat x
                  omega
                have HTK : Hid (symF L (plcD L) (pl.take (j + 1)) 0 [] = symF L (plcD L) (pl.take j) 0 [] ++ frsD L (plcD L) z) := hid (by
                  have e : (v - 1).toNat = z := by omega
                  rw [symF_take HV.out, hsh, e])
                have hfp : 1 ≤ (frsD L (plcD L) z).length := by
                  rw [hfr]
                  cases ((unroll own.index).getD x 0).toNat with
                  | zero => simp [unfD]
                  | succ k =>
                    unfold unfD
                    split
                    · simp
                    · simp
                have HZ := hid hz
                clear hz
                clear hcf hcx hgf hgx hpz hLf hfr hgo hin htr hxl
                generalize frsD L (plcD L) z = FD at *
                generalize hF0 : symF L (plcD L) (pl.take j) 0 [] = F0 at *
                go_wp2
                go_quiet (fail)
                go_wp2
                obtain ⟨wq, hwq⟩ : ∃ v, v = wo.drewN nq := ⟨_, rfl⟩
                rw [← hwq]
                have bq : Below wo.heap.size wo wq := by rw [hwq]; exact below_drawn (Below.refl _ _) nq
                have sq : wq.heap.size = wo.heap.size := by rw [hwq]; simp
                have KS := hid (fun (W : World) (h : Below wq.heap.size wq W) => (⟨h, ((bq.trans (h.mono bq.size)).cell (p := ⟨w1.heap.size, 0, none⟩) l1').trans ci, ((bq.trans (h.mono bq.size)).cell (p := ⟨w3.heap.size, 0, none⟩) l3').trans cf, ((bq.trans (h.mono bq.size)).cell (p := ⟨w3.heap.size, 1, none⟩) l3').trans cx, ((bq.trans (h.mono bq.size)).cell (p := ⟨fb, foff + z, none⟩) hfb).trans f1, ((bq.trans (h.mono bq.size)).cell (p := ⟨xb, xoff + z, none⟩) hxb).trans x1⟩ : Below wq.heap.size wq W ∧ W.cell? ⟨w1.heap.size, 0, none⟩ = some (.slice va ln vc) ∧ W.cell? ⟨w3.heap.size, 0, none⟩ = some (.slice (some ⟨fb, foff, none⟩) N c1) ∧ W.cell? ⟨w3.heap.size, 1, none⟩ = some (.slice (some ⟨xb, xoff, none⟩) N c2) ∧ W.cell? ⟨fb, foff + z, none⟩ = some (.int .i64 f) ∧ W.cell? ⟨xb, xoff + z, none⟩ = some (.int .i64 x)))
                have HUC2 := hid (fun (W : World) (h : Below wq.heap.size wq W) => HUC.out W (bq.trans (h.mono bq.size)))
                have HBQ := hid bq
                have hsq : w4.heap.size ≤ wq.heap.size := by omega
                clear ci cf cx f1 x1 c0 hwq bq HUC sq
                go_region_held (fun W => Below wq.heap.size wq W ∧ W.cell? ⟨w1.heap.size, 0, none⟩ = some (.slice va ln vc) ∧ W.cell? ⟨w3.heap.size, 0, none⟩ = some (.slice (some ⟨fb, foff, none⟩) N c1) ∧ W.cell? ⟨w3.heap.size, 1, none⟩ = some (.slice (some ⟨xb, xoff, none⟩) N c2) ∧ W.cell? ⟨fb, foff + z, none⟩ = some (.int .i64 f) ∧ W.cell? ⟨xb, xoff + z, none⟩ = some (.int .i64 x))
                  ((refine KS.out _ ?_; first | with_reducible exact (Below.refl _ _).drew | exact b5'))
                  ((go_at_call 110; refine (HUC2.out _ (Below.refl _ _).drew).mono ?_; rintro e w5 ⟨ra, rc, rfl, ho5, b5⟩; have b5' : Below wq.heap.size wq w5 := (Below.refl _ _).drew.trans b5))
                obtain ⟨ra', rc', re, -, hrc, hra⟩ := ownsRow_form ho5
                simp only [Value.slice.injEq, true_and] at re
                obtain ⟨rfl, rfl⟩ := re
                obtain ⟨rg, rfl⟩ := hra (by omega)
                unfold maxLen at hrc
                have HNW := hid (ho5.cells (g := rg) rfl)
                have b5w := HBQ.out.trans (b5'.mono HBQ.out.size)
                have HO5 := hid (owns_below HOWN.out b5w)
                have HB5 := hid (HBEL.out.trans (b5w.mono hsr))
                have hs5 : w4.heap.size ≤ w5.heap.size := HB5.out.size
                have HRL : Hid ((frRow FD).length = FD.length * 3) := hid (frRow_len FD)
                clear ho5 b5 b5' b5w HUC2 HOWN KS
                go_wp2_with (at_builtin; refine wpList_append_own _ rfl (.tmp 73) (.tmp 74) 38 rfl w4.heap.size 107 i0 (.agg #[.string ⟨#[]⟩, .string ⟨#[]⟩, .int .i64 0]) 3 40 Tryz.underlying38 hif hz0 hz1 hz2 rfl (by decide) _ _ _ rfl HO5.out ⟨rg, 0, none⟩ FD.length rc (frRow FD) rfl HRL.out HNW.out (frRow_one FD) (by unfold maxLen; omega) (by omega) hs5 ?_)
                intro v6 w6 hown6 hgrow6 _
                have HREL : Hid (∃ j' : Nat, Value.int .i64 ((j : Int) + 1) = .int .i64 j' ∧ j' ≤ pn ∧ (∀ i v, i < j' → pl[i]? = some v → shiftD i ≤ v ∧ v < (N : Int) + shiftD i) ∧ (symF L (plcD L) (pl.take j') 0 []).length ≤ 10000 * j' ∧ w6.ownsRow w4.heap.size 107 3 v6 (symF L (plcD L) (pl.take j') 0 []).length ((symF L (plcD L) (pl.take j') 0 []).map frCells).flatten ∧ Below w4.heap.size w4 w6) := hid (by
                  refine ⟨j + 1, by simp, by omega, fun i v' hi hv' => ?_, ?_, ?_, HB5.out.grown hgrow6 hs5 (fun k hk => (HO5.out.lt k hk).1)⟩
                  · by_cases e : i = j
                    · subst e
                      rw [HV.out] at hv'
                      cases hv'
                      rw [hsh]
                      have := HZ.out
                      omega
                    · exact HOK.out i v' (by omega) hv'
                  · rw [HTK.out, List.length_append]; omega
                  · rw [HTK.out, List.length_append, List.map_append, List.flatten_append]
                    exact hown6)
                clear hown6 hgrow6 HO5 HB5 HNW
                go_wp2
                go_roundw
                case rel => exact HREL.out
                case measure => simp [intOf]; omega
        · have hjn' : decide ((j : Int) < (pn : Int)) = false := by simp; omega
          have HTA : Hid (pl.take j = pl) := hid (List.take_of_length_le (by have := HPN.out; omega))
          have hsb : symB (plcD L).length pl = true := symB_true (by rw [← HPN.out]; omega) (fun i v hv => by
            have := hok i v (by have := (List.getElem?_eq_some_iff.1 hv).1; have := HPN.out; omega) hv
            rw [HSL.out] at this
            exact this)
          have hfl2 := HFL2.out
          have hfe2 := HFE2.out
          rw [hsb, if_pos rfl] at hfl2 hfe2
          rw [HTA.out, ← hfl2] at hown
          have HF := hid (⟨owns_low9 hown hww4, HBW4.out.trans (hbel.mono HBW4.out.size)⟩ : _ ∧ _)
          rw [HTA.out, ← hfl2]
          clear hown hbel hfl hok
          go_wp2
          exact bodyPost_ret (v := .tuple #[.slice oa FL.length ocap, .int .i64 0]) (by simp [results, Tryz.results61, go_sem]) rfl ⟨oa, ocap, by rw [hfe2], HF.out.1, HF.out.2⟩
  · have he' : (er != 0) = true := by simpa using he
    have hfl := HFL.out
    rw [if_pos he] at hfl
    have hfe := HFE.out
    rw [if_pos he] at hfe
    clear hb1 hb2 hri hownI k2 hbw2 HD hok
    go_wp2
    rw [← hw2]
    exact bodyPost_ret (v := .tuple #[.slice none 0 0, .int .i64 er]) (by simp [results, Tryz.results61, go_sem]) rfl ⟨none, 0, by rw [hfl, hfe]; rfl, by rw [hfl]; exact World.ownsRow_nil _ _ _ _, HBW2.out⟩
end Go.Proofs.YtffnfjkjlmlonaaGreatDoor
