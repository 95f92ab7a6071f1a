/- Contract of the developers' image.Symbolize and unfold.Symbolize, at the bytes of a well-formed image. -/
import Derived.Test.YtffnfjkjlmlonaaGreatDoorJ4
import Derived.Test.YtffnfjkjlmlonaaGreatDoorZB12
namespace Go.Proofs.YtffnfjkjlmlonaaGreatDoor
open Go.RowKit
theorem frs_len {L : List EntD} {P : List PlcD} {own : EntD} : ∀ (f : Nat) (a : PlcD) (acc : List FrameD), (frs L P own f a acc).length ≤ acc.length + f + 1
  | 0, a, acc => by simp [frs]
  | f + 1, a, acc => by
    unfold frs
    split
    · simp
    · have := frs_len f (P.getD (a.first + (own.tree.getD (a.inst - 1).toNat (0, 0)).2).toNat noP) (acc ++ [⟨(L.getD (own.tree.getD (a.inst - 1).toNat (0, 0)).1.toNat noE).name, (L.getD (own.tree.getD (a.inst - 1).toNat (0, 0)).1.toNat noE).file, a.line⟩]) (L := L) (P := P) (own := own)
      rw [List.length_append] at this
      simp only [List.length_cons, List.length_nil] at this
      omega
theorem frsD_len {L : List EntD} {P : List PlcD} (hg : ∀ x ∈ L, EntG L.length x) (hP : PlcOk L P) {pc : Nat} (hpc : pc < P.length) : (frsD L P pc).length ≤ 10000 := by
  obtain ⟨A, hA⟩ : ∃ a, P[pc]? = some a := ⟨_, List.getElem?_eq_getElem hpc⟩
  obtain ⟨f, s, x, e1, e2, hx, hs1, hs2, hall⟩ := hP pc A hA
  have hgx := hg x (List.mem_of_getElem? hx)
  have h1 : P.getD pc noP = A := by rw [List.getD, hA]; rfl
  have hAe : A = ⟨f, s, (unroll x.lines).getD (pc - s) 0, (unroll x.index).getD (pc - s) 0⟩ := by
    have := hall (pc - s) (by omega)
    rw [show s + (pc - s) = pc by omega, hA] at this
    exact Option.some.inj this
  have hinst : 0 ≤ A.inst ∧ A.inst ≤ x.tree.length := by
    rw [hAe]
    refine hgx.inst _ ?_
    show (unroll x.index).getD (pc - s) 0 ∈ unroll x.index
    have hj : pc - s < (unroll x.index).length := by rw [hgx.len]; omega
    rw [List.getD, List.getElem?_eq_getElem hj]
    exact List.getElem_mem _
  have ht := hgx.trees
  unfold frsD
  rw [h1]
  have := frs_len (L := L) (P := P) (own := L.getD A.fn.toNat noE) A.inst.toNat A []
  simp only [List.length_nil] at this
  omega
theorem symF_app (L : List EntD) (P : List PlcD) : ∀ (l : List Int) (pc : Int) (k : Nat) (acc : List FrameD), symF L P (l ++ [pc]) k acc = symF L P l k acc ++ frsD L P (pc - shiftD (k + l.length)).toNat
  | [], pc, k, acc => rfl
  | x :: r, pc, k, acc => by
    show symF L P (r ++ [pc]) (k + 1) _ = symF L P r (k + 1) _ ++ _
    rw [symF_app L P r pc (k + 1) _, List.length_cons, show k + 1 + r.length = k + (r.length + 1) by omega]
theorem symF_take {L : List EntD} {P : List PlcD} {l : List Int} {k : Nat} {pc : Int} (h : l[k]? = some pc) : symF L P (l.take (k + 1)) 0 [] = symF L P (l.take k) 0 [] ++ frsD L P (pc - shiftD k).toNat := by
  obtain ⟨hk, he⟩ := List.getElem?_eq_some_iff.1 h
  rw [List.take_succ_eq_append_getElem hk, he, symF_app, List.length_take, Nat.zero_add, Nat.min_eq_left (by omega)]
theorem frs_pos {L : List EntD} {P : List PlcD} {own : EntD} : ∀ (f : Nat) (a : PlcD) (acc : List FrameD), acc.length + 1 ≤ (frs L P own f a acc).length
  | 0, a, acc => by simp [frs]
  | f + 1, a, acc => by
    unfold frs
    split
    · simp
    · have := frs_pos f (P.getD (a.first + (own.tree.getD (a.inst - 1).toNat (0, 0)).2).toNat noP) (acc ++ [⟨(L.getD (own.tree.getD (a.inst - 1).toNat (0, 0)).1.toNat noE).name, (L.getD (own.tree.getD (a.inst - 1).toNat (0, 0)).1.toNat noE).file, a.line⟩]) (L := L) (P := P) (own := own)
      rw [List.length_append] at this
      simp only [List.length_cons, List.length_nil] at this
      omega
theorem frCells_one (l : List FrameD) : ∀ u ∈ (l.map frCells).flatten, u.oneCell' = true := fun u hu => by
  obtain ⟨c, hc, hu⟩ := List.mem_flatten.1 hu
  obtain ⟨f, -, rfl⟩ := List.mem_map.1 hc
  exact three_one_sf _ _ _ u hu
theorem frCells_len (l : List FrameD) : (l.map frCells).flatten.length = l.length * 3 := by
  induction l with
  | nil => rfl
  | cons f r ih =>
    rw [List.map_cons, List.flatten_cons, List.length_append, ih, List.length_cons]
    show 3 + _ = _
    omega
theorem rdPc_owns {w : World} {base : Nat} {a : Option Addr} {cap : Nat} {P : List PlcD} (h : w.ownsRow base 263 4 (.slice a P.length cap) P.length (P.map pcC).flatten) : RdPc w a P.length cap P := by
  have hb : RdBut 4 (fun _ cs x => cs = pcC x) (fun _ => False) w (P.map pcC) P := ⟨by simp, fun i cs x h1 h2 => by
    rw [List.getElem?_map, h2] at h1
    obtain rfl : pcC x = cs := by simpa using h1
    exact ⟨rfl, fun _ _ => rfl⟩⟩
  obtain ⟨a', cap', e, hr⟩ := hb.rd h
  cases e
  exact hr
theorem add_none9 (b off i : Nat) : (⟨b, off, none⟩ : Addr).add i = ⟨b, off + i, none⟩ := by unfold Addr.add; split <;> simp_all
set_option maxHeartbeats 8000000 in
set_option maxRecDepth 100000 in
theorem iSym_any (ba : Option Addr) (blen bcap : Nat) (bs : List Int) (L : List EntD) (pa : Option Addr) (pcap : Nat) (pl : List Int) (w : World) (hb : Rd .u8 w ba blen bcap bs) (hne : ∀ q, ba = some q → q.block < w.heap.size) (hx : ∀ j, 0 ≤ bs.getD j 0 ∧ bs.getD j 0 ≤ 255) (hH : HeadAt w)
    (hd : decI bs = (L, 0, 0)) (hwf : wfI L = true) (hp : Rd .i64 w pa pl.length pcap pl) (hpl : ∀ x ∈ pl, R64 x) :
    Calls Tryz.prog 111 #[.slice ba blen bcap, .slice pa pl.length pcap] w fun e w' => Below w.heap.size w w' ∧
      ((symB (plcD L).length pl = false ∧ e = .returned (.tuple #[.slice none 0 0, .int .i64 9])) ∨
       (symB (plcD L).length pl = true ∧ ∃ a cap, e = .returned (.tuple #[.slice a (symF L (plcD L) pl 0 []).length cap, .int .i64 0]) ∧ w'.ownsRow w.heap.size 107 3 (.slice a (symF L (plcD L) pl 0 []).length cap) (symF L (plcD L) pl 0 []).length ((symF L (plcD L) pl 0 []).map frCells).flatten)) := by
  have HD := hid (idecode_any ba blen bcap bs w hb hne hx hH)
  rw [hd] at HD
  have hg := wfI_entG hwf
  have h12 : L.length ≤ 12 := by unfold wfI at hwf; rw [Bool.and_eq_true] at hwf; have := of_decide_eq_true hwf.1; omega
  have hPO := plcD_ok hg
  have hPl : (plcD L).length ≤ 12000 := by have := plcD_le hg; omega
  have HG := hid hg
  have HPO := hid hPO
  have HPL := hid hpl
  have HP := hid hp
  have hpc1 := hp.hcap
  have hpc2 := hp.hmax
  unfold maxLen at hpc2
  obtain ⟨PC, hPC⟩ : ∃ v, v = plcD L := ⟨_, rfl⟩
  rw [← hPC] at HPO hPl ⊢
  have HPLO := hid (fun (ia : Option Addr) (icap : Nat) (W : World) (hr : RdI W ia L.length icap L) => placesOf_any ia icap L W hr hg h12)
  rw [← hPC] at HPLO
  clear hPC hg hPO hpl hp hb hne hx hd hwf
  go_enter Tryz.func111, Tryz.ntmps111
  go_wp2_with fail
  refine HD.out.mono ?_
  rintro e w1 ⟨v, rfl, hownI, hb1⟩
  obtain ⟨va, vc, rfl, hri⟩ := hownI.rd
  dsimp only at hri ⊢
  have hs1 := hb1.size
  obtain ⟨w2, hw2⟩ : ∃ v, v = w1.alloc (Obj.cells #[.slice va L.length vc] 41) := ⟨_, rfl⟩
  have hb2 : Below w1.heap.size w1 w2 := by rw [hw2]; exact (Below.refl _ _).alloc (Nat.le_refl _) _
  have hs2 : w2.heap.size = w1.heap.size + 1 := by rw [hw2]; simp
  have k2 : w2.heap[w1.heap.size]? = some (.cells #[.slice va L.length vc] 41 (0, 0)) := by rw [hw2]; exact heap_new_at rfl
  have hbw2 : Below w.heap.size w w2 := hb1.trans (hb2.mono hs1)
  have HPW := hid (HPLO.out va vc w2 (hri.below hb2))
  have HRI := hid (hri.below hb2)
  have HK2 := hid k2
  have HBW2 := hid hbw2
  clear hb1 hb2 hri hownI k2 hbw2 HD HPLO
  go_wp2_with fail
  rw [← hw2]
  clear hw2
  refine HPW.out.mono ?_
  rintro e w3 ⟨qa, qcap, rfl, hoq, hb3⟩
  have hs3 := hb3.size
  have hbw3 : Below w.heap.size w w3 := HBW2.out.trans (hb3.mono HBW2.out.size)
  have HRQ := hid (rdPc_owns hoq)
  have hq1 := HRQ.out.2.1
  have hq2 := HRQ.out.2.2.1
  unfold maxLen at hq2
  have k3 := (hb3.block w1.heap.size (by omega)).trans HK2.out
  have HRI3 := hid (HRI.out.below hb3)
  have hi1 := HRI3.out.2.1
  have hi2 := HRI3.out.2.2.1
  unfold maxLen at hi2
  have HPM := hid (pcsMayBe_any pa pcap pl PC.length w3 (HP.out.below hbw3 (Nat.le_refl _)) (by omega) HPL.out)
  have HK3 := hid k3
  have HBW3 := hid hbw3
  obtain ⟨pn, hpn⟩ : ∃ v, v = pl.length := ⟨_, rfl⟩
  rw [← hpn] at HP HPM hpc1 ⊢
  have HPN := hid hpn
  obtain ⟨N, hN⟩ : ∃ v, v = PC.length := ⟨_, rfl⟩
  rw [← hN] at HRQ HPM hq1 hPl ⊢
  have HNN := hid hN
  clear hoq hb3 k3 hbw3 HPW HRI hpn hN
  go_wp2_with fail
  refine HPM.out.mono ?_
  rintro e w4 ⟨rfl, hb4⟩
  have hs4 := hb4.size
  have HBW4 := hid (HBW3.out.trans (hb4.mono HBW3.out.size))
  by_cases hsy : symB N pl = true
  · rw [hsy]
    have hB := hsy
    unfold symB at hB
    rw [Bool.and_eq_true] at hB
    have h20 : pn ≤ 20 := by have := of_decide_eq_true hB.1; have := HPN.out; omega
    have HPB := hid hB.2
    have k4 := (hb4.block w1.heap.size (by omega)).trans HK3.out
    have HRI4 := hid (HRI3.out.below hb4)
    have HRQ4 := hid (HRQ.out.below hb4)
    have HK4 := hid k4
    have HSY := hid hsy
    clear hB hsy hb4 k4 HRI3 HRQ HK3 HPM
    go_wp2
    obtain ⟨i0, hi, hz0, hz1, hz2⟩ := info_parts Tryz.infoFrame
    go_loopw [10, 11, 12, 31] (fun lv _ _ i wr => ∃ j : Nat, i = .int .i64 j ∧ j ≤ pn ∧ wr.ownsRow w4.heap.size 107 3 lv (symF L PC (pl.take j) 0 []).length ((symF L PC (pl.take j) 0 []).map frCells).flatten ∧ (symF L PC (pl.take j) 0 []).length ≤ 10000 * j ∧ Below w4.heap.size w4 wr) (fun _ _ _ i _ => pn - (intOf i).toNat)
    case atStart => exact ⟨0, rfl, by omega, World.ownsRow_nil _ _ _ _, by simp [symF], Below.refl _ _⟩
    case round =>
      obtain ⟨j, rfl, hj, hown, hfl, hbel⟩ := hrel
      have hsr := hbel.size
      obtain ⟨la, lcap, rfl, hl1, hl2⟩ := owns_form hown
      unfold maxLen at hl2
      by_cases hjn : j < pn
      · have hjn' : (j : Int) < (pn : Int) := by omega
        obtain ⟨v, hv⟩ : ∃ v, pl[j]? = some v := ⟨_, List.getElem?_eq_getElem (by rw [← HPN.out]; exact hjn)⟩
        have hbnd := pcsB_take pl 0 j v hv HPB.out
        rw [Nat.zero_add] at hbnd
        obtain ⟨b0, off, rfl, hc⟩ := (HP.out.below (HBW4.out.trans (hbel.mono HBW4.out.size)) (Nat.le_refl _)).open (by omega)
        have c0 := hc j hjn
        have hgd : pl.getD j 0 = v := by rw [List.getD, hv]; rfl
        rw [hgd] at c0
        have hb0 : b0 < wr.heap.size := World.block_lt_of_cell? wr _ c0
        have HS := hid (fun W => shift_any j W (by omega))
        obtain ⟨s, hs⟩ : ∃ v, v = shiftD j := ⟨_, rfl⟩
        have hs01 : 0 ≤ s ∧ s ≤ 1 := by rw [hs]; unfold shiftD; split <;> omega
        obtain ⟨z, hz⟩ : ∃ z : Nat, (z : Int) = v - s := ⟨(v - s).toNat, by rw [hs]; omega⟩
        have hzN : z < N := by rw [← hs] at hbnd; omega
        have HTK : Hid (symF L PC (pl.take (j + 1)) 0 [] = symF L PC (pl.take j) 0 [] ++ frsD L PC z) := hid (by rw [symF_take hv, ← hs, ← hz, show ((z : Int)).toNat = z by omega])
        rw [← hs] at HS hbnd
        have hfz := frsD_len HG.out HPO.out (pc := z) (by rw [← HNN.out]; exact hzN)
        have hfp : 1 ≤ (frsD L PC z).length := by unfold frsD; exact Nat.le_trans (by simp) (frs_pos _ _ _)
        have HFA := hid (fun (W : World) (hW : Below wr.heap.size wr W) => framesAt_any va vc L qa qcap PC z W ((HRI4.out.below hbel).below hW) (by rw [← HNN.out]; exact (HRQ4.out.below hbel).below hW) HG.out HPO.out (by rw [← HNN.out]; exact hPl) (by rw [← HNN.out]; exact hzN))
        have HNW0 : Hid (((frsD L PC z).map frCells).flatten.length = (frsD L PC z).length * 3 ∧ ∀ u ∈ ((frsD L PC z).map frCells).flatten, u.oneCell' = true) := hid ⟨frCells_len _, frCells_one _⟩
        have ew : IntKind.i64.wrap (v - s) = (z : Int) := by rw [IntKind.wrap_i64]; omega
        have i4 : wr.cell? ⟨w1.heap.size, 0, none⟩ = some (.slice va L.length vc) := by
          have := (hbel.block w1.heap.size (by omega)).trans HK4.out
          simp [World.cell?, this]
        rw [← HNN.out] at HFA
        obtain ⟨Ln, hLn⟩ : ∃ v, v = L.length := ⟨_, rfl⟩
        rw [← hLn] at HFA i4
        generalize hFD : frsD L PC z = FD at *
        generalize hF0 : symF L PC (pl.take j) 0 [] = F0 at *
        have HRES : Hid ((F0.map frCells).flatten ++ (FD.map frCells).flatten = ((F0 ++ FD).map frCells).flatten) := hid (by simp)
        generalize (FD.map frCells).flatten = NW at *
        obtain ⟨XS, hXS⟩ : ∃ v, v = (F0.map frCells).flatten := ⟨_, rfl⟩
        rw [← hXS] at hown HRES
        obtain ⟨an, han⟩ : ∃ v, v = F0.length := ⟨_, rfl⟩
        rw [← han] at hown hfl hl1 ⊢
        obtain ⟨M, hM⟩ : ∃ v, v = FD.length := ⟨_, rfl⟩
        rw [← hM] at hfz hfp HFA HNW0
        have HNW := HNW0
        have HO := hid hown
        have HBEL := hid hbel
        have HAN := hid han
        have HMM := hid hM
        have HZ := hid hz
        clear hown hbel hc hgd hFD hF0 hXS han hM hLn HNW0 hv hbnd hs hz
        go_wp2
        apply cutB
        case k =>
          intro key
          refine wp_region_last (fun W => W.cell? ⟨w1.heap.size, 0, none⟩ = some (.slice va Ln vc)) 9 _ (by kernel_rfl) rfl rfl rfl (by kernel_rfl) (by kernel_rfl) i4 (fun hHeld => ?_)
          refine wpAnyH_take (i := 0) (oi := ⟨some 36, _, _, _, _, none⟩) (v := ?_) rfl (by kernel_rfl) (by kernel_rfl) (by kernel_rfl) (fun _ _ _ h => h) (Or.inl ⟨by rfl, ?_⟩) (by assumption) ?_
          rotate_left
          · intro W hSw
            go_simp
            try with_reducible rfl
          simp only [Act.put, List.setIfInBounds_toArray, List.set_cons_zero, List.set_cons_succ]
          refine wpAnyH_take (i := 1) (oi := ⟨some 37, _, _, _, _, none⟩) (v := ?_) rfl (by kernel_rfl) (by kernel_rfl) (by kernel_rfl) (fun _ _ _ h => h) (Or.inl ⟨by rfl, ?_⟩) (by assumption) ?_
          rotate_left
          · intro W hSw
            go_simp
            try with_reducible rfl
          simp only [Act.put, List.setIfInBounds_toArray, List.set_cons_zero, List.set_cons_succ]
          refine wpAnyH_take (i := 2) (oi := ⟨some 38, _, _, _, _, none⟩) (v := ?_) rfl (by kernel_rfl) (by kernel_rfl) (by kernel_rfl) (fun _ _ _ h => h) (Or.inl ⟨by rfl, ?_⟩) (by assumption) ?_
          rotate_left
          · intro W hSw
            go_simp
            try with_reducible rfl
          simp only [Act.put, List.setIfInBounds_toArray, List.set_cons_zero, List.set_cons_succ]
          refine wpAnyH_take (i := 3) (oi := ⟨some 39, _, _, _, _, none⟩) (v := ?_) rfl (by kernel_rfl) (by kernel_rfl) (by kernel_rfl) (fun _ _ _ h => h) (Or.inl ⟨by rfl, ?_⟩) (by assumption) ?_
          rotate_left
          · intro W hSw
            go_simp
            try with_reducible rfl
          simp only [Act.put, List.setIfInBounds_toArray, List.set_cons_zero, List.set_cons_succ]
          refine wpAnyH_take (i := 4) (oi := ⟨some 40, _, _, _, _, none⟩) (v := ?_) rfl (by kernel_rfl) (by kernel_rfl) (by kernel_rfl) (fun _ _ _ h => h) (Or.inl ⟨by rfl, ?_⟩) (by assumption) ?_
          rotate_left
          · intro W hSw
            go_simp
            try with_reducible rfl
          simp only [Act.put, List.setIfInBounds_toArray, List.set_cons_zero, List.set_cons_succ]
          refine wpAnyH_ready (rs := [5]) (by kernel_rfl) (by simp) ?_
          refine AllReadyH.cons rfl (fun K hK => ?_) AllReadyH.nil
          go_simp
          go_wp2_with (go_at_call 167; refine (HS.out wr.drew).mono ?_; rintro e w' ⟨rfl, rfl⟩)
          clear hHeld
          refine hK.out _ _ i4 (fun hHeld => ?_)
          clear hK K
          refine wpAnyH_take (i := 6) (oi := ⟨some 42, _, _, _, _, none⟩) (v := ?_) rfl (by kernel_rfl) (by kernel_rfl) (by kernel_rfl) (fun _ _ _ h => h) (Or.inl ⟨by rfl, ?_⟩) (by assumption) ?_
          rotate_left
          · intro W hSw
            go_simp
            try with_reducible rfl
          simp only [Act.put, List.setIfInBounds_toArray, List.set_cons_zero, List.set_cons_succ]
          refine wpAnyH_ready (rs := [7]) (by kernel_rfl) (by simp) ?_
          refine AllReadyH.cons rfl (fun K hK => ?_) AllReadyH.nil
          go_simp
          go_wp2_with (go_at_call 166; refine (HFA.out wr.drew (Below.refl _ _).drew).mono ?_; rintro e w5 ⟨fa, fcap, rfl, hof, hb5⟩)
          have hs5 := hb5.size
          have hwd : wr.drew.heap.size = wr.heap.size := rfl
          have i5 : w5.cell? ⟨w1.heap.size, 0, none⟩ = some (.slice va Ln vc) := (hb5.cell (p := ⟨w1.heap.size, 0, none⟩) (by show w1.heap.size < wr.heap.size; omega)).trans i4
          clear hHeld
          refine hK.out _ _ i5 (fun hHeld => ?_)
          clear hK K
          refine wpAnyH_ready (rs := [8]) (by kernel_rfl) (by simp) ?_
          refine AllReadyH.cons rfl (fun K hK => ?_) AllReadyH.nil
          obtain ⟨fg, rfl⟩ : ∃ g, fa = some ⟨g, 0, none⟩ := by
            rcases hof.2 with ⟨h1, h2⟩ | ⟨g, c', cur, h1, _⟩
            · omega
            · simp only [Value.slice.injEq] at h1; exact ⟨g, h1.1⟩
          refine step_append_lies _ rfl (.tmp 36) (.tmp 43) 38 rfl w4.heap.size 107 i0 (.agg #[.string ⟨#[]⟩, .string ⟨#[]⟩, .int .i64 0]) 3 40 Tryz.underlying38 hi hz0 hz1 hz2 rfl (by decide) (.slice la an lcap) an _ (by simp [Act.eval]) (ownsRow_below HO.out.drew hb5) ⟨fg, 0, none⟩ M fcap NW (by simp [Act.eval]) HNW.out.1 (fun j u hj => by rw [add_none9, Nat.zero_add, hof.cellAt j (by have := (List.getElem?_eq_some_iff.1 hj).1; rw [HNW.out.1] at this; exact this)]; exact hj) HNW.out.2 (by omega) (by unfold maxLen; omega) (by omega) (by omega) _ rfl ?_
          intro g' c' w9 hown9 hgrow9 hat9 hlt9
          have i9 : w9.cell? ⟨w1.heap.size, 0, none⟩ = some (.slice va Ln vc) := (World.cell?_of_block (a := ⟨w1.heap.size, 0, none⟩) (hgrow9.block w1.heap.size (by omega) (fun e => by have := (HO.out.lt _ e.symm).1; omega))).trans i5
          clear hHeld
          refine hK.out _ _ i9 (fun hHeld => ?_)
          clear hK K
          refine wpAnyH_done (by kernel_rfl) ?_ _
          unfold lastQ
          clear hHeld
          go_simp
          all_goals
            have hbel9 : Below w4.heap.size w4 w9 := (HBEL.out.drew.trans (hb5.mono (by show w4.heap.size ≤ wr.heap.size; omega))).grown hgrow9 (by omega) (fun b hb => (HO.out.lt b hb).1)
            have hfin : w9.ownsRow w4.heap.size 107 3 (.slice (some ⟨g', 0, none⟩) (an + M) c') (an + M) (XS ++ NW) ∧ Below w4.heap.size w4 w9 := ⟨hown9, hbel9⟩
            clear hbel9 hown9 hgrow9 hat9 hlt9 i9 i5 hof hb5 hs5 hwd
            revert hfin
            revert w9 c' g' fcap fg w5
            exact key.out
        intro w5 fg fcap g' c' w9 ⟨f1, f2⟩
        rw [HRES.out] at f1
        have HF1 := hid f1
        have HF2 := hid f2
        clear f1 f2 HFA HO HBEL i4 c0
        go_wp2
        go_roundw
        case rel =>
          refine ⟨j + 1, by go_num, by omega, ?_, ?_, HF2.out⟩
          · rw [HTK.out, List.length_append, ← HAN.out, ← HMM.out]; exact HF1.out
          · rw [HTK.out, List.length_append, ← HAN.out, ← HMM.out]; omega
        case measure => simp [intOf]; omega
      · have hjn' : decide ((j : Int) < (pn : Int)) = false := by simp; omega
        have HTA : Hid (pl.take j = pl) := hid (List.take_of_length_le (by have := HPN.out; omega))
        rw [HTA.out] at hown ⊢
        have HF := hid (⟨owns_low9 hown (show w.heap.size ≤ w4.heap.size by have := HBW4.out.size; omega), HBW4.out.trans (hbel.mono HBW4.out.size)⟩ : _ ∧ _)
        clear hown hbel hfl
        go_wp2
        exact bodyPost_ret (v := .tuple #[.slice la (symF L PC pl 0 []).length lcap, .int .i64 0]) (by simp [results, Tryz.results111, go_sem]) rfl ⟨HF.out.2, .inr ⟨by rw [← HNN.out]; exact HSY.out, la, lcap, rfl, HF.out.1⟩⟩
  · have hsf : symB N pl = false := by simpa using hsy
    rw [hsf]
    clear hsy hb4 HPM
    go_wp2
    exact bodyPost_ret (v := .tuple #[.slice none 0 0, .int .i64 9]) (by simp [results, Tryz.results111, go_sem]) rfl ⟨HBW4.out, .inl ⟨by rw [← HNN.out]; exact hsf, rfl⟩⟩
set_option maxHeartbeats 2000000 in
set_option maxRecDepth 100000 in
theorem uSym_any (ba : Option Addr) (blen bcap : Nat) (bs : List Int) (L : List EntD) (pa : Option Addr) (pcap : Nat) (pl : List Int) (w : World) (hb : Rd .u8 w ba blen bcap bs) (hne : ∀ q, ba = some q → q.block < w.heap.size) (hx : ∀ j, 0 ≤ bs.getD j 0 ∧ bs.getD j 0 ≤ 255) (hH : HeadAt w)
    (hd : decI bs = (L, 0, 0)) (hwf : wfI L = true) (hp : Rd .i64 w pa pl.length pcap pl) (hpl : ∀ x ∈ pl, R64 x) :
    Calls Tryz.prog 62 #[.slice ba blen bcap, .slice pa pl.length pcap] w fun e w' => Below w.heap.size w w' ∧
      ((symB (plcD L).length pl = false ∧ e = .returned (.tuple #[.slice none 0 0, .int .i64 9])) ∨
       (symB (plcD L).length pl = true ∧ ∃ a cap, e = .returned (.tuple #[.slice a (symF L (plcD L) pl 0 []).length cap, .int .i64 0]) ∧ w'.ownsRow w.heap.size 107 3 (.slice a (symF L (plcD L) pl 0 []).length cap) (symF L (plcD L) pl 0 []).length ((symF L (plcD L) pl 0 []).map frCells).flatten)) := by
  have HS := hid (iSym_any ba blen bcap bs L pa pcap pl w hb hne hx hH hd hwf hp hpl)
  generalize symF L (plcD L) pl 0 [] = FR at *
  generalize symB (plcD L).length pl = sb at *
  generalize pl.length = pn at *
  clear hb hne hx hH hd hwf hp hpl
  go_enter Tryz.func62, Tryz.ntmps62
  go_wp2_with fail
  refine HS.out.mono ?_
  rintro e w1 ⟨hb1, ⟨h1, rfl⟩ | ⟨h1, a, cap, rfl, ho⟩⟩
  · go_wp2
    exact bodyPost_ret (v := .tuple #[.slice none 0 0, .int .i64 9]) (by simp [results, Tryz.results62, go_sem]) rfl ⟨hb1, .inl ⟨h1, rfl⟩⟩
  · have HO := hid ho
    clear ho
    go_wp2
    exact bodyPost_ret (v := .tuple #[.slice a FR.length cap, .int .i64 0]) (by simp [results, Tryz.results62, go_sem]) rfl ⟨hb1, .inr ⟨h1, a, cap, rfl, HO.out⟩⟩
end Go.Proofs.YtffnfjkjlmlonaaGreatDoor
