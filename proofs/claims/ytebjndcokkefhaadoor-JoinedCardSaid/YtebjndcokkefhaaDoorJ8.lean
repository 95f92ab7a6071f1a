/- The contract of the statement's Joined: true at whatever it is given. -/
import Derived.Test.YtebjndcokkefhaaDoorZ44
import Derived.Test.YtebjndcokkefhaaDoorZ47
import Derived.Test.YtebjndcokkefhaaDoorZ47
import Derived.Test.YtebjndcokkefhaaDoorZ47
import Derived.Test.YtebjndcokkefhaaDoorZ47
import Derived.Test.YtebjndcokkefhaaDoorZ18
import Derived.Test.YtebjndcokkefhaaDoorZ47
namespace Go.Proofs.YtebjndcokkefhaaDoor
open Go.RowKit

theorem pcsB_snoc (n : Int) : ∀ (l : List Int) (pc : Int) (k : Nat), pcsB n (l ++ [pc]) k = (pcsB n l k && decide ((if k + l.length = 0 then 0 else 1) ≤ pc ∧ pc < n + (if k + l.length = 0 then 0 else 1)))
  | [], pc, k => by simp [pcsB]
  | x :: r, pc, k => by
    show (decide _ && pcsB n (r ++ [pc]) (k + 1)) = ((decide _ && pcsB n r (k + 1)) && _)
    rw [pcsB_snoc n r pc (k + 1), Bool.and_assoc, show k + 1 + r.length = k + (x :: r).length by simp; omega]
theorem symB_snoc {n pc : Int} {l : List Int} (hl : 1 ≤ l.length) (h : symB n l = true) (h20 : l.length < 20) : symB n (l ++ [pc]) = decide (1 ≤ pc ∧ pc < n + 1) := by
  unfold symB at h ⊢
  rw [Bool.and_eq_true] at h
  rw [pcsB_snoc, h.2, List.length_append, Nat.zero_add, if_neg (by omega), Bool.true_and]
  have : decide (l.length + [pc].length ≤ 20) = true := by simp; omega
  rw [this, Bool.true_and]
def plcSum (r : List EntD) : Nat := (r.map fun x => (unroll x.lines).length).sum
theorem plcD_len {L : List EntD} (hg : ∀ x ∈ L, EntG L.length x) : (plcD L).length = plcSum L := by
  have := plcF_len L 0 [] hg
  simpa [plcD, plcSum] using this
theorem plcSum_le {n : Nat} : ∀ (r : List EntD), (∀ x ∈ r, EntG n x) → plcSum r ≤ 1000 * r.length
  | [], _ => by simp [plcSum]
  | x :: r, h => by
    have h1 := plcSum_le r (fun y hy => h y (List.mem_cons_of_mem _ hy))
    have h2 := (h x (List.mem_cons_self ..)).most
    unfold plcSum at h1 ⊢
    rw [List.map_cons, List.sum_cons, List.length_cons]
    omega
theorem plcSum_take {L : List EntD} {k : Nat} {x : EntD} (h : L[k]? = some x) : plcSum (L.take (k + 1)) = plcSum (L.take k) + (unroll x.lines).length := by
  have : L.take (k + 1) = L.take k ++ [x] := by rw [List.take_add_one, h]; rfl
  unfold plcSum
  rw [this, List.map_append, List.sum_append]
  simp
theorem plcSum_pos {L : List EntD} {x : EntD} (h : L[0]? = some x) (hx : 1 ≤ (unroll x.lines).length) : 1 ≤ plcSum L := by
  match L, h with
  | y :: r, h =>
    cases h
    unfold plcSum
    rw [List.map_cons, List.sum_cons]
    omega

set_option maxHeartbeats 8000000 in
set_option maxRecDepth 100000 in
theorem Joined_any (pa : Option Addr) (pcap : Nat) (p : List FnD) (bud : Int) (ra : Option Addr) (rl rcap : Nat) (raw : List Int) (w : World) (hp : RdP w pa p.length pcap p) (hraw : RawP p) (hbud : R64 bud) (hr : Rd .i64 w ra rl rcap raw) (hrr : ∀ x ∈ raw, R64 x) (hH : HeadAt w) :
    Calls Tryd.prog 6 #[.agg #[.slice pa p.length pcap], .int .i64 bud, .slice ra rl rcap] w fun e w' => e = .returned (.bool true) ∧ Below w.heap.size w w' := by
  obtain ⟨wb, hwb⟩ : ∃ v, v = w.alloc (Obj.cells #[.slice pa p.length pcap] 24) := ⟨_, rfl⟩
  have hbb : Below w.heap.size w wb := by rw [hwb]; exact (Below.refl _ _).alloc (Nat.le_refl _) _
  have hbs : wb.heap.size = w.heap.size + 1 := by rw [hwb]; simp
  have HT := hid (whole_any pa pcap p wb (hp.below hbb) hraw)
  have HBB := hid hbb
  have HH := hid hH
  have HR := hid hr
  have HRR := hid hrr
  have hrc1 := hr.hcap
  have hrc2 := hr.hmax
  unfold maxLen at hrc2
  generalize p.length = pl at *
  clear hp hbb hH hr hrr
  go_enter Tryd.func6, Tryd.ntmps6
  go_wp2_with fail
  rw [← hwb]
  clear hwb
  refine HT.out.mono ?_
  rintro e w1 ⟨hb1, q, qa, qcap, rfl, hchk, hrd⟩
  have hs1 := hb1.size
  have hbw1 : Below w.heap.size w w1 := HBB.out.trans (hb1.mono HBB.out.size)
  clear HT
  obtain ⟨w2, hw2⟩ : ∃ v, v = w1.alloc (Obj.cells #[.slice qa q.length qcap] 24) := ⟨_, rfl⟩
  have hb2 : Below w1.heap.size w1 w2 := by rw [hw2]; exact (Below.refl _ _).alloc (Nat.le_refl _) _
  have hs2 : w2.heap.size = w1.heap.size + 1 := by rw [hw2]; simp
  have hr2 : RdP w2 qa q.length qcap q := hrd w2 (fun b _ h => hb2.block b h)
  have hbw2 : Below w.heap.size w w2 := hbw1.trans (hb2.mono hbw1.size)
  have HB := hid (built_any qa qcap q bud w2 hr2 hbud hchk (HH.out.below hbw2 (Nat.le_refl _)))
  have HCK := hid hchk
  have HBW2 := hid hbw2
  obtain ⟨ql, hql⟩ : ∃ v, v = q.length := ⟨_, rfl⟩
  rw [← hql] at HB hw2 ⊢
  clear hb1 hbw1 hb2 hr2 hbw2 hchk hrd hql
  go_wp2_with fail
  rw [← hw2]
  clear hw2
  refine HB.out.mono ?_
  rintro e w3 ⟨hb3, n, cs, bv, hn0, hn30, hcs, rfl, hown⟩
  clear HB
  obtain ⟨hwf, -, -⟩ := img_wf HCK.out hcs
  have hdec := decI_enc hwf
  have hpos := encI_pos (imgD q cs)
  obtain ⟨hby, hbl⟩ := encI_ok hwf
  obtain ⟨x0, hx0⟩ : ∃ x, q[0]? = some x := ⟨_, List.getElem?_eq_getElem (by have := (good_of HCK.out).len; omega)⟩
  obtain ⟨c0, hcc0, hL0, hsum0, -, -, hpl1, -, hwt0, -⟩ := img_at HCK.out hcs 0 x0 hx0
  have hent := wfI_entG hwf
  have hPL := plcD_len hent
  have hP1 : 1 ≤ plcSum (imgD q cs) := plcSum_pos hL0 (by have := (hent _ (List.mem_of_getElem? hL0)).sum; omega)
  have hPM := plcSum_le _ hent
  have hL12 : (imgD q cs).length ≤ 12 := by
    have h := hwf
    unfold wfI at h
    rw [Bool.and_eq_true] at h
    exact (of_decide_eq_true h.1).2
  obtain ⟨bs, hbs'⟩ : ∃ v, v = encI (imgD q cs) := ⟨_, rfl⟩
  rw [← hbs'] at hown hdec hpos hby hbl
  obtain ⟨N, hN⟩ : ∃ v, v = bs.length := ⟨_, rfl⟩
  rw [← hN] at hown hpos hbl
  obtain ⟨ba, bcap, rfl, hrb⟩ := rd_of_owns8 hown hN.symm
  obtain ⟨bb, boff, rfl, hbc⟩ := hrb.open (by omega)
  have hbx : ∀ j, 0 ≤ bs.getD j 0 ∧ bs.getD j 0 ≤ 255 := getD_of_mem bs hby
  have hbbl : bb < w3.heap.size := World.block_lt_of_cell? w3 _ (hbc 0 (by omega))
  have hs3 := hb3.size
  have hbw3 : Below w.heap.size w w3 := HBW2.out.trans (hb3.mono HBW2.out.size)
  have HD1 := hid (uDecode_any (some ⟨bb, boff, none⟩) N bcap bs w3 hrb (fun q hq => by cases hq; exact hbbl) hbx (HH.out.below hbw3 (Nat.le_refl _)))
  have HDEC := hid hdec
  rw [hdec] at HD1
  have hcap1 := hrb.hcap
  have hcap2 := hrb.hmax
  unfold maxLen at hcap2
  have HRB := hid hrb
  have HBX := hid hbx
  have HBW3 := hid hbw3
  have HWF := hid hwf
  have HEG := hid hent
  have HPL := hid hPL
  generalize imgD q cs = L at *
  clear hdec hown hrb hbc hbx hby hbs' hN hwf hb3 hbw3 hcs hent hPL hwt0 hsum0 hL0 hcc0 hx0 hpl1
  go_wp2_with fail
  refine HD1.out.mono ?_
  rintro e w4 ⟨v, rfl, hownI, hb4⟩
  obtain ⟨va, vc, rfl, hri⟩ := hownI.rd
  dsimp only at hri ⊢
  have hs4 := hb4.size
  obtain ⟨w5, hw5⟩ : ∃ v, v = w4.alloc (Obj.cells #[.slice va L.length vc] 31) := ⟨_, rfl⟩
  have hb5 : Below w4.heap.size w4 w5 := by rw [hw5]; exact (Below.refl _ _).alloc (Nat.le_refl _) _
  have hs5 : w5.heap.size = w4.heap.size + 1 := by rw [hw5]; simp
  have ki5 : w5.heap[w4.heap.size]? = some (.cells #[.slice va L.length vc] 31 (0, 0)) := by rw [hw5]; exact heap_new_at rfl
  have hb35 : Below w3.heap.size w3 w5 := hb4.trans (hb5.mono hs4)
  have hbw5 : Below w.heap.size w w5 := HBW3.out.trans (hb35.mono HBW3.out.size)
  have hri5 := hri.below hb5
  have hvc1 := hri.2.1
  have hvc2 := hri.2.2.1
  unfold maxLen at hvc2
  have HRI5 := hid hri5
  have HB35 := hid hb35
  have HBW5 := hid hbw5
  have HKI5 := hid ki5
  clear hri hri5 hb35 hbw5 ki5 hb5 hb4 hownI HD1
  go_wp2
  rw [← hw5]
  clear hw5
  obtain ⟨Ln, hLn⟩ : ∃ v, v = L.length := ⟨_, rfl⟩
  rw [← hLn] at HRI5 HKI5 HEG hvc1 hL12 hPM ⊢
  have HLN := hid hLn
  clear hLn
  go_loopw [14, 15, 16] (fun al fv _ wr => ∃ j : Nat, fv = .int .i64 j ∧ al = .int .i64 ((plcSum (L.take j) : Nat) : Int) ∧ j ≤ Ln ∧ Below w5.heap.size w5 wr) (fun _ fv _ _ => Ln - (intOf fv).toNat)
  case atStart => exact ⟨0, rfl, rfl, by omega, Below.refl _ _⟩
  case round =>
    obtain ⟨j, rfl, rfl, hj, hbel⟩ := hrel
    have hsr := hbel.size
    have i5 : wr.cell? ⟨w4.heap.size, 0, none⟩ = some (.slice va Ln vc) := by
      have := (hbel.block w4.heap.size (by omega)).trans HKI5.out
      simp [World.cell?, this]
    by_cases hjn : j < Ln
    · have hjn' : (j : Int) < (Ln : Int) := by omega
      obtain ⟨x, hx⟩ : ∃ x, L[j]? = some x := ⟨_, List.getElem?_eq_getElem (by rw [← HLN.out]; exact hjn)⟩
      have hgx := HEG.out x (List.mem_of_getElem? hx)
      obtain ⟨eb, eoff, la, lcap, xa, xcap, ta, tcap, rfl, -, -, m2, -, -, hrl, -, -⟩ := (HRI5.out.below hbel).at hx
      have heb : eb < wr.heap.size := World.block_lt_of_cell? wr _ m2
      have HPC := hid (kPcs_any la x.lines.length lcap x.lines wr hrl hgx.wl)
      rw [← hgx.sum] at HPC
      have HTK := hid (plcSum_take hx)
      have hmost := hgx.most
      have hle : plcSum (L.take j) ≤ 12000 := by
        have h := plcSum_le (n := Ln) (L.take j) (fun y hy => HEG.out y (List.mem_of_mem_take hy))
        have h2 : (L.take j).length ≤ 12 := by rw [List.length_take]; omega
        omega
      generalize (unroll x.lines).length = um at *
      generalize hPJ : plcSum (L.take j) = PJ at *
      generalize x.lines.length = xl at *
      have HBEL := hid hbel
      clear hx hgx hrl hbel hPJ
      go_wp2_with fail
      refine HPC.out.mono ?_
      rintro e w6 ⟨rfl, hb6⟩
      have HB6 := hid (HBEL.out.trans (hb6.mono hsr))
      have ew : IntKind.i64.wrap ((PJ : Int) + (um : Int)) = ((PJ + um : Nat) : Int) := by rw [IntKind.wrap_i64]; omega
      clear hb6 HPC i5 m2
      go_wp2
      go_roundw
      case rel => exact ⟨j + 1, by go_num, by rw [HTK.out]; go_num, by omega, HB6.out⟩
      case measure => simp [intOf]; omega
    · have hjn' : decide ((j : Int) < (Ln : Int)) = false := by simp; omega
      have HTA : Hid (L.take j = L) := hid (List.take_of_length_le (by have := HLN.out; omega))
      rw [HTA.out]
      have HBEL := hid hbel
      obtain ⟨M, hM⟩ : ∃ v, v = plcSum L := ⟨_, rfl⟩
      rw [← hM] at hP1 hPM HPL ⊢
      have hMz : decide ((M : Int) = 0) = false := by rw [decide_eq_false_iff_not]; omega
      have hMz2 : ((M : Int) == 0) = false := by simp; omega
      clear hbel hM
      obtain ⟨wo, hwo⟩ : ∃ v, v = wr := ⟨_, rfl⟩
      subst hwo
      have HRT := hid (fun (W : World) (hW : Below wo.heap.size wo W) => HBEL.out.trans (hW.mono hsr))
      have HIC : Hid (∀ W : World, Below wo.heap.size wo W → W.cell? ⟨w4.heap.size, 0, none⟩ = some (.slice va Ln vc)) := hid (fun W hW => by
        have := ((HRT.out W hW).block w4.heap.size (by omega)).trans HKI5.out
        simp [World.cell?, this])
      have HAL : Hid (∀ (W : World) (z : Nat), Below wo.heap.size wo W → z < M → _) := hid (fun W z hW hz => by
        have hb5W := HRT.out W hW
        have hb3W := HB35.out.trans (hb5W.mono HB35.out.size)
        have hbwW := HBW5.out.trans (hb5W.mono HBW5.out.size)
        exact alone_any (some ⟨bb, boff, none⟩) N bcap bs L va vc z W (HRB.out.below hb3W (Nat.le_refl _)) (fun q hq => by cases hq; exact Nat.lt_of_lt_of_le hbbl hb3W.size) HBX.out (HH.out.below hbwW (Nat.le_refl _)) HDEC.out HWF.out (by rw [← HLN.out]; exact HRI5.out.below hb5W) (by rw [HPL.out]; exact hz) (by rw [HPL.out]; omega) (by rw [← HLN.out]; exact hL12))
      have HSY : Hid (∀ (W : World) (la : Option Addr) (lcap : Nat) (l : List Int), Below wo.heap.size wo W → Rd .i64 W la l.length lcap l → (∀ x ∈ l, R64 x) → _) := hid (fun W la lcap l hW hl hr => by
        have hb5W := HRT.out W hW
        have hb3W := HB35.out.trans (hb5W.mono HB35.out.size)
        have hbwW := HBW5.out.trans (hb5W.mono HBW5.out.size)
        exact uSym_any (some ⟨bb, boff, none⟩) N bcap bs L la lcap l W (HRB.out.below hb3W (Nat.le_refl _)) (fun q hq => by cases hq; exact Nat.lt_of_lt_of_le hbbl hb3W.size) HBX.out (HH.out.below hbwW (Nat.le_refl _)) HDEC.out HWF.out hl hr)
      have HFL : Hid (∀ z : Nat, z < M → 1 ≤ (frsD L (plcD L) z).length ∧ (frsD L (plcD L) z).length ≤ 10000) := hid (fun z hz => ⟨by unfold frsD; exact Nat.le_trans (by simp) (frs_pos _ _ _), frsD_len (by rw [← HLN.out] at *; exact HEG.out) (plcD_ok HEG.out) (by rw [HPL.out]; exact hz)⟩)
      have HRW : Hid (∀ W : World, Below wo.heap.size wo W → Rd .i64 W ra rl rcap raw) := hid (fun W hW => HR.out.below (HBW5.out.trans ((HRT.out W hW).mono HBW5.out.size)) (Nat.le_refl _))
      have HFIN : Hid (∀ W : World, Below wo.heap.size wo W → Below w.heap.size w W) := hid (fun W hW => HBW5.out.trans ((HRT.out W hW).mono HBW5.out.size))
      rw [HPL.out] at HSY
      rw [← HLN.out] at HAL
      obtain ⟨PC, hPC⟩ : ∃ v, v = plcD L := ⟨_, rfl⟩
      rw [← hPC] at HAL HSY HFL HPL
      have HPCE := hid hPC
      have hM12 : M ≤ 12000 := by omega
      clear hPC HH HRB HBX HDEC HWF HEG HRI5 HB35 HBW5 HBW3 HBW2 HKI5 HBEL HR HCK HTA HBB HLN
      go_wp2
      obtain ⟨w6, hw6⟩ : ∃ v, v = wo.alloc (Obj.cells #[.int .i64 0] 3) := ⟨_, rfl⟩
      rw [← hw6]
      have hb6 : Below wo.heap.size wo w6 := by rw [hw6]; exact (Below.refl _ _).alloc (Nat.le_refl _) _
      have hl6 : w6.ownsRow wo.heap.size 3 1 (.slice (some ⟨wo.heap.size, 0, none⟩) 1 1) 1 (ints [0]) := by rw [hw6]; exact World.ownsRow_lit wo #[.int .i64 0] 1 (Nat.le_refl _) (by unfold maxLen; omega) rfl
      have HB6 := hid hb6
      have HL6 := hid hl6
      clear hw6 hb6 hl6 i5
      go_loopw [17, 18, 19, 20, 21, 22] (fun lv wv kv _ _ _ W => ∃ (k : Nat) (pl : List Int) (F : List FrameD), kv = .int .i64 k ∧ k ≤ 19 ∧ pl.length = (if k = 0 then 1 else k) ∧ (k = 0 → F = []) ∧ (1 ≤ k → symB M pl = true ∧ F = symF L PC pl 0 []) ∧ (∀ x ∈ pl, 0 ≤ x ∧ x ≤ 20000) ∧ F.length ≤ 10000 * k ∧ W.ownsRow wo.heap.size 3 1 lv pl.length (ints pl) ∧ W.ownsRow wo.heap.size 93 3 wv F.length (F.map frCells).flatten ∧ (∀ b, lv.ownBlock = some b → wv.ownBlock ≠ some b) ∧ Below wo.heap.size wo W) (fun _ _ kv _ _ _ _ => 19 - (intOf kv).toNat)
      case atStart =>
        exact ⟨0, [0], [], rfl, by omega, rfl, fun _ => rfl, fun h => by omega, fun x hx => by rw [List.mem_singleton.1 hx]; omega, by simp, HL6.out, World.ownsRow_nil _ _ _ _, fun b _ h => by simp [Value.ownBlock] at h, HB6.out⟩
      case round =>
        obtain ⟨k, pl, F, rfl, hk, hpl, hF0, hF1, hpx, hFl, hol, how, hdj, hbel⟩ := hrel
        have hsW := hbel.size
        obtain ⟨wva, wcap, rfl, hwc1, hwc2⟩ := owns_form how
        unfold maxLen at hwc2
        have hpp : 1 ≤ pl.length := by rw [hpl]; split <;> omega
        obtain ⟨lg, lcap, rfl⟩ : ∃ g c, u17 = Value.slice (some ⟨g, 0, none⟩) pl.length c := by
          rcases hol.2 with ⟨h1, h2⟩ | ⟨g, c', cur, h1, _⟩
          · omega
          · exact ⟨_, _, h1⟩
        obtain ⟨_, _, el, hlc1, hlc2⟩ := owns_form hol
        simp only [Value.slice.injEq] at el
        obtain ⟨-, -, rfl⟩ := el
        unfold maxLen at hlc2
        have hlg := hol.lt lg rfl
        have HCI := hid (HIC.out wr hbel)
        have HRD := hid (HRW.out wr hbel)
        have HOL := hid hol
        have HOW := hid how
        have HDJ := hid hdj
        have HBEL := hid hbel
        have HF1 := hid hF1
        have HF0 := hid hF0
        have HPX := hid hpx
        obtain ⟨ln, hln⟩ : ∃ v, v = pl.length := ⟨_, rfl⟩
        rw [← hln] at hpl hpp hlc1 HOL HDJ ⊢
        have HLNN := hid hln
        obtain ⟨fn, hfn⟩ : ∃ v, v = F.length := ⟨_, rfl⟩
        rw [← hfn] at hFl HOW HDJ hwc1 ⊢
        have HFN := hid hfn
        clear hol how hdj hbel hF1 hF0 hpx hln hfn
        by_cases hk0 : k = 0
        · subst hk0
          have hl1 : ln = 1 := by rw [hpl]; rfl
          have HL1 := hid hl1
          have HPL0 : Hid (∃ x, pl = [x]) := hid (List.length_eq_one_iff.1 (by rw [← HLNN.out, hl1]))
          obtain ⟨xp, hxp⟩ := HPL0.out
          clear HPL0
          have HPL0 := hid hxp
          clear hxp hl1 hpl
          by_cases hkr : 0 < rl
          · have hkr' : (0 : Int) < (rl : Int) := by omega
            have hk0' : decide (rl = 0) = false := by simp; omega
            obtain ⟨rb, roff, rfl, hrc'⟩ := HRD.out.open (by omega)
            have c9 := hrc' 0 hkr
            rw [Nat.add_zero] at c9
            have hrb : rb < wr.heap.size := World.block_lt_of_cell? wr _ c9
            have hR : R64 (raw.getD 0 0) := by
              have hl := HRD.out.hlen
              refine HRR.out _ ?_
              rw [List.getD, List.getElem?_eq_getElem (by omega)]
              exact List.getElem_mem _
            generalize raw.getD 0 0 = rv at *
            have HPK := hid (pick_any rv M wr hR.1 hR.2 (by omega) (by omega))
            have hpk := pickI_lt rv (n := M) (by omega)
            generalize pickI rv M = zz at *
            obtain ⟨z, rfl⟩ : ∃ v : Nat, zz = (v : Int) := ⟨zz.toNat, by omega⟩
            have hzM : z < M := by omega
            clear hrc' hR hpk
            go_wp2_with fail
            refine HPK.out.mono ?_
            rintro e w' ⟨rfl, he⟩
            rw [he]
            clear he w' HPK c9
            have HA := hid (HAL.out wr z HBEL.out hzM)
            obtain ⟨hfp, hfz⟩ := HFL.out z hzM
            have HFD : Hid (∃ v, v = frsD L PC z) := hid ⟨_, rfl⟩
            obtain ⟨FD, hFD⟩ := HFD.out
            rw [← hFD] at HA hfp hfz
            obtain ⟨mm, hmm⟩ : ∃ v, v = FD.length := ⟨_, rfl⟩
            rw [← hmm] at HA hfp hfz
            have HMM := hid hmm
            have HFDE := hid hFD
            have HNW : Hid ((FD.map frCells).flatten.length = mm * 3 ∧ ∀ u ∈ (FD.map frCells).flatten, u.oneCell' = true) := hid ⟨by rw [hmm]; exact frCells_len _, frCells_one _⟩
            have HRES : Hid ((F.map frCells).flatten ++ (FD.map frCells).flatten = ((F ++ FD).map frCells).flatten) := hid (by simp)
            generalize (FD.map frCells).flatten = NW at *
            obtain ⟨XS, hXS⟩ : ∃ v, v = (F.map frCells).flatten := ⟨_, rfl⟩
            rw [← hXS] at HOW HRES
            have c9 := HCI.out
            clear hFD hmm HFD hXS
            go_wp2_with fail
            refine HA.out.mono ?_
            rintro e w7 ⟨hb7, fa, fcap, rfl, hof⟩
            have hs7 := hb7.size
            obtain ⟨fg, rfl⟩ : ∃ g, fa = some ⟨g, 0, none⟩ := by
              rcases hof.2 with ⟨h1, h2⟩ | ⟨g, c', cur, h1, _⟩
              · omega
              · simp only [Value.slice.injEq] at h1; exact ⟨g, h1.1⟩
            have hfc : mm ≤ fcap ∧ fcap ≤ maxLen := by
              obtain ⟨_, _, e, h1, h2⟩ := owns_form hof
              simp only [Value.slice.injEq] at e
              obtain ⟨-, -, rfl⟩ := e
              exact ⟨h1, h2⟩
            obtain ⟨hfc1, hfc2⟩ := hfc
            unfold maxLen at hfc2
            have HOF := hid hof
            have HB7 := hid hb7
            have HL7 := hid (ownsRow_below HOL.out hb7)
            have HW7 := hid (ownsRow_below HOW.out hb7)
            obtain ⟨i0, hi, hz0, hz1, hz2⟩ := info_parts Tryd.infoFrame
            clear hof hb7 c9 HA
            go_wp2_with (at_builtin; refine wpList_append_lies _ rfl (.tmp 110) (.tmp 111) 45 rfl wo.heap.size 93 i0 (.agg #[.string ⟨#[]⟩, .string ⟨#[]⟩, .int .i64 0]) 3 40 Tryd.underlying45 hi hz0 hz1 hz2 rfl (by decide) _ _ _ rfl HW7.out ⟨fg, 0, none⟩ mm fcap NW rfl HNW.out.1 (fun j u hj => by rw [add_none9, Nat.zero_add, HOF.out.cellAt j (by have := (List.getElem?_eq_some_iff.1 hj).1; rw [HNW.out.1] at this; exact this)]; exact hj) HNW.out.2 (by omega) (by unfold maxLen; omega) (by omega) (by omega) _ rfl ?_)
            intro g' c' w8 hown8 hgrow8 hat8 hlt8
            have hb8 : Below wo.heap.size wo w8 := (HBEL.out.trans (HB7.out.mono hsW)).grown hgrow8 (by omega) (fun b hb => (HOW.out.lt b hb).1)
            have hl8 : w8.ownsRow wo.heap.size 3 1 (.slice (some ⟨lg, 0, none⟩) ln lcap) ln (ints pl) := HL7.out.kept hgrow8 (.inr (fun e => HDJ.out lg rfl e.symm))
            have hne8 : g' ≠ lg := by
              rcases hat8 with h | h
              · intro e; rw [e] at h; exact HDJ.out lg rfl h
              · intro e; rw [e] at h; have := hlg.2; omega
            rw [HRES.out] at hown8
            have HO8 := hid hown8
            have HB8 := hid hb8
            have HL8 := hid hl8
            have hs8 : wr.heap.size ≤ w8.heap.size := by have := hgrow8.size; omega
            have hlg8 := hl8.lt lg rfl
            clear hown8 hgrow8 hb8 hl8 hat8 hlt8 HOF HB7 HL7 HW7 hi hz0 hz1 hz2

            have l8 : w8.cell? ⟨lg, 0, none⟩ = some (.int .i64 xp) := by
              have h := HL8.out.cellAt 0 (by omega)
              rw [h, HPL0.out]
              rfl
            have fz8 := HL8.out.frozenAt 0
            have hlp0 : (0 : Int) < (ln : Int) := by omega
            go_wp2
            obtain ⟨w9, hw9⟩ : ∃ v, v = w8.setCell ⟨lg, 0, none⟩ (.int .i64 (z : Int)) := ⟨_, rfl⟩
            rw [← hw9]
            have hst := (HL8.out.stored 0 (.int .i64 (z : Int))).1
            have ho9 := ownsRow_setCell_other HO8.out (a := ⟨lg, 0, none⟩) (by simp [Value.ownBlock]; exact hne8) (.int .i64 (z : Int))
            have hb9 : Below wo.heap.size wo (w8.setCell ⟨lg, 0, none⟩ (.int .i64 (z : Int))) := HB8.out.setCell (p := ⟨lg, 0, none⟩) hlg8.1 _
            rw [← hw9] at hst ho9 hb9
            have e1 : (ints pl).set 0 (.int .i64 (z : Int)) = ints [(z : Int)] := by rw [HPL0.out]; rfl
            rw [e1] at hst
            have hF := HF0.out (by first | rfl | trivial)
            have HG1 := hid hst
            have HG2 := hid ho9
            have HG3 := hid hb9
            clear hst ho9 hb9 hw9 l8 fz8
            go_roundw
            case rel =>
              refine ⟨1, [(z : Int)], F ++ FD, by first | rfl | go_num, by omega, rfl, fun h => by omega, fun _ => ⟨?_, ?_⟩, fun x hx => by rw [List.mem_singleton.1 hx]; omega, ?_, ?_, ?_, fun b h1 h2 => hne8 (by simp [Value.ownBlock] at h1 h2; omega), HG3.out⟩
              · rw [symB_one, decide_eq_true_eq]; omega
              · rw [hF, List.nil_append, HFDE.out]; exact (symF_one L PC z).symm
              · rw [List.length_append, ← HMM.out, ← HFN.out]; omega
              · have e := HL1.out; rw [e] at HG1 ⊢; exact HG1.out
              · rw [List.length_append, ← HMM.out, ← HFN.out]; exact HG2.out
            case measure => simp [intOf]
          · have hr0 : rl = 0 := by omega
            subst hr0
            have hzM : 0 < M := by omega
            have HA := hid (HAL.out wr 0 HBEL.out hzM)
            rw [show ((0 : Nat) : Int) = 0 from rfl] at HA
            obtain ⟨hfp, hfz⟩ := HFL.out 0 hzM
            have HFD : Hid (∃ v, v = frsD L PC 0) := hid ⟨_, rfl⟩
            obtain ⟨FD, hFD⟩ := HFD.out
            rw [← hFD] at HA hfp hfz
            obtain ⟨mm, hmm⟩ : ∃ v, v = FD.length := ⟨_, rfl⟩
            rw [← hmm] at HA hfp hfz
            have HMM := hid hmm
            have HFDE := hid hFD
            have HNW : Hid ((FD.map frCells).flatten.length = mm * 3 ∧ ∀ u ∈ (FD.map frCells).flatten, u.oneCell' = true) := hid ⟨by rw [hmm]; exact frCells_len _, frCells_one _⟩
            have HRES : Hid ((F.map frCells).flatten ++ (FD.map frCells).flatten = ((F ++ FD).map frCells).flatten) := hid (by simp)
            generalize (FD.map frCells).flatten = NW at *
            obtain ⟨XS, hXS⟩ : ∃ v, v = (F.map frCells).flatten := ⟨_, rfl⟩
            rw [← hXS] at HOW HRES
            have c9 := HCI.out
            clear hFD hmm HFD hXS
            go_wp2_with fail
            refine HA.out.mono ?_
            rintro e w7 ⟨hb7, fa, fcap, rfl, hof⟩
            have hs7 := hb7.size
            obtain ⟨fg, rfl⟩ : ∃ g, fa = some ⟨g, 0, none⟩ := by
              rcases hof.2 with ⟨h1, h2⟩ | ⟨g, c', cur, h1, _⟩
              · omega
              · simp only [Value.slice.injEq] at h1; exact ⟨g, h1.1⟩
            have hfc : mm ≤ fcap ∧ fcap ≤ maxLen := by
              obtain ⟨_, _, e, h1, h2⟩ := owns_form hof
              simp only [Value.slice.injEq] at e
              obtain ⟨-, -, rfl⟩ := e
              exact ⟨h1, h2⟩
            obtain ⟨hfc1, hfc2⟩ := hfc
            unfold maxLen at hfc2
            have HOF := hid hof
            have HB7 := hid hb7
            have HL7 := hid (ownsRow_below HOL.out hb7)
            have HW7 := hid (ownsRow_below HOW.out hb7)
            obtain ⟨i0, hi, hz0, hz1, hz2⟩ := info_parts Tryd.infoFrame
            clear hof hb7 c9 HA
            go_wp2_with (at_builtin; refine wpList_append_lies _ rfl (.tmp 110) (.tmp 111) 45 rfl wo.heap.size 93 i0 (.agg #[.string ⟨#[]⟩, .string ⟨#[]⟩, .int .i64 0]) 3 40 Tryd.underlying45 hi hz0 hz1 hz2 rfl (by decide) _ _ _ rfl HW7.out ⟨fg, 0, none⟩ mm fcap NW rfl HNW.out.1 (fun j u hj => by rw [add_none9, Nat.zero_add, HOF.out.cellAt j (by have := (List.getElem?_eq_some_iff.1 hj).1; rw [HNW.out.1] at this; exact this)]; exact hj) HNW.out.2 (by omega) (by unfold maxLen; omega) (by omega) (by omega) _ rfl ?_)
            intro g' c' w8 hown8 hgrow8 hat8 hlt8
            have hb8 : Below wo.heap.size wo w8 := (HBEL.out.trans (HB7.out.mono hsW)).grown hgrow8 (by omega) (fun b hb => (HOW.out.lt b hb).1)
            have hl8 : w8.ownsRow wo.heap.size 3 1 (.slice (some ⟨lg, 0, none⟩) ln lcap) ln (ints pl) := HL7.out.kept hgrow8 (.inr (fun e => HDJ.out lg rfl e.symm))
            have hne8 : g' ≠ lg := by
              rcases hat8 with h | h
              · intro e; rw [e] at h; exact HDJ.out lg rfl h
              · intro e; rw [e] at h; have := hlg.2; omega
            rw [HRES.out] at hown8
            have HO8 := hid hown8
            have HB8 := hid hb8
            have HL8 := hid hl8
            have hs8 : wr.heap.size ≤ w8.heap.size := by have := hgrow8.size; omega
            have hlg8 := hl8.lt lg rfl
            clear hown8 hgrow8 hb8 hl8 hat8 hlt8 HOF HB7 HL7 HW7 hi hz0 hz1 hz2

            have l8 : w8.cell? ⟨lg, 0, none⟩ = some (.int .i64 xp) := by
              have h := HL8.out.cellAt 0 (by omega)
              rw [h, HPL0.out]
              rfl
            have fz8 := HL8.out.frozenAt 0
            have hlp0 : (0 : Int) < (ln : Int) := by omega
            go_wp2
            obtain ⟨w9, hw9⟩ : ∃ v, v = w8.setCell ⟨lg, 0, none⟩ (.int .i64 (0 : Int)) := ⟨_, rfl⟩
            rw [← hw9]
            have hst := (HL8.out.stored 0 (.int .i64 (0 : Int))).1
            have ho9 := ownsRow_setCell_other HO8.out (a := ⟨lg, 0, none⟩) (by simp [Value.ownBlock]; exact hne8) (.int .i64 (0 : Int))
            have hb9 : Below wo.heap.size wo (w8.setCell ⟨lg, 0, none⟩ (.int .i64 (0 : Int))) := HB8.out.setCell (p := ⟨lg, 0, none⟩) hlg8.1 _
            rw [← hw9] at hst ho9 hb9
            have e1 : (ints pl).set 0 (.int .i64 (0 : Int)) = ints [(0 : Int)] := by rw [HPL0.out]; rfl
            rw [e1] at hst
            have hF := HF0.out (by first | rfl | trivial)
            have HG1 := hid hst
            have HG2 := hid ho9
            have HG3 := hid hb9
            clear hst ho9 hb9 hw9 l8 fz8
            go_roundw
            case rel =>
              refine ⟨1, [(0 : Int)], F ++ FD, by first | rfl | go_num, by omega, rfl, fun h => by omega, fun _ => ⟨?_, ?_⟩, fun x hx => by rw [List.mem_singleton.1 hx]; omega, ?_, ?_, ?_, fun b h1 h2 => hne8 (by simp [Value.ownBlock] at h1 h2; omega), HG3.out⟩
              · rw [symB_one, decide_eq_true_eq]; omega
              · rw [hF, List.nil_append, HFDE.out]; exact (symF_one L PC 0).symm
              · rw [List.length_append, ← HMM.out, ← HFN.out]; omega
              · have e := HL1.out; rw [e] at HG1 ⊢; exact HG1.out
              · rw [List.length_append, ← HMM.out, ← HFN.out]; exact HG2.out
            case measure => simp [intOf]
        · by_cases hc : k < rl ∧ k < 19
          · obtain ⟨hkr, hk19⟩ := hc
            have hkr' : (k : Int) < (rl : Int) := by omega
            have hk19' : (k : Int) < 19 := by omega
            have hk0' : ((k : Int) == 0) = false := by simp; omega
            have HL1 := hid hpl
            have hln19 : ln ≤ 19 := by rw [hpl, if_neg hk0]; omega
            clear hpl
            obtain ⟨rb, roff, rfl, hrc'⟩ := HRD.out.open (by omega)
            have c9 := hrc' k hkr
            have hrb : rb < wr.heap.size := World.block_lt_of_cell? wr _ c9
            have hR : R64 (raw.getD k 0) := by
              have hl := HRD.out.hlen
              refine HRR.out _ ?_
              rw [List.getD, List.getElem?_eq_getElem (by omega)]
              exact List.getElem_mem _
            generalize raw.getD k 0 = rv at *
            have HPK := hid (pick_any rv M wr hR.1 hR.2 (by omega) (by omega))
            have hpk := pickI_lt rv (n := M) (by omega)
            generalize pickI rv M = zz at *
            obtain ⟨z, rfl⟩ : ∃ v : Nat, zz = (v : Int) := ⟨zz.toNat, by omega⟩
            have hzM : z < M := by omega
            clear hrc' hR hpk
            go_wp2_with fail
            refine HPK.out.mono ?_
            rintro e w' ⟨rfl, he⟩
            rw [he]
            clear he w' HPK c9
            have HA := hid (HAL.out wr z HBEL.out hzM)
            obtain ⟨hfp, hfz⟩ := HFL.out z hzM
            have HFD : Hid (∃ v, v = frsD L PC z) := hid ⟨_, rfl⟩
            obtain ⟨FD, hFD⟩ := HFD.out
            rw [← hFD] at HA hfp hfz
            obtain ⟨mm, hmm⟩ : ∃ v, v = FD.length := ⟨_, rfl⟩
            rw [← hmm] at HA hfp hfz
            have HMM := hid hmm
            have HFDE := hid hFD
            have HNW : Hid ((FD.map frCells).flatten.length = mm * 3 ∧ ∀ u ∈ (FD.map frCells).flatten, u.oneCell' = true) := hid ⟨by rw [hmm]; exact frCells_len _, frCells_one _⟩
            have HRES : Hid ((F.map frCells).flatten ++ (FD.map frCells).flatten = ((F ++ FD).map frCells).flatten) := hid (by simp)
            generalize (FD.map frCells).flatten = NW at *
            obtain ⟨XS, hXS⟩ : ∃ v, v = (F.map frCells).flatten := ⟨_, rfl⟩
            rw [← hXS] at HOW HRES
            have c9 := HCI.out
            clear hFD hmm HFD hXS
            go_wp2_with fail
            refine HA.out.mono ?_
            rintro e w7 ⟨hb7, fa, fcap, rfl, hof⟩
            have hs7 := hb7.size
            obtain ⟨fg, rfl⟩ : ∃ g, fa = some ⟨g, 0, none⟩ := by
              rcases hof.2 with ⟨h1, h2⟩ | ⟨g, c', cur, h1, _⟩
              · omega
              · simp only [Value.slice.injEq] at h1; exact ⟨g, h1.1⟩
            have hfc : mm ≤ fcap ∧ fcap ≤ maxLen := by
              obtain ⟨_, _, e, h1, h2⟩ := owns_form hof
              simp only [Value.slice.injEq] at e
              obtain ⟨-, -, rfl⟩ := e
              exact ⟨h1, h2⟩
            obtain ⟨hfc1, hfc2⟩ := hfc
            unfold maxLen at hfc2
            have HOF := hid hof
            have HB7 := hid hb7
            have HL7 := hid (ownsRow_below HOL.out hb7)
            have HW7 := hid (ownsRow_below HOW.out hb7)
            obtain ⟨i0, hi, hz0, hz1, hz2⟩ := info_parts Tryd.infoFrame
            clear hof hb7 c9 HA
            go_wp2_with (at_builtin; refine wpList_append_lies _ rfl (.tmp 110) (.tmp 111) 45 rfl wo.heap.size 93 i0 (.agg #[.string ⟨#[]⟩, .string ⟨#[]⟩, .int .i64 0]) 3 40 Tryd.underlying45 hi hz0 hz1 hz2 rfl (by decide) _ _ _ rfl HW7.out ⟨fg, 0, none⟩ mm fcap NW rfl HNW.out.1 (fun j u hj => by rw [add_none9, Nat.zero_add, HOF.out.cellAt j (by have := (List.getElem?_eq_some_iff.1 hj).1; rw [HNW.out.1] at this; exact this)]; exact hj) HNW.out.2 (by omega) (by unfold maxLen; omega) (by omega) (by omega) _ rfl ?_)
            intro g' c' w8 hown8 hgrow8 hat8 hlt8
            have hb8 : Below wo.heap.size wo w8 := (HBEL.out.trans (HB7.out.mono hsW)).grown hgrow8 (by omega) (fun b hb => (HOW.out.lt b hb).1)
            have hl8 : w8.ownsRow wo.heap.size 3 1 (.slice (some ⟨lg, 0, none⟩) ln lcap) ln (ints pl) := HL7.out.kept hgrow8 (.inr (fun e => HDJ.out lg rfl e.symm))
            have hne8 : g' ≠ lg := by
              rcases hat8 with h | h
              · intro e; rw [e] at h; exact HDJ.out lg rfl h
              · intro e; rw [e] at h; have := hlg.2; omega
            rw [HRES.out] at hown8
            have HO8 := hid hown8
            have HB8 := hid hb8
            have HL8 := hid hl8
            have hs8 : wr.heap.size ≤ w8.heap.size := by have := hgrow8.size; omega
            have hlg8 := hl8.lt lg rfl
            clear hown8 hgrow8 hb8 hl8 hat8 hlt8 HOF HB7 HL7 HW7 hi hz0 hz1 hz2

            obtain ⟨i1, hi1, hy0, hy1, hy2⟩ := info_parts Tryd.infoInt
            go_wp2_with (at_builtin; refine wpList_append_lies _ rfl (.tmp 118) (.tmp 121) 41 rfl wo.heap.size 3 i1 (.int .i64 0) 1 8 Tryd.underlying41 hi1 hy0 hy1 hy2 rfl (by decide) _ _ _ rfl (HL8.out.alloc _) ⟨w8.heap.size, 0, none⟩ 1 1 [.int .i64 _] rfl rfl (new1_at rfl _ _) (one1 _) (by decide) (by unfold maxLen; omega) (by omega) (by simp; omega) _ rfl ?_)
            intro g9 c9 w9 hown9 hgrow9 hat9 hlt9
            have hb9 : Below wo.heap.size wo w9 := (HB8.out.alloc (by omega) _).grown hgrow9 (by simp; omega) (fun b hb => (HL8.out.lt b hb).1)
            have ho9 := (HO8.out.alloc (.cells #[.int .i64 ((z : Int) + 1)] 3)).kept hgrow9 (.inr (fun e => by simp [Value.ownBlock] at e; exact hne8 e))
            have hg8 := (HO8.out.lt g' rfl).2
            have hne9 : g9 ≠ g' := by
              rcases hat9 with h | h
              · intro e; simp [Value.ownBlock] at h; exact hne8 (by rw [← e, h])
              · intro e; first | omega | (simp at h; omega)
            have HG1 := hid hown9
            have HG2 := hid ho9
            have HG3 := hid hb9
            have hf1 := HF1.out (by omega)
            clear hown9 ho9 hb9 hat9 hlt9 hgrow9
            go_wp2
            go_roundw
            case rel =>
              refine ⟨k + 1, pl ++ [((z + 1 : Nat) : Int)], F ++ FD, by go_num, by omega, by rw [List.length_append, ← HLNN.out, HL1.out, if_neg (by omega)]; rfl, fun h => by omega, fun _ => ⟨?_, ?_⟩, fun x hx => ?_, ?_, ?_, ?_, fun b h1 h2 => hne9 (by simp [Value.ownBlock] at h1 h2; omega), HG3.out⟩
              · rw [symB_snoc (by rw [← HLNN.out]; omega) hf1.1 (by rw [← HLNN.out]; omega), decide_eq_true_eq]; omega
              · rw [symF_app, ← hf1.2, HFDE.out]
                congr 2
                have : shiftD (0 + pl.length) = 1 := by unfold shiftD; rw [if_neg (by rw [← HLNN.out]; omega)]
                rw [this]; omega
              · rcases List.mem_append.1 hx with h | h
                · exact HPX.out x h
                · rw [List.mem_singleton.1 h]; omega
              · rw [List.length_append, ← HMM.out, ← HFN.out]; omega
              · rw [List.length_append, ← HLNN.out]; simpa [ints] using HG1.out
              · rw [List.length_append, ← HMM.out, ← HFN.out]; exact HG2.out
            case measure => simp [intOf]; omega
          · have hkl : k = ln := by rw [hpl, if_neg hk0]
            have hf1 := HF1.out (by omega)
            obtain ⟨hsb, hfe⟩ := hf1
            have hx1 : ((k : Int) == 0) = false := by simp; omega
            have hx3 : decide ((k : Int) < (rl : Int)) = false ∨ (decide ((k : Int) < (rl : Int)) = true ∧ decide ((k : Int) < 19) = false) := by
              by_cases h1 : k < rl
              · exact .inr ⟨by simp; omega, by simp; omega⟩
              · exact .inl (by simp; omega)
            obtain ⟨a', c', ea, hrl⟩ := rdI_owns HOL.out
            cases ea
            have hsf := HSY.out wr (some ⟨lg, 0, none⟩) lcap pl HBEL.out (by rw [← HLNN.out]; exact hrl) (fun x hx => by have := HPX.out x hx; exact ⟨by omega, by omega⟩)
            rw [← hfe, ← HFN.out, hsb, ← HLNN.out] at hsf
            have HS1 := hid hsf
            have HSB := hid hsb
            have hln19 : ln ≤ 19 := by omega
            have HEX : Hid (∀ (W : World) (la : Option Addr) (lcap : Nat) (l : List Int), Below wo.heap.size wo W → Rd .i64 W la l.length lcap l → (∀ x ∈ l, R64 x) → symB M l = false → Calls Tryd.prog 25 #[.slice (some ⟨bb, boff, none⟩) N bcap, .slice la l.length lcap] W fun e w' => Below W.heap.size W w' ∧ e = .returned (.tuple #[.slice none 0 0, .int .i64 9])) := hid (fun W la lcap l hW hl hr hs => by
              refine (HSY.out W la lcap l hW hl hr).mono ?_
              rintro e w' ⟨h1, ⟨-, h2⟩ | ⟨h2, -⟩⟩
              · exact ⟨h1, h2⟩
              · rw [hs] at h2; cases h2)
            clear hkl hsf hsb hrl hpl hc HAL HSY HFL HRW HCI HRD HIC HF1 HF0
            have hcond : ∀ (b1 b2 : Bool), b1 = decide ((k : Int) < (rl : Int)) → b2 = decide ((k : Int) < 19) → (b1 && b2) = false := fun b1 b2 h1 h2 => by
              rw [h1, h2]
              rcases hx3 with h | ⟨h, h'⟩
              · rw [h]; rfl
              · rw [h, h']; rfl
            rcases hx3 with hx3 | ⟨hx3, hx4⟩
            · clear hcond
              have hx5 : rl ≤ k := by simpa using hx3
              have hx6 : ¬ ((k : Int) < (rl : Int)) := by omega
              go_wp2_with fail
              refine HS1.out.mono ?_
              rintro e w7 ⟨hb7, ⟨h, -⟩ | ⟨-, xa, xcap, rfl, hox⟩⟩
              · cases h
              have hs7 := hb7.size
              have hB7 : Below wo.heap.size wo w7 := HBEL.out.trans (hb7.mono hsW)
              have hl7 := ownsRow_below HOL.out hb7
              have hw7 := ownsRow_below HOW.out hb7
              have hrx : RdL 3 RdFrame w7 xa fn xcap F := by rw [HFN.out] at hox ⊢; exact rdF_owns hox
              have hrw : RdL 3 RdFrame w7 wva fn wcap F := by rw [HFN.out] at hw7 ⊢; exact rdF_owns hw7
              have HSM := hid (kSame_any xa fn xcap F wva wcap w7 hrx hrw)
              have hxc1 := hrx.2.1
              have hxc2 := hrx.2.2.1
              unfold maxLen at hxc2
              have HB7 := hid hB7
              have HL7 := hid hl7
              clear hb7 hB7 hl7 hw7 hrx hrw hox HS1 HOL HOW
              go_wp2_with fail
              refine HSM.out.mono ?_
              rintro e w8 ⟨rfl, hb8⟩
              have hs8 := hb8.size
              have hB8 : Below wo.heap.size wo w8 := HB7.out.trans (hb8.mono HB7.out.size)
              have HL8 := hid (ownsRow_below HL7.out hb8)
              obtain ⟨w9, hw9⟩ : ∃ v, v = w8.alloc (Obj.cells #[.int .i64 (M : Int)] 3) := ⟨_, rfl⟩
              have hb9 : Below w8.heap.size w8 w9 := by rw [hw9]; exact (Below.refl _ _).alloc (Nat.le_refl _) _
              have hs9 : w9.heap.size = w8.heap.size + 1 := by rw [hw9]; simp
              have k9 : w9.heap[w8.heap.size]? = some (.cells #[.int .i64 (M : Int)] 3 (0, 0)) := by rw [hw9]; exact heap_new_at rfl
              have hB9 : Below wo.heap.size wo w9 := hB8.trans (hb9.mono hB8.size)
              have HS2 := hid (HEX.out w9 (some ⟨w8.heap.size, 0, none⟩) 1 [(M : Int)] hB9 (rd_single k9) (fun x hx => by rw [List.mem_singleton.1 hx]; exact ⟨by omega, by omega⟩) (by rw [symB_one, decide_eq_false_iff_not]; omega))
              have HL9 := hid (ownsRow_below HL8.out hb9)
              have HB9 := hid hB9
              clear hb8 hB8 hb9 k9 hB9 HSM HL7 HL8
              go_wp2_with fail
              rw [← hw9]
              clear hw9
              refine HS2.out.mono ?_
              rintro e w10 ⟨hb10, rfl⟩
              have hs10 := hb10.size
              have hB10 : Below wo.heap.size wo w10 := HB9.out.trans (hb10.mono HB9.out.size)
              have hl10 := ownsRow_below HL9.out hb10
              obtain ⟨w11, hw11⟩ : ∃ v, v = w10.alloc (Obj.cells #[.int .i64 (-1)] 3) := ⟨_, rfl⟩
              have hb11 : Below w10.heap.size w10 w11 := by rw [hw11]; exact (Below.refl _ _).alloc (Nat.le_refl _) _
              have hs11 : w11.heap.size = w10.heap.size + 1 := by rw [hw11]; simp
              have k11 : w11.heap[w10.heap.size]? = some (.cells #[.int .i64 (-1)] 3 (0, 0)) := by rw [hw11]; exact heap_new_at rfl
              have hB11 : Below wo.heap.size wo w11 := hB10.trans (hb11.mono hB10.size)
              have HS3 := hid (HEX.out w11 (some ⟨w10.heap.size, 0, none⟩) 1 [(-1 : Int)] hB11 (rd_single k11) (fun x hx => by rw [List.mem_singleton.1 hx]; exact ⟨by omega, by omega⟩) (by rw [symB_one, decide_eq_false_iff_not]; omega))
              have HL11 := hid (ownsRow_below hl10 hb11)
              have HB11 := hid hB11
              clear hb10 hB10 hl10 hb11 k11 hB11 HS2 HL9
              go_wp2_with fail
              rw [← hw11]
              clear hw11
              refine HS3.out.mono ?_
              rintro e w12 ⟨hb12, rfl⟩
              have hs12 := hb12.size
              have hB12 : Below wo.heap.size wo w12 := HB11.out.trans (hb12.mono HB11.out.size)
              have hl12 := ownsRow_below HL11.out hb12
              obtain ⟨i1, hi1, hy0, hy1, hy2⟩ := info_parts Tryd.infoInt
              have HB12 := hid hB12
              have HL12 := hid hl12
              clear hb12 hB12 hl12 HS3 HL11
              go_wp2_with (at_builtin; refine wpList_append_lies _ rfl (.tmp 145) (.tmp 148) 41 rfl wo.heap.size 3 i1 (.int .i64 0) 1 8 Tryd.underlying41 hi1 hy0 hy1 hy2 rfl (by decide) _ _ _ rfl (HL12.out.alloc _) ⟨w12.heap.size, 0, none⟩ 1 1 [.int .i64 _] rfl rfl (new1_at rfl _ _) (one1 _) (by decide) (by unfold maxLen; omega) (by omega) (by simp; omega) _ rfl ?_)
              intro g13 c13 w13 hown13 hgrow13 hat13 hlt13
              have hb13 : Below wo.heap.size wo w13 := (HB12.out.alloc (by omega) _).grown hgrow13 (by simp; omega) (fun b hb => (HL12.out.lt b hb).1)
              have hr13 : w13.ownsRow wo.heap.size 3 1 (.slice (some ⟨g13, 0, none⟩) (ln + 1) c13) (ln + 1) (ints (pl ++ [(M : Int) + 1])) := by
                have h := hown13
                simpa [ints] using h
              obtain ⟨a13, d13, e13, hd13⟩ := rdI_owns hr13
              cases e13
              have hx13 : ∀ x ∈ pl, R64 x := fun x hx => by have := HPX.out x hx; exact ⟨by omega, by omega⟩
              have HS4 := hid (HEX.out w13 (some ⟨g13, 0, none⟩) c13 (pl ++ [(M : Int) + 1]) hb13 (by rw [List.length_append, ← HLNN.out]; exact hd13) (fun x hx => by
                rcases List.mem_append.1 hx with h | h
                · exact hx13 x h
                · rw [List.mem_singleton.1 h]; exact ⟨by omega, by omega⟩) (by rw [symB_snoc (by rw [← HLNN.out]; omega) HSB.out (by rw [← HLNN.out]; omega), decide_eq_false_iff_not]; omega))
              rw [List.length_append, ← HLNN.out] at HS4
              have hg13 := hr13.lt g13 rfl
              have hc13 := hd13.hcap
              have hc13' := hd13.hmax
              unfold maxLen at hc13'
              have HB13 := hid hb13
              have HR13 := hid hr13
              clear hown13 hgrow13 hat13 hlt13 hb13 hr13 hd13 hx13 HL12 hi1 hy0 hy1 hy2
              go_wp2_with fail
              refine HS4.out.mono ?_
              rintro e w14 ⟨hb14, rfl⟩
              have hs14 := hb14.size
              have hB14 : Below wo.heap.size wo w14 := HB13.out.trans (hb14.mono HB13.out.size)
              have hr14 := ownsRow_below HR13.out hb14
              have l14 : w14.cell? ⟨g13, ln, none⟩ = some (.int .i64 ((M : Int) + 1)) := by
                have h := hr14.cellAt ln (by omega)
                rw [h]
                simp [ints, HLNN.out]
              have f14 := hr14.frozenAt ln
              obtain ⟨w15, hw15⟩ : ∃ v, v = w14.setCell ⟨g13, ln, none⟩ (.int .i64 0) := ⟨_, rfl⟩
              have hst := (hr14.stored ln (.int .i64 0)).1
              have e15 : (ints (pl ++ [(M : Int) + 1])).set ln (.int .i64 0) = ints (pl ++ [(0 : Int)]) := by
                rw [HLNN.out]
                simp [ints]
              rw [e15, ← hw15] at hst
              have hb15 : Below wo.heap.size wo w15 := by rw [hw15]; exact hB14.setCell (p := ⟨g13, ln, none⟩) hg13.1 _
              obtain ⟨a15, d15, q15, hd15⟩ := rdI_owns hst
              cases q15
              have HS5 := hid (HEX.out w15 (some ⟨g13, 0, none⟩) c13 (pl ++ [(0 : Int)]) hb15 (by rw [List.length_append, ← HLNN.out]; exact hd15) (fun x hx => by
                rcases List.mem_append.1 hx with h | h
                · have := HPX.out x h; exact ⟨by omega, by omega⟩
                · rw [List.mem_singleton.1 h]; exact ⟨by omega, by omega⟩) (by rw [symB_snoc (by rw [← HLNN.out]; omega) HSB.out (by rw [← HLNN.out]; omega), decide_eq_false_iff_not]; omega))
              rw [List.length_append, ← HLNN.out] at HS5
              have HB15 := hid hb15
              have hwl : IntKind.i64.wrap (((ln + 1 : Nat) : Int) - 1) = (ln : Int) := by rw [IntKind.wrap_i64]; omega
              have hwl2 : ((ln + 1 : Nat) : Int) - 1 = (ln : Int) := by omega
              have hwl3 : (ln : Int) < ((ln + 1 : Nat) : Int) := by omega
              clear hb14 hB14 hr14 hst hb15 hd15 e15 HS4 HR13
              go_wp2_with fail
              rw [← hw15]
              clear hw15 l14 f14
              refine HS5.out.mono ?_
              rintro e w16 ⟨hb16, rfl⟩
              have HF := hid (HFIN.out w16 (HB15.out.trans (hb16.mono HB15.out.size)))
              clear hb16 HS5
              go_wp2
              go_ret
              exact ⟨by simp, HF.out⟩
            · clear hcond
              have hx5 : k < rl := by simpa using hx3
              have hx5' : (k : Int) < (rl : Int) := by omega
              have hx6 : 19 ≤ k := by
                have := of_decide_eq_false hx4
                omega
              have hx7 : ¬ ((k : Int) < 19) := by omega
              go_wp2_with fail
              refine HS1.out.mono ?_
              rintro e w7 ⟨hb7, ⟨h, -⟩ | ⟨-, xa, xcap, rfl, hox⟩⟩
              · cases h
              have hs7 := hb7.size
              have hB7 : Below wo.heap.size wo w7 := HBEL.out.trans (hb7.mono hsW)
              have hl7 := ownsRow_below HOL.out hb7
              have hw7 := ownsRow_below HOW.out hb7
              have hrx : RdL 3 RdFrame w7 xa fn xcap F := by rw [HFN.out] at hox ⊢; exact rdF_owns hox
              have hrw : RdL 3 RdFrame w7 wva fn wcap F := by rw [HFN.out] at hw7 ⊢; exact rdF_owns hw7
              have HSM := hid (kSame_any xa fn xcap F wva wcap w7 hrx hrw)
              have hxc1 := hrx.2.1
              have hxc2 := hrx.2.2.1
              unfold maxLen at hxc2
              have HB7 := hid hB7
              have HL7 := hid hl7
              clear hb7 hB7 hl7 hw7 hrx hrw hox HS1 HOL HOW
              go_wp2_with fail
              refine HSM.out.mono ?_
              rintro e w8 ⟨rfl, hb8⟩
              have hs8 := hb8.size
              have hB8 : Below wo.heap.size wo w8 := HB7.out.trans (hb8.mono HB7.out.size)
              have HL8 := hid (ownsRow_below HL7.out hb8)
              obtain ⟨w9, hw9⟩ : ∃ v, v = w8.alloc (Obj.cells #[.int .i64 (M : Int)] 3) := ⟨_, rfl⟩
              have hb9 : Below w8.heap.size w8 w9 := by rw [hw9]; exact (Below.refl _ _).alloc (Nat.le_refl _) _
              have hs9 : w9.heap.size = w8.heap.size + 1 := by rw [hw9]; simp
              have k9 : w9.heap[w8.heap.size]? = some (.cells #[.int .i64 (M : Int)] 3 (0, 0)) := by rw [hw9]; exact heap_new_at rfl
              have hB9 : Below wo.heap.size wo w9 := hB8.trans (hb9.mono hB8.size)
              have HS2 := hid (HEX.out w9 (some ⟨w8.heap.size, 0, none⟩) 1 [(M : Int)] hB9 (rd_single k9) (fun x hx => by rw [List.mem_singleton.1 hx]; exact ⟨by omega, by omega⟩) (by rw [symB_one, decide_eq_false_iff_not]; omega))
              have HL9 := hid (ownsRow_below HL8.out hb9)
              have HB9 := hid hB9
              clear hb8 hB8 hb9 k9 hB9 HSM HL7 HL8
              go_wp2_with fail
              rw [← hw9]
              clear hw9
              refine HS2.out.mono ?_
              rintro e w10 ⟨hb10, rfl⟩
              have hs10 := hb10.size
              have hB10 : Below wo.heap.size wo w10 := HB9.out.trans (hb10.mono HB9.out.size)
              have hl10 := ownsRow_below HL9.out hb10
              obtain ⟨w11, hw11⟩ : ∃ v, v = w10.alloc (Obj.cells #[.int .i64 (-1)] 3) := ⟨_, rfl⟩
              have hb11 : Below w10.heap.size w10 w11 := by rw [hw11]; exact (Below.refl _ _).alloc (Nat.le_refl _) _
              have hs11 : w11.heap.size = w10.heap.size + 1 := by rw [hw11]; simp
              have k11 : w11.heap[w10.heap.size]? = some (.cells #[.int .i64 (-1)] 3 (0, 0)) := by rw [hw11]; exact heap_new_at rfl
              have hB11 : Below wo.heap.size wo w11 := hB10.trans (hb11.mono hB10.size)
              have HS3 := hid (HEX.out w11 (some ⟨w10.heap.size, 0, none⟩) 1 [(-1 : Int)] hB11 (rd_single k11) (fun x hx => by rw [List.mem_singleton.1 hx]; exact ⟨by omega, by omega⟩) (by rw [symB_one, decide_eq_false_iff_not]; omega))
              have HL11 := hid (ownsRow_below hl10 hb11)
              have HB11 := hid hB11
              clear hb10 hB10 hl10 hb11 k11 hB11 HS2 HL9
              go_wp2_with fail
              rw [← hw11]
              clear hw11
              refine HS3.out.mono ?_
              rintro e w12 ⟨hb12, rfl⟩
              have hs12 := hb12.size
              have hB12 : Below wo.heap.size wo w12 := HB11.out.trans (hb12.mono HB11.out.size)
              have hl12 := ownsRow_below HL11.out hb12
              obtain ⟨i1, hi1, hy0, hy1, hy2⟩ := info_parts Tryd.infoInt
              have HB12 := hid hB12
              have HL12 := hid hl12
              clear hb12 hB12 hl12 HS3 HL11
              go_wp2_with (at_builtin; refine wpList_append_lies _ rfl (.tmp 145) (.tmp 148) 41 rfl wo.heap.size 3 i1 (.int .i64 0) 1 8 Tryd.underlying41 hi1 hy0 hy1 hy2 rfl (by decide) _ _ _ rfl (HL12.out.alloc _) ⟨w12.heap.size, 0, none⟩ 1 1 [.int .i64 _] rfl rfl (new1_at rfl _ _) (one1 _) (by decide) (by unfold maxLen; omega) (by omega) (by simp; omega) _ rfl ?_)
              intro g13 c13 w13 hown13 hgrow13 hat13 hlt13
              have hb13 : Below wo.heap.size wo w13 := (HB12.out.alloc (by omega) _).grown hgrow13 (by simp; omega) (fun b hb => (HL12.out.lt b hb).1)
              have hr13 : w13.ownsRow wo.heap.size 3 1 (.slice (some ⟨g13, 0, none⟩) (ln + 1) c13) (ln + 1) (ints (pl ++ [(M : Int) + 1])) := by
                have h := hown13
                simpa [ints] using h
              obtain ⟨a13, d13, e13, hd13⟩ := rdI_owns hr13
              cases e13
              have hx13 : ∀ x ∈ pl, R64 x := fun x hx => by have := HPX.out x hx; exact ⟨by omega, by omega⟩
              have HS4 := hid (HEX.out w13 (some ⟨g13, 0, none⟩) c13 (pl ++ [(M : Int) + 1]) hb13 (by rw [List.length_append, ← HLNN.out]; exact hd13) (fun x hx => by
                rcases List.mem_append.1 hx with h | h
                · exact hx13 x h
                · rw [List.mem_singleton.1 h]; exact ⟨by omega, by omega⟩) (by rw [symB_snoc (by rw [← HLNN.out]; omega) HSB.out (by rw [← HLNN.out]; omega), decide_eq_false_iff_not]; omega))
              rw [List.length_append, ← HLNN.out] at HS4
              have hg13 := hr13.lt g13 rfl
              have hc13 := hd13.hcap
              have hc13' := hd13.hmax
              unfold maxLen at hc13'
              have HB13 := hid hb13
              have HR13 := hid hr13
              clear hown13 hgrow13 hat13 hlt13 hb13 hr13 hd13 hx13 HL12 hi1 hy0 hy1 hy2
              go_wp2_with fail
              refine HS4.out.mono ?_
              rintro e w14 ⟨hb14, rfl⟩
              have hs14 := hb14.size
              have hB14 : Below wo.heap.size wo w14 := HB13.out.trans (hb14.mono HB13.out.size)
              have hr14 := ownsRow_below HR13.out hb14
              have l14 : w14.cell? ⟨g13, ln, none⟩ = some (.int .i64 ((M : Int) + 1)) := by
                have h := hr14.cellAt ln (by omega)
                rw [h]
                simp [ints, HLNN.out]
              have f14 := hr14.frozenAt ln
              obtain ⟨w15, hw15⟩ : ∃ v, v = w14.setCell ⟨g13, ln, none⟩ (.int .i64 0) := ⟨_, rfl⟩
              have hst := (hr14.stored ln (.int .i64 0)).1
              have e15 : (ints (pl ++ [(M : Int) + 1])).set ln (.int .i64 0) = ints (pl ++ [(0 : Int)]) := by
                rw [HLNN.out]
                simp [ints]
              rw [e15, ← hw15] at hst
              have hb15 : Below wo.heap.size wo w15 := by rw [hw15]; exact hB14.setCell (p := ⟨g13, ln, none⟩) hg13.1 _
              obtain ⟨a15, d15, q15, hd15⟩ := rdI_owns hst
              cases q15
              have HS5 := hid (HEX.out w15 (some ⟨g13, 0, none⟩) c13 (pl ++ [(0 : Int)]) hb15 (by rw [List.length_append, ← HLNN.out]; exact hd15) (fun x hx => by
                rcases List.mem_append.1 hx with h | h
                · have := HPX.out x h; exact ⟨by omega, by omega⟩
                · rw [List.mem_singleton.1 h]; exact ⟨by omega, by omega⟩) (by rw [symB_snoc (by rw [← HLNN.out]; omega) HSB.out (by rw [← HLNN.out]; omega), decide_eq_false_iff_not]; omega))
              rw [List.length_append, ← HLNN.out] at HS5
              have HB15 := hid hb15
              have hwl : IntKind.i64.wrap (((ln + 1 : Nat) : Int) - 1) = (ln : Int) := by rw [IntKind.wrap_i64]; omega
              have hwl2 : ((ln + 1 : Nat) : Int) - 1 = (ln : Int) := by omega
              have hwl3 : (ln : Int) < ((ln + 1 : Nat) : Int) := by omega
              clear hb14 hB14 hr14 hst hb15 hd15 e15 HS4 HR13
              go_wp2_with fail
              rw [← hw15]
              clear hw15 l14 f14
              refine HS5.out.mono ?_
              rintro e w16 ⟨hb16, rfl⟩
              have HF := hid (HFIN.out w16 (HB15.out.trans (hb16.mono HB15.out.size)))
              clear hb16 HS5
              go_wp2
              go_ret
              exact ⟨by simp, HF.out⟩
end Go.Proofs.YtebjndcokkefhaaDoor
