/- Contracts of machine.Trace, unfold.Trace and unfold.Print, where all is well. The contract of unfoldkeep's alone. -/
import Derived.Test.YtebjndcokkefhaaDoorZ43
import Derived.Test.YtebjndcokkefhaaDoorZ38
import Derived.Test.YtebjndcokkefhaaDoorZ41
import Derived.Test.YtebjndcokkefhaaDoorZ42
namespace Go.Proofs.YtebjndcokkefhaaDoor
open Go.RowKit

theorem told_ok {p : List FnD} (hc : chk p = (0, 0, 0)) {s : StandD} (hw : Wf p s) : ∀ f ∈ toldD p s, FrOk f := fun f hf => by
  unfold toldD at hf
  obtain ⟨x, hx, rfl⟩ := List.mem_map.1 hf
  have hx' : x ∈ s.live := by simpa using hx
  have hwx := hw.live x hx'
  have hh := heads_of hc _ _ (fnOf_some hwx)
  unfold headB at hh
  simp only [Bool.and_eq_true] at hh
  have hl := (hwx.opOk (good_of hc)).line
  exact ⟨⟨hh.2.2.1.1, (wordB_bd hh.2.2.1.1).2⟩, ⟨hh.2.2.1.2, (wordB_bd hh.2.2.1.2).2⟩, hl.1, hl.2⟩
theorem rdF_owns {w : World} {base : Nat} {a : Option Addr} {cap : Nat} {fr : List FrameD} (h : w.ownsRow base 93 3 (.slice a fr.length cap) fr.length (fr.map frCells).flatten) : RdL 3 RdFrame w a fr.length cap fr := by
  have hb : RdBut 3 RdFrame (fun _ => False) w (fr.map frCells) fr := ⟨by simp, fun i cs x h1 h2 => by
    rw [List.getElem?_map, h2] at h1
    obtain rfl : frCells x = cs := by simpa using h1
    exact ⟨rfl, fun _ _ => rfl⟩⟩
  obtain ⟨a', cap', e, hr⟩ := hb.rd h
  cases e
  exact hr

set_option maxHeartbeats 2000000 in
set_option maxRecDepth 100000 in
theorem uPrint_any (a : Option Addr) (cap : Nat) (fr : List FrameD) (w : World) (hr : RdL 3 RdFrame w a fr.length cap fr) (hok : ∀ f ∈ fr, FrOk f) (h20 : fr.length ≤ 20) (ht : Tab w) :
    Calls Tryd.prog 17 #[.slice a fr.length cap] w fun e w' => e = .returned (.tuple #[.string (strOfNums (printD fr)), .int .i64 0]) ∧ Below w.heap.size w w' := by
  have HP := hid (fPrint_any a cap fr w hr hok h20 ht)
  generalize strOfNums (printD fr) = s at *
  generalize fr.length = n at *
  clear hr hok ht
  go_enter Tryd.func17, Tryd.ntmps17
  go_wp2_with fail
  refine HP.out.mono ?_
  rintro e w1 ⟨rfl, hb⟩
  go_wp2
  exact bodyPost_ret (v := .tuple #[.string s, .int .i64 0]) (by simp [results, Tryd.results17, go_sem]) rfl ⟨rfl, hb⟩

set_option maxHeartbeats 4000000 in
set_option maxRecDepth 100000 in
theorem mTrace_any (pa : Option Addr) (pcap : Nat) (p : List FnD) (bud : Int) (aa : Option Addr) (acap : Nat) (args : List Int) (n : Nat) (w : World) (hp : RdP w pa p.length pcap p) (ha : Rd .i64 w aa args.length acap args)
    (hc : chk p = (0, 0, 0)) (hg : givenB p args = true) (hn : n ≤ 2000) (hb : R64 bud) (hl : layE p bud = 0) (ht : Tab w) :
    Calls Tryd.prog 29 #[.agg #[.slice pa p.length pcap], .int .i64 bud, .slice aa args.length acap, .int .i64 n] w fun e w' =>
      e = .returned (.tuple #[.string (strOfNums (printD (toldD p (runD p (begunD p args) n)))), .int .i64 0]) ∧ Below w.heap.size w w' := by
  obtain ⟨wA, hwA⟩ : ∃ v, v = w.alloc (Obj.cells #[.slice pa p.length pcap] 24) := ⟨_, rfl⟩
  have hbA : Below w.heap.size w wA := by rw [hwA]; exact (Below.refl _ _).alloc (Nat.le_refl _) _
  have hsA : wA.heap.size = w.heap.size + 1 := by rw [hwA]; simp
  have kA : wA.heap[w.heap.size]? = some (.cells #[.slice pa p.length pcap] 24 (0, 0)) := by rw [hwA]; exact heap_new_at rfl
  have hgt := given_true hg
  have hwN : Wf p (runD p (begunD p args) n) := wf_run (good_of hc) (wf_begun (good_of hc) hgt.1 hgt.2) n
  have hre : runE p args (n : Int) = 0 := by
    unfold runE
    rw [hc, hg]
    simp
    omega
  have hrs : runS p args (n : Int) = runD p (begunD p args) n := by
    unfold runS
    rw [if_pos hre]
    rfl
  have HRUN := hid (Behind_any pa pcap p aa acap args (n : Int) wA (hp.below hbA) (ha.below hbA (Nat.le_refl _)) ⟨by omega, by omega⟩)
  rw [hre, hrs] at HRUN
  have HLAY := hid (fun (W : World) (hW : Below w.heap.size w W) => Lay_any pa pcap p bud W (hp.below hW) hb)
  have HOK := hid (told_ok hc hwN)
  have HFL : Hid ((toldD p (runD p (begunD p args) n)).length ≤ 20) := hid (by have := hwN.len; unfold toldD; simpa using this)
  have HT := hid ht
  have HKA := hid kA
  have HBA := hid hbA
  have HL := hid hl
  generalize toldD p (runD p (begunD p args) n) = fr at *
  generalize runD p (begunD p args) n = sN at *
  generalize p.length = pl at *
  generalize args.length = al at *
  clear hp ha hc hg hl ht kA hbA hwN hre hrs hgt
  go_enter Tryd.func29, Tryd.ntmps29
  go_wp2_with fail
  rw [← hwA]
  clear hwA
  refine HRUN.out.mono ?_
  rintro e w1 ⟨fa, fcap, rfl, hfo, hb1⟩
  have hs1 := hb1.size
  obtain ⟨w2, hw2⟩ : ∃ v, v = w1.alloc (Obj.cells #[.int .i64 sN.status, .int .i64 sN.value, .slice fa fr.length fcap] 47) := ⟨_, rfl⟩
  have hb2 : Below w1.heap.size w1 w2 := by rw [hw2]; exact (Below.refl _ _).alloc (Nat.le_refl _) _
  have hs2 : w2.heap.size = w1.heap.size + 1 := by rw [hw2]; simp
  have k2 : w2.heap[w1.heap.size]? = some (.cells #[.int .i64 sN.status, .int .i64 sN.value, .slice fa fr.length fcap] 47 (0, 0)) := by rw [hw2]; exact heap_new_at rfl
  have hbA2 : Below wA.heap.size wA w2 := hb1.trans (hb2.mono hs1)
  have kA1 := (hb1.block w.heap.size (by omega)).trans HKA.out
  have p1 : w1.cell? ⟨w.heap.size, 0, none⟩ = some (.slice pa pl pcap) := by simp [World.cell?, kA1]
  have hlt : w.heap.size < w1.heap.size := by omega
  have hbw2 : Below w.heap.size w w2 := HBA.out.trans (hbA2.mono HBA.out.size)
  have HLY := hid (HLAY.out w2 hbw2)
  have HFR2 := hid (rdF_owns (ownsRow_below hfo hb2))
  have HBW2 := hid hbw2
  have HK2 := hid k2
  clear hfo hb1 hb2 k2 hbA2 kA1 hbw2 HRUN HLAY
  go_wp2_with fail
  rw [← hw2]
  clear hw2 p1
  refine HLY.out.mono ?_
  rintro e w3 ⟨hb3, hcase⟩
  rcases hcase with ⟨h, -⟩ | ⟨-, cs, ca, ccap, -, rfl, -⟩
  · exact absurd HL.out h
  have hs3 := hb3.size
  have k3 := (hb3.block w1.heap.size (by omega)).trans HK2.out
  have z3 : w3.cell? ⟨w1.heap.size, 2, none⟩ = some (.slice fa fr.length fcap) := by simp [World.cell?, k3]
  have hbw3 : Below w.heap.size w w3 := HBW2.out.trans (hb3.mono HBW2.out.size)
  have HPR := hid (fPrint_any fa fcap fr w3 (HFR2.out.below hb3 (fun _ _ h => h)) HOK.out HFL.out (HT.out.below hbw3))
  have HBW3 := hid hbw3
  clear hb3 k3 hbw3 HLY HFR2
  go_wp2_with fail
  refine HPR.out.mono ?_
  rintro e w4 ⟨rfl, hb4⟩
  have HF := hid (HBW3.out.trans (hb4.mono HBW3.out.size))
  clear hb4
  go_wp2
  exact bodyPost_ret (v := .tuple #[.string (strOfNums (printD fr)), .int .i64 0]) (by simp [results, Tryd.results29, go_sem]) rfl ⟨rfl, HF.out⟩

set_option maxHeartbeats 4000000 in
set_option maxRecDepth 100000 in
theorem uTrace_any (pa : Option Addr) (pcap : Nat) (p : List FnD) (bud : Int) (aa : Option Addr) (acap : Nat) (args : List Int) (n : Nat) (w : World) (hp : RdP w pa p.length pcap p) (ha : Rd .i64 w aa args.length acap args)
    (hc : chk p = (0, 0, 0)) (hg : givenB p args = true) (hn : n ≤ 2000) (hb : R64 bud) (hl : layE p bud = 0) (ht : Tab w) :
    Calls Tryd.prog 15 #[.agg #[.slice pa p.length pcap], .int .i64 bud, .slice aa args.length acap, .int .i64 n] w fun e w' =>
      e = .returned (.tuple #[.string (strOfNums (printD (toldD p (runD p (begunD p args) n)))), .int .i64 0]) ∧ Below w.heap.size w w' := by
  obtain ⟨wA, hwA⟩ : ∃ v, v = w.alloc (Obj.cells #[.slice pa p.length pcap] 24) := ⟨_, rfl⟩
  have hbA : Below w.heap.size w wA := by rw [hwA]; exact (Below.refl _ _).alloc (Nat.le_refl _) _
  have HM := hid (mTrace_any pa pcap p bud aa acap args n wA (hp.below hbA) (ha.below hbA (Nat.le_refl _)) hc hg hn hb hl (ht.below hbA))
  have HBA := hid hbA
  generalize strOfNums (printD (toldD p (runD p (begunD p args) n))) = str at *
  generalize p.length = pl at *
  generalize args.length = al at *
  clear hp ha hc hg hl ht hbA
  go_enter Tryd.func15, Tryd.ntmps15
  go_wp2_with fail
  rw [← hwA]
  clear hwA
  refine HM.out.mono ?_
  rintro e w1 ⟨rfl, hb1⟩
  have HF := hid (HBA.out.trans (hb1.mono HBA.out.size))
  clear hb1
  go_wp2
  exact bodyPost_ret (v := .tuple #[.string str, .int .i64 0]) (by simp [results, Tryd.results15, go_sem]) rfl ⟨rfl, HF.out⟩
end Go.Proofs.YtebjndcokkefhaaDoor
namespace Go.Proofs.YtebjndcokkefhaaDoor
open Go.RowKit

theorem rd_single {w : World} {b : Nat} {x : Int} {t : TypeId} (hk : w.heap[b]? = some (.cells #[.int .i64 x] t (0, 0))) : Rd .i64 w (some ⟨b, 0, none⟩) 1 1 [x] := ⟨rfl, Nat.le_refl _, by unfold maxLen; omega, fun i hi => ⟨b, 0, rfl, by
  match i, hi with
  | 0, _ => simp [World.cell?, hk]⟩⟩
theorem symB_one {N : Int} {pc : Int} : symB N [pc] = decide (0 ≤ pc ∧ pc < N) := by
  unfold symB pcsB pcsB
  simp
theorem symF_one (L : List EntD) (P : List PlcD) (pc : Nat) : symF L P [(pc : Int)] 0 [] = frsD L P pc := by
  simp [symF]

set_option maxHeartbeats 4000000 in
set_option maxRecDepth 100000 in
theorem alone_any (ba : Option Addr) (blen bcap : Nat) (bs : List Int) (L : List EntD) (ia : Option Addr) (icap : Nat) (pc : Nat) (w : World) (hb : Rd .u8 w ba blen bcap bs) (hne : ∀ q, ba = some q → q.block < w.heap.size) (hx : ∀ j, 0 ≤ bs.getD j 0 ∧ bs.getD j 0 ≤ 255) (hH : HeadAt w)
    (hd : decI bs = (L, 0, 0)) (hwf : wfI L = true) (hri : RdI w ia L.length icap L) (hpc : pc < (plcD L).length) (hm : (plcD L).length ≤ 100000) (h12 : L.length ≤ 12) :
    Calls Tryd.prog 24 #[.slice ba blen bcap, .agg #[.slice ia L.length icap], .int .i64 pc] w fun e w' => Below w.heap.size w w' ∧
      ∃ a cap, e = .returned (.tuple #[.slice a (frsD L (plcD L) pc).length cap, .bool true]) ∧ w'.ownsRow w.heap.size 93 3 (.slice a (frsD L (plcD L) pc).length cap) (frsD L (plcD L) pc).length ((frsD L (plcD L) pc).map frCells).flatten := by
  have hg := wfI_entG hwf
  obtain ⟨f, x, pre, ln, hof, hxf, hfr, hln⟩ := frsD_last hg hpc
  obtain ⟨wb, hwb⟩ : ∃ v, v = w.alloc (Obj.cells #[.slice ia L.length icap] 31) := ⟨_, rfl⟩
  have hbb : Below w.heap.size w wb := by rw [hwb]; exact (Below.refl _ _).alloc (Nat.le_refl _) _
  have hbs : wb.heap.size = w.heap.size + 1 := by rw [hwb]; simp
  have k0 : wb.heap[w.heap.size]? = some (.cells #[.slice ia L.length icap] 31 (0, 0)) := by rw [hwb]; exact heap_new_at rfl
  have hc1 := hri.2.1
  have hc2 := hri.2.2.1
  have HSY := hid (fun (W : World) (pa : Option Addr) (pcap : Nat) (hW : Below w.heap.size w W) (hp : Rd .i64 W pa 1 pcap [(pc : Int)]) => uSym_any ba blen bcap bs L pa pcap [(pc : Int)] W (hb.below hW (Nat.le_refl _)) (fun q hq => Nat.lt_of_lt_of_le (hne q hq) hW.size) hx (hH.below hW (Nat.le_refl _)) hd hwf hp (fun z hz => by rw [List.mem_singleton.1 hz]; exact ⟨by omega, by omega⟩))
  have HOF := hid (fun (W : World) (hW : Below w.heap.size w W) => kOf_any ia icap L pc W (hri.below hW) hg h12 (by omega))
  rw [symF_one] at HSY
  have hsb : symB (plcD L).length [(pc : Int)] = true := by rw [symB_one, decide_eq_true_eq]; omega
  rw [hsb] at HSY
  rw [hof] at HOF
  have HFR := hid hfr
  have HRI := hid hri
  have HXF := hid hxf
  have HBB := hid hbb
  have HK0 := hid k0
  generalize frsD L (plcD L) pc = FR at *
  clear hb hne hx hH hd hwf hri hg hfr hxf hbb k0 hsb hof
  go_enter Tryd.func24, Tryd.ntmps24
  go_wp2_with fail
  rw [← hwb]
  clear hwb
  obtain ⟨wc, hwc⟩ : ∃ v, v = wb.alloc (Obj.cells #[.int .i64 (pc : Int)] 3) := ⟨_, rfl⟩
  have hbc : Below wb.heap.size wb wc := by rw [hwc]; exact (Below.refl _ _).alloc (Nat.le_refl _) _
  have hcs : wc.heap.size = w.heap.size + 2 := by rw [hwc]; simp; omega
  have k1 : wc.heap[w.heap.size + 1]? = some (.cells #[.int .i64 (pc : Int)] 3 (0, 0)) := by rw [hwc]; exact heap_new_at (by omega)
  have hwcb : Below w.heap.size w wc := HBB.out.trans (hbc.mono HBB.out.size)
  rw [← hwc]
  have HS := hid (HSY.out wc _ _ hwcb (rd_single k1))
  have HKC := hid ((hbc.block w.heap.size (by omega)).trans HK0.out)
  have HBC := hid hwcb
  clear hwc hbc k1 hwcb HSY HK0 HBB
  refine HS.out.mono ?_
  rintro e w1 ⟨hb1, ⟨h, -⟩ | ⟨-, a, cap, rfl, ho⟩⟩
  · cases h
  have hs1 := hb1.size
  have hb01 : Below w.heap.size w w1 := HBC.out.trans (hb1.mono HBC.out.size)
  have HO := hid (HOF.out w1 hb01)
  have hcapF : FR.length ≤ cap ∧ cap ≤ maxLen := by
    have h := rdF_owns ho
    exact ⟨h.2.1, h.2.2.1⟩
  obtain ⟨hcf1, hcf2⟩ := hcapF
  unfold maxLen at hc2 hcf2
  have k1 := (hb1.block w.heap.size (by omega)).trans HKC.out
  have c1 : w1.cell? ⟨w.heap.size, 0, none⟩ = some (.slice ia L.length icap) := by simp [World.cell?, k1]
  have HOW := hid ho
  have HB1 := hid hb01
  have HKW := hid k1
  clear ho hb1 hb01 k1 HS HOF HKC HBC
  go_wp2_with fail
  clear c1
  refine HO.out.mono ?_
  rintro e w2 ⟨rfl, hb2⟩
  have hs2 := hb2.size
  obtain ⟨m, hm⟩ : ∃ v, v = pre.length := ⟨_, rfl⟩
  have hFL : FR.length = m + 1 := by rw [HFR.out, hm]; simp
  have how2 := ownsRow_below HOW.out hb2
  have hrf2 := rdF_owns how2
  obtain ⟨gb, goff, rfl, d0, d1, d2⟩ := hrf2.frameAt m ⟨x.name, x.file, ln⟩ (by rw [HFR.out, hm]; simp)
  have hb02 : Below w.heap.size w w2 := HB1.out.trans (hb2.mono HB1.out.size)
  obtain ⟨eb, eoff, la, lcap, xa, xcap, ta, tcap, rfl, m0, m1, m2, m3, m4, -, -, -⟩ := (HRI.out.below hb02).at HXF.out
  have k2 := (hb2.block w.heap.size (by omega)).trans HKW.out
  have c2 : w2.cell? ⟨w.heap.size, 0, none⟩ = some (.slice (some ⟨eb, eoff, none⟩) L.length icap) := by simp [World.cell?, k2]
  have hfL : (f : Int) < (L.length : Int) := by have := (List.getElem?_eq_some_iff.1 HXF.out).1; omega
  have heb : eb < w2.heap.size := World.block_lt_of_cell? w2 _ m0
  have hgb : gb < w2.heap.size := World.block_lt_of_cell? w2 _ d0
  have hlt0 : w.heap.size < w2.heap.size := by omega
  have hcfm : m + 1 ≤ cap := by omega
  obtain ⟨Ln, hLn⟩ : ∃ v, v = L.length := ⟨_, rfl⟩
  rw [← hLn] at c2 hfL hc1 ⊢
  rw [hFL] at how2 ⊢
  have HOW2 := hid (owns_low7 how2 (by omega : w.heap.size ≤ wc.heap.size))
  have HB2 := hid hb02
  simp only at d0 d1 d2
  clear how2 hrf2 hb02 k2 m2 m3 m4 hm HFR HXF HRI HOW HKW HO hb2
  have hmi : (((m + 1 : Nat) : Int) - 1) = (m : Int) := by omega
  have hmz : decide ((((m + 1 : Nat) : Int)) = 0) = false := by simp; omega
  have hfz : decide ((f : Int) < 0) = false := by simp
  have hwm : IntKind.i64.wrap (((m + 1 : Nat) : Int) - 1) = (m : Int) := by rw [IntKind.wrap_i64]; omega
  have hm1 : (m : Int) < ((m + 1 : Nat) : Int) := by omega
  go_wp2
  obtain ⟨w3, hw3⟩ : ∃ v, v = w2.alloc (Obj.cells #[.string x.name, .string x.file, .int .i64 ln] 93) := ⟨_, rfl⟩
  rw [← hw3]
  have hb3 : Below w2.heap.size w2 w3 := by rw [hw3]; exact (Below.refl _ _).alloc (Nat.le_refl _) _
  have hs3 : w3.heap.size = w2.heap.size + 1 := by rw [hw3]; simp
  have k3 : w3.heap[w2.heap.size]? = some (.cells #[.string x.name, .string x.file, .int .i64 ln] 93 (0, 0)) := by rw [hw3]; exact heap_new_at rfl
  have f0 : w3.cell? ⟨w2.heap.size, 0, none⟩ = some (.string x.name) := by simp [World.cell?, k3]
  have f1 : w3.cell? ⟨w2.heap.size, 1, none⟩ = some (.string x.file) := by simp [World.cell?, k3]
  have f2 : w3.cell? ⟨w2.heap.size, 2, none⟩ = some (.int .i64 ln) := by simp [World.cell?, k3]
  have c3 := (hb3.cell (p := ⟨w.heap.size, 0, none⟩) hlt0).trans c2
  have n0 := (hb3.cell (p := ⟨eb, _, none⟩) heb).trans m0
  have n1 := (hb3.cell (p := ⟨eb, _, none⟩) heb).trans m1
  have HF := hid (ownsRow_below HOW2.out hb3)
  have HFB := hid (HB2.out.trans (hb3.mono HB2.out.size))
  have hlp : (0 : Int) < ln := by omega
  generalize x.name = nm at *
  generalize x.file = fi at *
  clear hw3 hb3 k3 c2 m0 m1 HOW2 HB2 d0 d1 d2
  go_quiet (fail)
  go_wp2
  exact bodyPost_ret (v := .tuple #[.slice (some ⟨gb, goff, none⟩) (m + 1) cap, .bool true]) (by simp [results, Tryd.results24, go_sem]) rfl ⟨below_drawn HFB.out nq, _, cap, by rw [hFL], by rw [hFL]; exact ownsRow_below HF.out (below_drawn (Below.refl _ _) nq)⟩
end Go.Proofs.YtebjndcokkefhaaDoor
