/- Contract of the developers' image.framesAt. -/
import Derived.Test.YtffnfjkjlmlonaaGreatDoorZB17
import Derived.Test.YtffnfjkjlmlonaaGreatDoorJ2
namespace Go.Proofs.YtffnfjkjlmlonaaGreatDoor
open Go.RowKit
/-- Places that are only read. -/
def RdPc (w : World) (a : Option Addr) (len cap : Nat) (P : List PlcD) : Prop := RdL 4 (fun _ cs x => cs = pcC x) w a len cap P
theorem RdPc.below {w w' : World} {a : Option Addr} {len cap : Nat} {P : List PlcD} (h : RdPc w a len cap P) (hb : Below w.heap.size w w') : RdPc w' a len cap P := RdL.below h hb (fun _ _ h => h)
theorem RdPc.at {w : World} {a : Option Addr} {len cap : Nat} {P : List PlcD} (h : RdPc w a len cap P) {k : Nat} {x : PlcD} (hx : P[k]? = some x) : ∃ b off, a = some ⟨b, off, none⟩ ∧ b < w.heap.size ∧ w.cell? ⟨b, off + k * 4, none⟩ = some (.int .i64 x.fn) ∧ w.cell? ⟨b, off + k * 4 + 1, none⟩ = some (.int .i64 x.first) ∧ w.cell? ⟨b, off + k * 4 + 2, none⟩ = some (.int .i64 x.line) ∧ w.cell? ⟨b, off + k * 4 + 3, none⟩ = some (.int .i64 x.inst) := by
  obtain ⟨b, off, cs, e, -, hc, rfl⟩ := h.2.2.2 k x hx
  have c0 := hc 0 _ rfl
  exact ⟨b, off, e, World.block_lt_of_cell? w _ c0, c0, hc 1 _ rfl, hc 2 _ rfl, hc 3 _ rfl⟩
set_option maxHeartbeats 8000000 in
set_option maxRecDepth 100000 in
theorem framesAt_any (ia : Option Addr) (icap : Nat) (L : List EntD) (pa : Option Addr) (pcap : Nat) (P : List PlcD) (pc : Nat) (w : World) (hr : RdI w ia L.length icap L) (hp : RdPc w pa P.length pcap P) (hg : ∀ x ∈ L, EntG L.length x) (hP : PlcOk L P) (hPl : P.length ≤ 12000) (hpc : pc < P.length) :
    Calls Tryz.prog 166 #[.agg #[.slice ia L.length icap], .slice pa P.length pcap, .int .i64 pc] w fun e w' => ∃ a cap, e = .returned (.slice a (frsD L P pc).length cap) ∧ w'.ownsRow w.heap.size 107 3 (.slice a (frsD L P pc).length cap) (frsD L P pc).length ((frsD L P pc).map frCells).flatten ∧ Below w.heap.size w w' := by
  have HR := hid hr
  have HG := hid hg
  have HP := hid hp
  have HPO := hid hP
  have hc1 := hr.2.1
  have hc2 := hr.2.2.1
  have hd1 := hp.2.1
  have hd2 := hp.2.2.1
  unfold maxLen at hc2 hd2
  obtain ⟨A, hA⟩ : ∃ a, P[pc]? = some a := ⟨_, List.getElem?_eq_getElem hpc⟩
  obtain ⟨f, s, x, e1, e2, hx, hs1, hs2, hall⟩ := hP pc A hA
  have hgx := hg x (List.mem_of_getElem? hx)
  have HALL := hid hall
  have HGX := hid hgx
  have HXM := hid hx
  have hfl : f < L.length := (List.getElem?_eq_some_iff.1 hx).1
  have hAe : A = ⟨f, s, (unroll x.lines).getD (pc - s) 0, (unroll x.index).getD (pc - s) 0⟩ := by
    have := hall (pc - s) (by omega)
    rw [show s + (pc - s) = pc by omega, hA] at this
    exact Option.some.inj this
  have hinst : 0 ≤ A.inst ∧ A.inst ≤ x.tree.length := by
    rw [hAe]
    refine hgx.inst _ ?_
    show (unroll x.index).getD (pc - s) 0 ∈ unroll x.index
    have hj : pc - s < (unroll x.index).length := by rw [hgx.len]; omega
    rw [List.getD, List.getElem?_eq_getElem hj]
    exact List.getElem_mem _
  have hft : frsD L P pc = frs L P x A.inst.toNat A [] := by
    unfold frsD
    have h1 : P.getD pc noP = A := by rw [List.getD, hA]; rfl
    rw [h1, e1]
    have h2 : L.getD (f : Int).toNat noE = x := by rw [List.getD, show ((f : Int)).toNat = f by omega, hx]; rfl
    rw [h2]
  rw [hft]
  have htl := hgx.trees
  obtain ⟨n, hn⟩ : ∃ v, v = L.length := ⟨_, rfl⟩
  obtain ⟨N, hN⟩ : ∃ v, v = P.length := ⟨_, rfl⟩
  rw [← hn] at HR HG hc1 hfl ⊢
  rw [← hN] at HP hd1 hPl hpc ⊢
  have HNn := hid hn
  have HNN := hid hN
  obtain ⟨pb, poff, rfl, hpb, a0, a1, a2, a3⟩ := hp.at hA
  obtain ⟨eb, eoff, la, lcap, xa, xcap, ta, tcap, rfl, m0, m1, m2, m3, m4, -, -, hrt⟩ := hr.at hx
  have heb : eb < w.heap.size := World.block_lt_of_cell? w _ m0
  rw [e1] at a0
  rw [e2] at a1
  obtain ⟨i0, hi, hz0, hz1, hz2⟩ := info_parts Tryz.infoFrame
  have HRT := hid hrt
  have HINST := hid hinst
  have HFT := hid hft
  have hxl : (x.name.size ≤ 20 ∧ x.file.size ≤ 20) := ⟨hgx.name, hgx.file⟩
  clear hr hp hg hP hA hall hgx hx hn hN hrt hAe hft
  obtain ⟨FR, hFR⟩ : ∃ v, v = frs L P x A.inst.toNat A [] := ⟨_, rfl⟩
  rw [← hFR] at HFT ⊢
  have HFR := hid hFR.symm
  clear hFR
  obtain ⟨m, hm⟩ : ∃ v, v = (unroll x.lines).length := ⟨_, rfl⟩
  obtain ⟨tl, htl2⟩ : ∃ v, v = x.tree.length := ⟨_, rfl⟩
  rw [← htl2] at HRT htl hinst m4
  have HTL := hid htl2
  generalize x.lines.length = xl at *
  generalize x.index.length = xi at *
  obtain ⟨nm, hnm⟩ : ∃ v, v = x.name := ⟨_, rfl⟩
  obtain ⟨fl, hfl2⟩ : ∃ v, v = x.file := ⟨_, rfl⟩
  rw [← hnm] at m0
  rw [← hfl2] at m1
  have HNM := hid hnm
  have HFLE := hid hfl2
  obtain ⟨wb, hwb⟩ : ∃ v, v = ((w.alloc (Obj.cells #[.slice (some ⟨eb, eoff, none⟩) n icap] 41)).alloc (Obj.cells #[.int .i64 f, .int .i64 s, .int .i64 A.line, .int .i64 A.inst] 263)).alloc (Obj.cells #[.string nm, .string fl, .slice la xl lcap, .slice xa xi xcap, .slice ta tl tcap] 115) := ⟨_, rfl⟩
  have hbb : Below w.heap.size w wb := by rw [hwb]; exact (((Below.refl _ _).alloc (Nat.le_refl _) _).alloc (by simp) _).alloc (by simp; omega) _
  have hbs : wb.heap.size = w.heap.size + 3 := by rw [hwb]; simp
  have k0 : wb.heap[w.heap.size]? = some (.cells #[.slice (some ⟨eb, eoff, none⟩) n icap] 41 (0, 0)) := by rw [hwb]; exact heap_at1 (by simp; omega) (heap_at1 (by simp) (heap_new_at rfl))
  have k1 : wb.heap[w.heap.size + 1]? = some (.cells #[.int .i64 f, .int .i64 s, .int .i64 A.line, .int .i64 A.inst] 263 (0, 0)) := by rw [hwb]; exact heap_at1 (by simp) (heap_new_at (by simp))
  have k2 : wb.heap[w.heap.size + 2]? = some (.cells #[.string nm, .string fl, .slice la xl lcap, .slice xa xi xcap, .slice ta tl tcap] 115 (0, 0)) := by rw [hwb]; exact heap_new_at (by simp)
  have HK0 := hid k0
  have HK1 := hid k1
  have HK2 := hid k2
  have HBB := hid hbb
  have hff : (f : Int) < (n : Int) := by omega
  have hpN : (pc : Int) < (N : Int) := by omega
  have HE1 := hid e1
  have HE2 := hid e2
  clear hm htl2 hnm hfl2 k0 k1 k2 hbb e1 e2 hs1 hs2
  go_enter Tryz.func166, Tryz.ntmps166
  go_wp2
  rw [← hwb]
  clear hwb a0 a1 a2 a3 m0 m1 m2 m3 m4
  go_loopw [7, 10] (fun lv _ wr => ∃ (a : PlcD) (acc : List FrameD) (fuel : Nat), wr.heap[w.heap.size]? = some (.cells #[.slice (some ⟨eb, eoff, none⟩) n icap] 41 (0, 0)) ∧ wr.heap[w.heap.size + 1]? = some (.cells #[.int .i64 f, .int .i64 s, .int .i64 a.line, .int .i64 a.inst] 263 (0, 0)) ∧
      wr.heap[w.heap.size + 2]? = some (.cells #[.string nm, .string fl, .slice la xl lcap, .slice xa xi xcap, .slice ta tl tcap] 115 (0, 0)) ∧ wr.ownsRow (w.heap.size + 3) 107 3 lv acc.length (acc.map frCells).flatten ∧ a.first = s ∧ 0 ≤ a.inst ∧ a.inst ≤ tl ∧ a.inst ≤ fuel ∧ acc.length + fuel ≤ 10000 ∧ frs L P x fuel a acc = FR ∧ Below w.heap.size w wr)
      (fun _ _ wr => (((wr.cell? ⟨w.heap.size + 1, 3, none⟩).map intOf).getD 0).toNat)
  case atStart => exact ⟨A, [], A.inst.toNat, HK0.out, HK1.out, HK2.out, World.ownsRow_nil _ _ _ _, HE2.out, hinst.1, hinst.2, by omega, by simp; omega, HFR.out, HBB.out⟩
  case round =>
    obtain ⟨a, acc, fuel, q0, q1, q2, hown, hfs, hi0, hi1, hi2, hi3, hfr, hbel⟩ := hrel
    have hsz := hbel.size
    have hsz3 : w.heap.size + 3 ≤ wr.heap.size := by have := (Array.getElem?_eq_some_iff.1 q2).1; omega
    have b3 : wr.cell? ⟨w.heap.size + 1, 3, none⟩ = some (.int .i64 a.inst) := by simp [World.cell?, q1]
    have b2 : wr.cell? ⟨w.heap.size + 1, 2, none⟩ = some (.int .i64 a.line) := by simp [World.cell?, q1]
    have b1 : wr.cell? ⟨w.heap.size + 1, 1, none⟩ = some (.int .i64 s) := by simp [World.cell?, q1]
    obtain ⟨va, vcap, rfl, hv1, hv2⟩ := owns_form hown
    unfold maxLen at hv2
    by_cases hin : 0 < a.inst
    · obtain ⟨t, ht⟩ : ∃ t : Nat, (t : Int) = a.inst - 1 := ⟨(a.inst - 1).toNat, by omega⟩
      have htt : t < tl := by omega
      obtain ⟨nd, hnd⟩ : ∃ nd, x.tree[t]? = some nd := ⟨_, List.getElem?_eq_getElem (by rw [← HTL.out]; exact htt)⟩
      obtain ⟨⟨g1, g2⟩, ⟨g3, g4⟩, g5⟩ := HGX.out.node t nd hnd
      obtain ⟨tb, toff, rfl, htc⟩ := (HRT.out.below hbel (Nat.le_refl _)).open (by omega)
      obtain ⟨t1, t2⟩ := htc t htt
      have hgd : x.tree.getD t (0, 0) = nd := by rw [List.getD, hnd]; rfl
      rw [hgd] at t1 t2
      obtain ⟨n1, n2⟩ := nd
      dsimp only at g1 g2 g3 g4 g5 t1 t2
      obtain ⟨c, rfl⟩ : ∃ v : Nat, n1 = (v : Int) := ⟨n1.toNat, by omega⟩
      obtain ⟨d, rfl⟩ : ∃ v : Nat, n2 = (v : Int) := ⟨n2.toNat, by omega⟩
      have hcn : c < n := by have := HNn.out; omega
      obtain ⟨y, hy⟩ : ∃ y, L[c]? = some y := ⟨_, List.getElem?_eq_getElem (by rw [← HNn.out]; exact hcn)⟩
      obtain ⟨eb', eoff', la', lcap', xa', xcap', ta', tcap', ee, m0, m1, m2, m3, m4, -, -, -⟩ := (HR.out.below hbel).at hy
      cases ee
      have hPd := HALL.out d (by omega)
      have hzd : s + d < N := by have := (List.getElem?_eq_some_iff.1 hPd).1; rw [HNN.out]; exact this
      obtain ⟨pb', poff', ep, hpb', z0, z1, z2, z3⟩ := (HP.out.below hbel).at hPd
      cases ep
      dsimp only at z0 z1 z2 z3
      have hgy := HG.out y (List.mem_of_getElem? hy)
      have HFRS : Hid (frs L P x fuel a acc = frs L P x (fuel - 1) ⟨f, s, (unroll x.lines).getD d 0, (unroll x.index).getD d 0⟩ (acc ++ [⟨y.name, y.file, a.line⟩])) := hid (by
        obtain ⟨fu, rfl⟩ : ∃ v, fuel = v + 1 := ⟨fuel - 1, by omega⟩
        conv => lhs; unfold frs
        rw [if_neg (by omega)]
        have e1 : (a.inst - 1).toNat = t := by omega
        rw [e1, hgd]
        dsimp only
        have e2 : L.getD ((c : Int)).toNat noE = y := by rw [List.getD, show ((c : Int)).toNat = c by omega, hy]; rfl
        have e3 : P.getD (a.first + (d : Int)).toNat noP = ⟨f, s, (unroll x.lines).getD d 0, (unroll x.index).getD d 0⟩ := by
          rw [hfs, show ((s : Int) + (d : Int)).toNat = s + d by omega, List.getD, hPd]; rfl
        rw [e2, e3]
        rfl)
      have hIin : 0 ≤ (unroll x.index).getD d 0 := by
        have hj : d < (unroll x.index).length := by rw [HGX.out.len]; omega
        refine (HGX.out.inst _ ?_).1
        rw [List.getD, List.getElem?_eq_getElem hj]
        exact List.getElem_mem _
      have g5' : (unroll x.index).getD d 0 ≤ t := by simpa using g5
      generalize (unroll x.lines).getD d 0 = LD at *
      generalize (unroll x.index).getD d 0 = ID at *
      obtain ⟨yn, hyn⟩ : ∃ v, v = y.name := ⟨_, rfl⟩
      obtain ⟨yf, hyf⟩ : ∃ v, v = y.file := ⟨_, rfl⟩
      rw [← hyn, ← hyf] at HFRS
      rw [← hyn] at m0
      rw [← hyf] at m1
      generalize y.lines.length = yl at *
      generalize y.index.length = yi at *
      generalize y.tree.length = yt at *
      obtain ⟨AL, hAL⟩ : ∃ v, v = a.line := ⟨_, rfl⟩
      obtain ⟨AI, hAI⟩ : ∃ v, v = a.inst := ⟨_, rfl⟩
      rw [← hAL] at b2 q1 HFRS
      rw [← hAI] at b3 q1 ht hin hi0 hi1 hi2
      have o4 : wr.cell? ⟨w.heap.size + 2, 4, none⟩ = some (.slice (some ⟨tb, toff, none⟩) tl tcap) := by simp [World.cell?, q2]
      have i0c : wr.cell? ⟨w.heap.size, 0, none⟩ = some (.slice (some ⟨eb, eoff, none⟩) n icap) := by simp [World.cell?, q0]
      have htc' : (AI : Int) - 1 = (t : Int) := by omega
      have htt' : (t : Int) < (tl : Int) := by omega
      have ew : IntKind.i64.wrap (AI - 1) = (t : Int) := by rw [IntKind.wrap_i64]; omega
      have hin' : decide (0 < AI) = true := by simpa using hin
      have htb : tb < wr.heap.size := World.block_lt_of_cell? wr _ t1
      have hebr : eb < wr.heap.size := by omega
      have hpbr : pb < wr.heap.size := by omega
      obtain ⟨w2, hw2⟩ : ∃ v, v = wr.alloc (Obj.cells #[.int .i64 c, .int .i64 d] 112) := ⟨_, rfl⟩
      have hb2 : Below wr.heap.size wr w2 := by rw [hw2]; exact (Below.refl _ _).alloc (Nat.le_refl _) _
      have hs2 : w2.heap.size = wr.heap.size + 1 := by rw [hw2]; simp
      have kn : w2.heap[wr.heap.size]? = some (.cells #[.int .i64 c, .int .i64 d] 112 (0, 0)) := by rw [hw2]; exact heap_new_at rfl
      have HOW := hid hown
      have HBEL := hid hbel
      have HKN := hid kn
      have HB2 := hid hb2
      have HQ0 := hid q0
      have HQ1 := hid q1
      have HQ2 := hid q2
      have HFR2 := hid hfr
      have up2 : ∀ (q : Addr) (u : Value), wr.cell? q = some u → w2.cell? q = some u := fun q u h => (hb2.cell (World.block_lt_of_cell? wr _ h)).trans h
      have HUP := hid up2
      have HM := hid (⟨m0, m1, m2, m3, m4, i0c, b2, b1, z0, z1, z2, z3⟩ : _ ∧ _ ∧ _ ∧ _ ∧ _ ∧ _ ∧ _ ∧ _ ∧ _ ∧ _ ∧ _ ∧ _)
      clear hown hbel hnd hgd hy hPd hgy hyn hyf hAL hAI kn hb2 q0 q1 q2 hfr htc up2 m0 m1 m2 m3 m4 i0c b2 b1 z0 z1 z2 z3 g1 g2 g3 g4 g5 ht
      go_wp2
      rw [← hw2]
      clear hw2
      obtain ⟨m0, m1, m2, m3, m4, i0c, b2, b1, z0, z1, z2, z3⟩ := HM.out
      have HZ := hid (⟨b1, z0, z1, z2, z3⟩ : _ ∧ _ ∧ _ ∧ _ ∧ _)
      replace m0 := HUP.out _ _ m0
      replace m1 := HUP.out _ _ m1
      replace m2 := HUP.out _ _ m2
      replace m3 := HUP.out _ _ m3
      replace m4 := HUP.out _ _ m4
      replace i0c := HUP.out _ _ i0c
      replace b2 := HUP.out _ _ b2
      have nd0 : w2.cell? ⟨wr.heap.size, 0, none⟩ = some (.int .i64 c) := by simp [World.cell?, HKN.out]
      have hcn' : (c : Int) < (n : Int) := by omega
      have HO2 := hid (ownsRow_below HOW.out HB2.out)
      have HFO := hid (fun W => frameOf_any yn yf la' xa' ta' yl yi yt lcap' xcap' tcap' AL W)
      have hacc : acc.length ≤ 10000 := by omega
      clear b1 z0 z1 z2 z3 HM HUP t1 t2 b3 o4
      obtain ⟨an, han⟩ : ∃ v, v = acc.length := ⟨_, rfl⟩
      rw [← han] at HO2 HOW hacc hi3 hv1 ⊢
      have HAN := hid han
      clear han
      obtain ⟨XS, hXS⟩ : ∃ v, v = (acc.map frCells).flatten := ⟨_, rfl⟩
      rw [← hXS] at HO2
      have HLT : Hid (∀ b, b < w.heap.size + 3 ∨ b = wr.heap.size → (Value.slice va an vcap).ownBlock ≠ some b) := hid (fun b hb e => by have := HO2.out.lt b e; have := HOW.out.lt b e; omega)
      have KS : Hid (∀ W : World, Hid (∀ b, b < w.heap.size + 3 ∨ b = wr.heap.size → W.heap[b]? = w2.heap[b]?) → W.cell? ⟨w.heap.size, 0, none⟩ = some (.slice (some ⟨eb, eoff, none⟩) n icap) ∧ W.cell? ⟨wr.heap.size, 0, none⟩ = some (.int .i64 c) ∧ W.cell? ⟨eb, eoff + c * 5, none⟩ = some (.string yn) ∧ W.cell? ⟨eb, eoff + c * 5 + 1, none⟩ = some (.string yf) ∧ W.cell? ⟨eb, eoff + c * 5 + 2, none⟩ = some (.slice la' yl lcap') ∧ W.cell? ⟨eb, eoff + c * 5 + 3, none⟩ = some (.slice xa' yi xcap') ∧ W.cell? ⟨eb, eoff + c * 5 + 4, none⟩ = some (.slice ta' yt tcap') ∧ W.cell? ⟨w.heap.size + 1, 2, none⟩ = some (.int .i64 AL)) := hid (fun W h => by
        have eb' := fun (b o : Nat) (hb : b < w.heap.size + 3 ∨ b = wr.heap.size) => World.cell?_of_block (a := ⟨b, o, none⟩) (h.out b hb)
        exact ⟨(eb' _ _ (.inl (by omega))).trans i0c, (eb' _ _ (.inr rfl)).trans nd0, (eb' _ _ (.inl (by omega))).trans m0, (eb' _ _ (.inl (by omega))).trans m1, (eb' _ _ (.inl (by omega))).trans m2, (eb' _ _ (.inl (by omega))).trans m3, (eb' _ _ (.inl (by omega))).trans m4, (eb' _ _ (.inl (by omega))).trans b2⟩)
      have HXS := hid hXS
      clear m0 m1 m2 m3 m4 i0c nd0 b2 hXS
      apply cutB
      case k =>
        intro key
        refine wp_region_last (fun W => W.cell? ⟨w.heap.size, 0, none⟩ = some (.slice (some ⟨eb, eoff, none⟩) n icap) ∧ W.cell? ⟨wr.heap.size, 0, none⟩ = some (.int .i64 c) ∧ W.cell? ⟨eb, eoff + c * 5, none⟩ = some (.string yn) ∧ W.cell? ⟨eb, eoff + c * 5 + 1, none⟩ = some (.string yf) ∧ W.cell? ⟨eb, eoff + c * 5 + 2, none⟩ = some (.slice la' yl lcap') ∧ W.cell? ⟨eb, eoff + c * 5 + 3, none⟩ = some (.slice xa' yi xcap') ∧ W.cell? ⟨eb, eoff + c * 5 + 4, none⟩ = some (.slice ta' yt tcap') ∧ W.cell? ⟨w.heap.size + 1, 2, none⟩ = some (.int .i64 AL)) 12 _ (by kernel_rfl) rfl rfl rfl (by kernel_rfl) (by kernel_rfl) (KS.out _ (hid (fun b _ => rfl))) (fun hHeld => ?_)
        refine wpAnyH_take (i := 0) (oi := ⟨some 31, _, _, _, _, none⟩) (v := ?_) rfl (by kernel_rfl) (by kernel_rfl) (by kernel_rfl) (fun _ _ _ h => h) (Or.inl ⟨by rfl, ?_⟩) (by assumption) ?_
        rotate_left
        · intro W hSw
          go_simp
          try with_reducible rfl
        simp only [Act.put, List.setIfInBounds_toArray, List.set_cons_zero, List.set_cons_succ]
        refine wpAnyH_take (i := 1) (oi := ⟨some 32, _, _, _, _, none⟩) (v := ?_) rfl (by kernel_rfl) (by kernel_rfl) (by kernel_rfl) (fun _ _ _ h => h) (Or.inl ⟨by rfl, ?_⟩) (by assumption) ?_
        rotate_left
        · intro W hSw
          go_simp
          try with_reducible rfl
        simp only [Act.put, List.setIfInBounds_toArray, List.set_cons_zero, List.set_cons_succ]
        refine wpAnyH_take (i := 2) (oi := ⟨some 33, _, _, _, _, none⟩) (v := ?_) rfl (by kernel_rfl) (by kernel_rfl) (by kernel_rfl) (fun _ _ _ h => h) (Or.inl ⟨by rfl, ?_⟩) (by assumption) ?_
        rotate_left
        · intro W hSw
          go_simp
          try with_reducible rfl
        simp only [Act.put, List.setIfInBounds_toArray, List.set_cons_zero, List.set_cons_succ]
        refine wpAnyH_take (i := 3) (oi := ⟨some 34, _, _, _, _, none⟩) (v := ?_) rfl (by kernel_rfl) (by kernel_rfl) (by kernel_rfl) (fun _ _ _ h => h) (Or.inl ⟨by rfl, ?_⟩) (by assumption) ?_
        rotate_left
        · intro W hSw
          go_simp
          try with_reducible rfl
        simp only [Act.put, List.setIfInBounds_toArray, List.set_cons_zero, List.set_cons_succ]
        refine wpAnyH_take (i := 4) (oi := ⟨some 35, _, _, _, _, none⟩) (v := ?_) rfl (by kernel_rfl) (by kernel_rfl) (by kernel_rfl) (fun _ _ _ h => h) (Or.inl ⟨by rfl, ?_⟩) (by assumption) ?_
        rotate_left
        · intro W hSw
          go_simp
          try with_reducible rfl
        simp only [Act.put, List.setIfInBounds_toArray, List.set_cons_zero, List.set_cons_succ]
        refine wpAnyH_take (i := 5) (oi := ⟨some 36, _, _, _, _, none⟩) (v := ?_) rfl (by kernel_rfl) (by kernel_rfl) (by kernel_rfl) (fun _ _ _ h => h) (Or.inl ⟨by rfl, ?_⟩) (by assumption) ?_
        rotate_left
        · intro W hSw
          go_simp
          try with_reducible rfl
        simp only [Act.put, List.setIfInBounds_toArray, List.set_cons_zero, List.set_cons_succ]
        refine wpAnyH_take (i := 6) (oi := ⟨some 37, _, _, _, _, none⟩) (v := ?_) rfl (by kernel_rfl) (by kernel_rfl) (by kernel_rfl) (fun _ _ _ h => h) (Or.inl ⟨by rfl, ?_⟩) (by assumption) ?_
        rotate_left
        · intro W hSw
          go_simp
          try with_reducible rfl
        simp only [Act.put, List.setIfInBounds_toArray, List.set_cons_zero, List.set_cons_succ]
        refine wpAnyH_take (i := 7) (oi := ⟨some 38, _, _, _, _, none⟩) (v := ?_) rfl (by kernel_rfl) (by kernel_rfl) (by kernel_rfl) (fun _ _ _ h => h) (Or.inl ⟨by rfl, ?_⟩) (by assumption) ?_
        rotate_left
        · intro W hSw
          go_simp
          try with_reducible rfl
        simp only [Act.put, List.setIfInBounds_toArray, List.set_cons_zero, List.set_cons_succ]
        refine wpAnyH_take (i := 8) (oi := ⟨some 39, _, _, _, _, none⟩) (v := ?_) rfl (by kernel_rfl) (by kernel_rfl) (by kernel_rfl) (fun _ _ _ h => h) (Or.inl ⟨by rfl, ?_⟩) (by assumption) ?_
        rotate_left
        · intro W hSw
          go_simp
          try with_reducible rfl
        simp only [Act.put, List.setIfInBounds_toArray, List.set_cons_zero, List.set_cons_succ]
        refine wpAnyH_ready (rs := [9]) (by kernel_rfl) (by simp) ?_
        refine AllReadyH.cons rfl (fun K hK => ?_) AllReadyH.nil
        go_simp
        go_wp2_with (go_at_call 211; refine (HFO.out w2.drew).mono ?_; rintro e w4 ⟨rfl, hb4⟩)
        have HS4 : Hid (∀ b, b < w.heap.size + 3 ∨ b = wr.heap.size → w4.heap[b]? = w2.heap[b]?) := hid (fun b hb => hb4.block b (by show b < w2.heap.size; omega))
        have HS4a : Hid (∀ (o : Obj) (b : Nat), b < w.heap.size + 3 ∨ b = wr.heap.size → (w4.alloc o).heap[b]? = w2.heap[b]?) := hid (fun o b hb => (heap_alloc_old _ _ (Nat.lt_of_lt_of_le (by show b < w2.heap.size; omega) hb4.size)).trans (HS4.out b hb))
        clear hHeld
        refine hK.out _ _ (KS.out _ HS4) (fun hHeld => ?_)
        clear hK K
        refine wpAnyH_ready (rs := [10]) (by kernel_rfl) (by simp) ?_
        refine AllReadyH.cons rfl (fun K hK => ?_) AllReadyH.nil
        go_simp
        clear hHeld
        refine hK.out _ _ (KS.out _ (hid (fun b hb => HS4a.out _ b hb))) (fun hHeld => ?_)
        clear hK K
        refine wpAnyH_ready (rs := [11]) (by kernel_rfl) (by simp) ?_
        refine AllReadyH.cons rfl (fun K hK => ?_) AllReadyH.nil
        have hd4 : w2.drew.heap.size = w2.heap.size := rfl
        have hs4 := hb4.size
        refine step_append_lies _ rfl (.tmp 31) (.tmp 41) 38 rfl (w.heap.size + 3) 107 i0 (.agg #[.string ⟨#[]⟩, .string ⟨#[]⟩, .int .i64 0]) 3 40 Tryz.underlying38 hi hz0 hz1 hz2 rfl (by decide) (.slice va an vcap) an _ (by simp [Act.eval]) ((ownsRow_below HO2.out.drew hb4).alloc _) ⟨w4.heap.size, 0, none⟩ 1 1 [.string yn, .string yf, .int .i64 AL] (by simp [Act.eval]) rfl (three_new_at rfl _ _ _ _) (three_one_sf _ _ _) (by decide) (by unfold maxLen; omega) (by omega) (by simp; omega) _ rfl ?_
        intro g' c' w9 hown9 hgrow9 hat9 hlt9
        have HS9 : Hid (∀ b, b < w.heap.size + 3 ∨ b = wr.heap.size → w9.heap[b]? = w2.heap[b]?) := hid (fun b hb => (hgrow9.block b (by simp; omega) (fun e => HLT.out b hb e.symm)).trans (HS4a.out _ b hb))
        clear hHeld
        refine hK.out _ _ (KS.out _ HS9) (fun hHeld => ?_)
        clear hK K
        refine wpAnyH_done (by kernel_rfl) ?_ _
        unfold lastQ
        clear hHeld
        go_simp
        all_goals
          have hbel9 : Below w.heap.size w w9 := (((HBEL.out.trans (HB2.out.mono hsz)).drew.trans (hb4.mono (by show w.heap.size ≤ w2.heap.size; omega))).alloc (by omega) _).grown hgrow9 (by simp; omega) (fun b hb => by have := (HO2.out.lt b hb).1; omega)
          have hsz9 : wr.heap.size < w9.heap.size := by have := hgrow9.size; simp at this; omega
          have hfin : w9.ownsRow (w.heap.size + 3) 107 3 (.slice (some ⟨g', 0, none⟩) (an + 1) c') (an + 1) (XS ++ [.string yn, .string yf, .int .i64 AL]) ∧ Hid (∀ b, b < w.heap.size + 3 ∨ b = wr.heap.size → w9.heap[b]? = w2.heap[b]?) ∧ Below w.heap.size w w9 ∧ wr.heap.size < w9.heap.size := ⟨hown9, HS9, hbel9, hsz9⟩
          clear hs4 hd4 hbel9 HS9 hown9 hgrow9 hat9 hlt9 HS4a HS4 hb4 hsz9
          revert hfin
          revert w9 c' g' w4
          exact key.out
      intro w4 g' c' w9 ⟨f1, f2, f3, f4⟩
      have kA9 : w9.heap[w.heap.size + 1]? = some (.cells #[.int .i64 f, .int .i64 s, .int .i64 AL, .int .i64 AI] 263 (0, 0)) := (f2.out _ (.inl (by omega))).trans ((HB2.out.block _ (by omega)).trans HQ1.out)
      have k09 := (f2.out w.heap.size (.inl (by omega))).trans ((HB2.out.block _ (by omega)).trans HQ0.out)
      have k29 := (f2.out (w.heap.size + 2) (.inl (by omega))).trans ((HB2.out.block _ (by omega)).trans HQ2.out)
      have kn9 := (f2.out wr.heap.size (.inr rfl)).trans HKN.out
      have x0 : w9.cell? ⟨w.heap.size + 1, 0, none⟩ = some (.int .i64 f) := by simp [World.cell?, kA9]
      have x1 : w9.cell? ⟨w.heap.size + 1, 1, none⟩ = some (.int .i64 s) := by simp [World.cell?, kA9]
      have x2 : w9.cell? ⟨w.heap.size + 1, 2, none⟩ = some (.int .i64 AL) := by simp [World.cell?, kA9]
      have x3 : w9.cell? ⟨w.heap.size + 1, 3, none⟩ = some (.int .i64 AI) := by simp [World.cell?, kA9]
      have r0 : w9.frozen? ⟨w.heap.size + 1, 0, none⟩ = false := by simp [World.frozen?, kA9]
      have r1 : w9.frozen? ⟨w.heap.size + 1, 1, none⟩ = false := by simp [World.frozen?, kA9]
      have r2 : w9.frozen? ⟨w.heap.size + 1, 2, none⟩ = false := by simp [World.frozen?, kA9]
      have r3 : w9.frozen? ⟨w.heap.size + 1, 3, none⟩ = false := by simp [World.frozen?, kA9]
      have n1 : w9.cell? ⟨wr.heap.size, 1, none⟩ = some (.int .i64 d) := by simp [World.cell?, kn9]
      obtain ⟨-, z0, z1, z2, z3⟩ := HZ.out
      have up9 : ∀ (o : Nat) (v : Value), wr.cell? ⟨pb, o, none⟩ = some v → w9.cell? ⟨pb, o, none⟩ = some v := fun o v h => (World.cell?_of_block (a := ⟨pb, o, none⟩) ((f2.out pb (.inl (by omega))).trans (HB2.out.block pb (by omega)))).trans h
      replace z0 := up9 _ _ z0
      replace z1 := up9 _ _ z1
      replace z2 := up9 _ _ z2
      replace z3 := up9 _ _ z3
      have hzd' : (s : Int) + (d : Int) < (N : Int) := by omega
      have ews : IntKind.i64.wrap ((s : Int) + (d : Int)) = (s : Int) + (d : Int) := by rw [IntKind.wrap_i64]; omega
      have etn : ((s : Int) + (d : Int)).toNat = s + d := by omega
      have hpb9 : pb < w9.heap.size := by omega
      have HF1 := hid f1
      have HF3 := hid f3
      have HKA9 := hid kA9
      have HK09 := hid k09
      have HK29 := hid k29
      clear f1 f3 kA9 k09 k29 kn9 up9 f2 KS HLT HFO HO2
      go_wp2
      obtain ⟨wN, hwN⟩ : ∃ v, v = (((w9.setCell ⟨w.heap.size + 1, 0, none⟩ (.int .i64 f)).setCell ⟨w.heap.size + 1, 1, none⟩ (.int .i64 s)).setCell ⟨w.heap.size + 1, 2, none⟩ (.int .i64 LD)).setCell ⟨w.heap.size + 1, 3, none⟩ (.int .i64 ID) := ⟨_, rfl⟩
      rw [← hwN]
      have e3 := heap_setCell_same _ _ 3 _ _ (.int .i64 ID) (heap_setCell_same _ _ 2 _ _ (.int .i64 LD) (heap_setCell_same _ _ 1 _ _ (.int .i64 s) (heap_setCell_same _ _ 0 _ _ (.int .i64 f) HKA9.out)))
      rw [← hwN] at e3
      have hot : ∀ b, b ≠ w.heap.size + 1 → wN.heap[b]? = w9.heap[b]? := fun b hb => by
        rw [hwN]
        repeat rw [Below.heap_setCell _ _ _ _ (by simpa using hb)]
      have hrow : wN.ownsRow (w.heap.size + 3) 107 3 (.slice (some ⟨g', 0, none⟩) (an + 1) c') (an + 1) (XS ++ [.string yn, .string yf, .int .i64 AL]) := owns_same HF1.out (fun b hb => hot b (by have := (HF1.out.lt b hb).1; omega))
      have hbN : Below w.heap.size w wN := by
        rw [hwN]
        repeat (refine Below.setCell ?_ (by simp) _)
        exact HF3.out
      refine ⟨⟨⟨f, s, LD, ID⟩, acc ++ [⟨yn, yf, AL⟩], fuel - 1, ?_, e3, ?_, ?_, rfl, hIin, by dsimp only; omega, by dsimp only; omega, ?_, ?_, hbN⟩, ?_⟩
      · rw [hot _ (by omega)]; exact HK09.out
      · rw [hot _ (by omega)]; exact HK29.out
      · rw [List.length_append, ← HAN.out, List.map_append, List.flatten_append, ← HXS.out]
        exact hrow
      · rw [List.length_append, ← HAN.out]
        simp only [List.length_cons, List.length_nil]
        omega
      · rw [← HFRS.out]; exact HFR2.out
      · have c1 : wN.cell? ⟨w.heap.size + 1, 3, none⟩ = some (.int .i64 ID) := by simp [World.cell?, e3]
        have c2 : wr.cell? ⟨w.heap.size + 1, 3, none⟩ = some (.int .i64 AI) := by simp [World.cell?, HQ1.out]
        rw [c1, c2]
        simp [intOf]
        omega
    · have hin' : decide (0 < a.inst) = false := by simpa using hin
      have hz : a.inst = 0 := by omega
      rw [frs_zero (by omega)] at hfr
      have o0 : wr.cell? ⟨w.heap.size + 2, 0, none⟩ = some (.string nm) := by simp [World.cell?, q2]
      have o1 : wr.cell? ⟨w.heap.size + 2, 1, none⟩ = some (.string fl) := by simp [World.cell?, q2]
      have o2 : wr.cell? ⟨w.heap.size + 2, 2, none⟩ = some (.slice la xl lcap) := by simp [World.cell?, q2]
      have o3 : wr.cell? ⟨w.heap.size + 2, 3, none⟩ = some (.slice xa xi xcap) := by simp [World.cell?, q2]
      have o4 : wr.cell? ⟨w.heap.size + 2, 4, none⟩ = some (.slice ta tl tcap) := by simp [World.cell?, q2]
      have HFO := hid (fun W => frameOf_any nm fl la xa ta xl xi tl lcap xcap tcap a.line W)
      obtain ⟨AL, hAL⟩ : ∃ v, v = a.line := ⟨_, rfl⟩
      rw [← hAL] at hfr b2 HFO
      obtain ⟨an, han⟩ : ∃ v, v = acc.length := ⟨_, rfl⟩
      rw [← han] at hown hv1 hi3 ⊢
      obtain ⟨XS, hXS⟩ : ∃ v, v = (acc.map frCells).flatten := ⟨_, rfl⟩
      rw [← hXS] at hown
      have HFE : Hid (FR.length = an + 1 ∧ (FR.map frCells).flatten = XS ++ [.string nm, .string fl, .int .i64 AL]) := hid (by
        rw [← hfr, ← HNM.out, ← HFLE.out, List.length_append, ← han, List.map_append, List.flatten_append, ← hXS]
        exact ⟨rfl, rfl⟩)
      have HOW := hid hown
      have HBEL := hid hbel
      clear hown hbel hfr hAL han hXS q0 q1 q2 b1
      go_wp2_with (first | (go_at_call 211; refine (HFO.out _).mono ?_; rintro e w5 ⟨rfl, hb5⟩) | (at_builtin; refine wpList_append_lies _ rfl (.tmp 51) (.tmp 56) 38 rfl (w.heap.size + 3) 107 i0 (.agg #[.string ⟨#[]⟩, .string ⟨#[]⟩, .int .i64 0]) 3 40 Tryz.underlying38 hi hz0 hz1 hz2 rfl (by decide) _ _ _ rfl ((ownsRow_below HOW.out hb5).alloc _) ⟨w5.heap.size, 0, none⟩ 1 1 [.string nm, .string fl, .int .i64 AL] rfl rfl (three_new_at rfl _ _ _ _) (three_one_sf _ _ _) (by decide) (by unfold maxLen; omega) (by omega) (by have := hb5.size; simp; omega) _ rfl ?_))
      intro g' c' w9 hown9 hgrow9 _ _
      have hb9 : Below w.heap.size w w9 := ((HBEL.out.trans (hb5.mono hsz)).alloc (by have := hb5.size; omega) _).grown hgrow9 (by have := hb5.size; simp; omega) (fun b hb => by have := (HOW.out.lt b hb).1; omega)
      have HF := hid (⟨owns_low9 hown9 (show w.heap.size ≤ w.heap.size + 3 by omega), hb9⟩ : _ ∧ _)
      clear hown9 hgrow9 hb9 hb5 HOW HBEL
      go_wp2
      refine bodyPost_ret (v := .slice (some ⟨g', 0, none⟩) (an + 1) c') (by simp [results, Tryz.results166, go_sem]) rfl ⟨some ⟨g', 0, none⟩, c', by rw [HFE.out.1], ?_, HF.out.2⟩
      rw [HFE.out.1, HFE.out.2]
      exact HF.out.1
end Go.Proofs.YtffnfjkjlmlonaaGreatDoor
