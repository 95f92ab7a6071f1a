/- Contracts of unfoldkeep's built and pcs. Contracts of unfoldkeep's sameFrames, of and alone. Contracts of the machine's method State, the developers' own and unfold's. -/
import Derived.Test.YthaganponmnanaaGreatDoorZ41
import Derived.Test.YthaganponmnanaaGreatDoorZ42
import Derived.Test.YthaganponmnanaaGreatDoorZ38
import Derived.Test.YthaganponmnanaaGreatDoorZ34
namespace Go.Proofs.YthaganponmnanaaGreatDoor
open Go.RowKit

set_option maxHeartbeats 4000000 in
set_option maxRecDepth 100000 in
theorem built_any (pa : Option Addr) (pcap : Nat) (p : List FnD) (raw : Int) (w : World) (hp : RdP w pa p.length pcap p) (hraw : R64 raw) (hc : chk p = (0, 0, 0)) (hH : HeadAt w) :
    Calls Tryz.prog 6 #[.agg #[.slice pa p.length pcap], .int .i64 raw] w fun e w' => Below w.heap.size w w' ∧ ∃ (n : Int) (cs : List CodeD) (v : Value), 0 ≤ n ∧ n ≤ 30 ∧ codesD p n = some cs ∧
      e = .returned (.tuple #[v, .int .i64 n, .bool true]) ∧ w'.ownsRow w.heap.size 5 1 v (encI (imgD p cs)).length (u8s (encI (imgD p cs))) := by
  obtain ⟨wA, hwA⟩ : ∃ wA, wA = w.alloc (Obj.cells #[.slice pa p.length pcap] 24) := ⟨_, rfl⟩
  have hbA : Below w.heap.size w wA := by rw [hwA]; exact (Below.refl _ _).alloc (Nat.le_refl _) _
  have hsA : wA.heap.size = w.heap.size + 1 := by rw [hwA]; simp
  have kA : wA.heap[w.heap.size]? = some (.cells #[.slice pa p.length pcap] 24 (0, 0)) := by rw [hwA]; exact heap_new_at rfl
  have cA : wA.cell? ⟨w.heap.size, 0, none⟩ = some (.slice pa p.length pcap) := by simp [World.cell?, kA]
  have HC0 := hid (fun W => pick_any raw 31 W hraw.1 hraw.2 (by omega) (by omega))
  obtain ⟨n, hn⟩ : ∃ n, n = pickI raw 31 := ⟨_, rfl⟩
  have hb := pickI_lt raw (n := 31) (by omega)
  rw [← hn] at HC0 hb
  clear hn
  have HB1 := hid (fun (bud : Int) (hb : R64 bud) (W : World) (hW : Below w.heap.size w W) => uBuild_any pa pcap p bud W (hp.below hW) hb (hH.below hW (Nat.le_refl _)))
  have HE := hid (layE_cases hc hb.1 (by omega : n ≤ 30))
  have HZ := hid (layE_zero hc)
  have HBA := hid hbA
  generalize p.length = pl at *
  clear hp hH hc hbA kA
  go_enter Tryz.func6, Tryz.ntmps6
  go_wp2_with fail
  rw [← hwA]
  clear hwA
  refine (HC0.out wA).mono ?_
  rintro e w' ⟨rfl, he⟩
  rw [he]
  clear he w'
  go_wp2_with fail
  refine (HB1.out n ⟨by omega, by omega⟩ wA HBA.out).mono ?_
  rintro e w1 ⟨hb1, h⟩
  have hs1 := hb1.size
  have HBL := hid (HBA.out.trans (hb1.mono HBA.out.size))
  rcases h with ⟨h0, rfl⟩ | ⟨h0, cs, v, hcs, rfl, hown⟩
  · have h11 : layE p n = 11 := HE.out.resolve_left h0
    rw [h11]
    have cA1 := (hb1.cell (p := ⟨w.heap.size, 0, none⟩) (by simp; omega)).trans cA
    clear h0 h11 hb1 cA
    go_wp2_with fail
    refine (HB1.out 0 ⟨by omega, by omega⟩ w1 HBL.out).mono ?_
    rintro e w2 ⟨hb2, h⟩
    rcases h with ⟨h0, rfl⟩ | ⟨h0, cs, v, hcs, rfl, hown⟩
    · exact absurd HZ.out h0
    · have HF := hid (⟨HBL.out.trans (hb2.mono HBL.out.size), owns_low9 hown (show w.heap.size ≤ w1.heap.size by omega)⟩ : _ ∧ _)
      clear hown hb2
      go_wp2
      exact bodyPost_ret (v := .tuple #[v, .int .i64 0, .bool true]) (by simp [results, Tryz.results6, go_sem]) rfl ⟨HF.out.1, 0, cs, v, by omega, by omega, hcs, rfl, HF.out.2⟩
  · have HF := hid (owns_low9 hown (show w.heap.size ≤ wA.heap.size by omega))
    clear hown hb1 h0
    go_wp2
    exact bodyPost_ret (v := .tuple #[v, .int .i64 n, .bool true]) (by simp [results, Tryz.results6, go_sem]) rfl ⟨HBL.out, n, cs, v, by omega, by omega, hcs, rfl, HF.out⟩

end Go.Proofs.YthaganponmnanaaGreatDoor
namespace Go.Proofs.YthaganponmnanaaGreatDoor
open Go.RowKit

set_option maxHeartbeats 2000000 in
set_option maxRecDepth 100000 in
theorem kSame_any (a : Option Addr) (n cap : Nat) (l : List FrameD) (a2 : Option Addr) (cap2 : Nat) (w : World) (hr : RdL 3 RdFrame w a n cap l) (hr2 : RdL 3 RdFrame w a2 n cap2 l) :
    Calls Tryz.prog 18 #[.slice a n cap, .slice a2 n cap2] w fun e w' => e = .returned (.bool true) ∧ Below w.heap.size w w' := by
  have HL := hid hr.1
  have h1 := hr.2.1
  have h2 := hr.2.2.1
  have h3 := hr2.2.1
  have h4 := hr2.2.2.1
  unfold maxLen at h2 h4
  have HR := hid hr
  have HR2 := hid hr2
  clear hr hr2
  go_enter Tryz.func18, Tryz.ntmps18
  go_wp2
  go_loopw [5] (fun i wr => ∃ j : Nat, i = .int .i64 j ∧ j ≤ n ∧ Below w.heap.size w wr) (fun i _ => n - (intOf i).toNat)
  case atStart => exact ⟨0, rfl, by omega, Below.refl _ _⟩
  case round =>
    obtain ⟨j, rfl, hj, hb2⟩ := hrel
    by_cases hlt2 : j < n
    · obtain ⟨x, hx⟩ : ∃ x, l[j]? = some x := ⟨_, List.getElem?_eq_getElem (by rw [HL.out]; exact hlt2)⟩
      obtain ⟨xb, xoff, rfl, c0, c1, c2⟩ := (HR.out.below hb2 (fun _ _ h => h)).frameAt j x hx
      obtain ⟨yb, yoff, rfl, d0, d1, d2⟩ := (HR2.out.below hb2 (fun _ _ h => h)).frameAt j x hx
      have hjn : (j : Int) < (n : Int) := by omega
      clear hx
      obtain ⟨s1, s2, i3⟩ := x
      simp only at c0 c1 c2 d0 d1 d2
      go_wp2
      go_quiet (fail)
      go_wp2
      go_roundw
      case rel => exact ⟨j + 1, by go_num, by omega, below_drawn hb2 nq⟩
      case measure => simp [intOf]; omega
    · go_wp2
      go_ret
      exact ⟨rfl, hb2⟩

/-- The last frame of a pc is that of the function in whose code it is. -/
theorem frs_last {L : List EntD} {P : List PlcD} {own : EntD} {n : Nat} {f s : Nat} (hg : EntG n own) (hall : ∀ j, j < (unroll own.lines).length → P[s + j]? = some ⟨f, s, (unroll own.lines).getD j 0, (unroll own.index).getD j 0⟩) :
    ∀ (fu : Nat) (a : PlcD) (acc : List FrameD), a.first = s → 0 ≤ a.inst → a.inst ≤ own.tree.length → 1 ≤ a.line → ∃ pre ln, frs L P own fu a acc = pre ++ [⟨own.name, own.file, ln⟩] ∧ 1 ≤ ln
  | 0, a, acc, _, _, _, hl => ⟨acc, a.line, rfl, hl⟩
  | fu + 1, a, acc, hs, h0, h1, hl => by
    unfold frs
    split
    · exact ⟨acc, a.line, rfl, hl⟩
    · obtain ⟨nd, hnd⟩ : ∃ nd, own.tree[(a.inst - 1).toNat]? = some nd := ⟨_, List.getElem?_eq_getElem (by omega)⟩
      obtain ⟨-, ⟨g3, g4⟩, -⟩ := hg.node _ nd hnd
      have hgd : own.tree.getD (a.inst - 1).toNat (0, 0) = nd := by rw [List.getD, hnd]; rfl
      rw [hgd]
      have hd := hall nd.2.toNat (by omega)
      have e3 : P.getD (a.first + nd.2).toNat noP = ⟨f, s, (unroll own.lines).getD nd.2.toNat 0, (unroll own.index).getD nd.2.toNat 0⟩ := by
        rw [hs, show ((s : Int) + nd.2).toNat = s + nd.2.toNat by omega, List.getD, hd]; rfl
      rw [e3]
      have hj : nd.2.toNat < (unroll own.lines).length := by omega
      have hj2 : nd.2.toNat < (unroll own.index).length := by rw [hg.len]; exact hj
      have hi := hg.inst ((unroll own.index).getD nd.2.toNat 0) (by rw [List.getD, List.getElem?_eq_getElem hj2]; exact List.getElem_mem _)
      have hln := hg.line ((unroll own.lines).getD nd.2.toNat 0) (by rw [List.getD, List.getElem?_eq_getElem hj]; exact List.getElem_mem _)
      exact frs_last hg hall fu _ _ rfl hi.1 hi.2 hln.1
theorem frsD_last {L : List EntD} (hg : ∀ x ∈ L, EntG L.length x) {pc : Nat} (hpc : pc < (plcD L).length) : ∃ (f : Nat) (x : EntD) (pre : List FrameD) (ln : Int), ofD L pc 0 = f ∧ L[f]? = some x ∧ frsD L (plcD L) pc = pre ++ [⟨x.name, x.file, ln⟩] ∧ 1 ≤ ln := by
  obtain ⟨A, hA⟩ : ∃ a, (plcD L)[pc]? = some a := ⟨_, List.getElem?_eq_getElem hpc⟩
  obtain ⟨f, s, x, e1, e2, hx, hs1, hs2, hall⟩ := plcD_ok hg pc A hA
  have hgx := hg x (List.mem_of_getElem? hx)
  have hAe : A = ⟨f, s, (unroll x.lines).getD (pc - s) 0, (unroll x.index).getD (pc - s) 0⟩ := by
    have := hall (pc - s) (by omega)
    rw [show s + (pc - s) = pc by omega, hA] at this
    exact Option.some.inj this
  have hj : pc - s < (unroll x.lines).length := by omega
  have hj2 : pc - s < (unroll x.index).length := by rw [hgx.len]; exact hj
  have hi := hgx.inst ((unroll x.index).getD (pc - s) 0) (by rw [List.getD, List.getElem?_eq_getElem hj2]; exact List.getElem_mem _)
  have hln := hgx.line ((unroll x.lines).getD (pc - s) 0) (by rw [List.getD, List.getElem?_eq_getElem hj]; exact List.getElem_mem _)
  have hof : ofD L pc 0 = A.fn := by
    have := plcF_of L 0 [] pc A hg (by simp) hA
    simpa using this
  obtain ⟨pre, ln, h1, h2⟩ := frs_last (L := L) (P := plcD L) hgx hall A.inst.toNat A [] e2 (by rw [hAe]; exact hi.1) (by rw [hAe]; exact hi.2) (by rw [hAe]; exact hln.1)
  refine ⟨f, x, pre, ln, by rw [hof, e1], hx, ?_, h2⟩
  unfold frsD
  have g1 : (plcD L).getD pc noP = A := by rw [List.getD, hA]; rfl
  rw [g1, e1]
  have g2 : L.getD ((f : Int)).toNat noE = x := by rw [List.getD, show ((f : Int)).toNat = f by omega, hx]; rfl
  rw [g2]
  exact h1
end Go.Proofs.YthaganponmnanaaGreatDoor
namespace Go.Proofs.YthaganponmnanaaGreatDoor
open Go.RowKit

set_option maxHeartbeats 4000000 in
set_option maxRecDepth 100000 in
theorem mState_any (p : List FnD) (bud : Int) (mb : Nat) (X : RX) (w0 : World) (s : StandD) (w : World) (hgd : Good (strip p)) (hw : Wf (strip p) s) (hm : MachAt p bud mb X w0 w s) :
    Calls Tryz.prog 26 #[.pointer (some ⟨mb, 0, none⟩)] w fun e w' => e = .returned (.tuple #[.int .i64 s.status, .int .i64 s.value]) ∧ Below w.heap.size w w' := by
  have HS := hid (State_any X w0 (strip p) mb s w hgd hw hm.run)
  clear hm hgd hw
  generalize toldD (strip p) s = fr at *
  generalize fr.length = n at *
  go_enter Tryz.func26, Tryz.ntmps26
  go_wp2_with fail
  refine HS.out.mono ?_
  clear HS
  rintro e w1 ⟨a, cap, rfl, ho, hb⟩
  obtain ⟨wz, hwz⟩ : ∃ v, v = w1.alloc (Obj.cells #[.int .i64 s.status, .int .i64 s.value, .slice a n cap] 59) := ⟨_, rfl⟩
  have hbz : Below w.heap.size w wz := by rw [hwz]; exact hb.alloc hb.size _
  have kz : wz.heap[w1.heap.size]? = some (.cells #[.int .i64 s.status, .int .i64 s.value, .slice a n cap] 59 (0, 0)) := by rw [hwz]; exact heap_new_at rfl
  have z0 : wz.cell? ⟨w1.heap.size, 0, none⟩ = some (.int .i64 s.status) := by simp [World.cell?, kz]
  have z1 : wz.cell? ⟨w1.heap.size, 1, none⟩ = some (.int .i64 s.value) := by simp [World.cell?, kz]
  have HBZ := hid hbz
  clear ho kz hbz
  go_wp2
  rw [← hwz]
  clear hwz
  go_region
  go_wp2
  exact bodyPost_ret (v := .tuple #[.int .i64 s.status, .int .i64 s.value]) (by simp [results, Tryz.results26, go_sem]) rfl ⟨rfl, HBZ.out.drew⟩

set_option maxHeartbeats 4000000 in
set_option maxRecDepth 100000 in
theorem uState_any (p : List FnD) (bud : Int) (mb : Nat) (X : RX) (w0 : World) (s : StandD) (w : World) (hgd : Good (strip p)) (hw : Wf (strip p) s) (hm : MachAt p bud mb X w0 w s) :
    Calls Tryz.prog 15 #[.pointer (some ⟨mb, 0, none⟩)] w fun e w' => e = .returned (.tuple #[.int .i64 s.status, .int .i64 s.value]) ∧ Below w.heap.size w w' := by
  have HS := hid (mState_any p bud mb X w0 s w hgd hw hm)
  clear hm hgd hw
  go_enter Tryz.func15, Tryz.ntmps15
  go_wp2_with fail
  refine HS.out.mono ?_
  clear HS
  rintro e w1 ⟨rfl, hb⟩
  have HB := hid hb
  clear hb
  go_wp2
  exact bodyPost_ret (v := .tuple #[.int .i64 s.status, .int .i64 s.value]) (by simp [results, Tryz.results15, go_sem]) rfl ⟨rfl, HB.out⟩

end Go.Proofs.YthaganponmnanaaGreatDoor
