/- Contracts of unfoldkeep's built and pcs. Contracts of unfoldkeep's sameFrames, of and alone. The contract of strconv.Itoa, laid at this program. -/
import Derived.Test.YtebjndcokkefhaaDoorZ41
import Derived.Test.YtebjndcokkefhaaDoorZ38
import Derived.Shelf.LaysM
import Derived.Shelf.Strconv.Itoa3
import Derived.Test.YtebjndcokkefhaaDoorProg
namespace Go.Proofs.YtebjndcokkefhaaDoor
open Go.RowKit

set_option maxHeartbeats 4000000 in
set_option maxRecDepth 100000 in
theorem built_any (pa : Option Addr) (pcap : Nat) (p : List FnD) (raw : Int) (w : World) (hp : RdP w pa p.length pcap p) (hraw : R64 raw) (hc : chk p = (0, 0, 0)) (hH : HeadAt w) :
    Calls Tryd.prog 8 #[.agg #[.slice pa p.length pcap], .int .i64 raw] w fun e w' => Below w.heap.size w w' ∧ ∃ (n : Int) (cs : List CodeD) (v : Value), 0 ≤ n ∧ n ≤ 30 ∧ codesD p n = some cs ∧
      e = .returned (.tuple #[v, .int .i64 n, .bool true]) ∧ w'.ownsRow w.heap.size 5 1 v (encI (imgD p cs)).length (u8s (encI (imgD p cs))) := by
  obtain ⟨wA, hwA⟩ : ∃ wA, wA = w.alloc (Obj.cells #[.slice pa p.length pcap] 24) := ⟨_, rfl⟩
  have hbA : Below w.heap.size w wA := by rw [hwA]; exact (Below.refl _ _).alloc (Nat.le_refl _) _
  have hsA : wA.heap.size = w.heap.size + 1 := by rw [hwA]; simp
  have kA : wA.heap[w.heap.size]? = some (.cells #[.slice pa p.length pcap] 24 (0, 0)) := by rw [hwA]; exact heap_new_at rfl
  have cA : wA.cell? ⟨w.heap.size, 0, none⟩ = some (.slice pa p.length pcap) := by simp [World.cell?, kA]
  have HC0 := hid (fun W => pick_any raw 31 W hraw.1 hraw.2 (by omega) (by omega))
  obtain ⟨n, hn⟩ : ∃ n, n = pickI raw 31 := ⟨_, rfl⟩
  have hb := pickI_lt raw (n := 31) (by omega)
  rw [← hn] at HC0 hb
  clear hn
  have HB1 := hid (fun (bud : Int) (hb : R64 bud) (W : World) (hW : Below w.heap.size w W) => uBuild_any pa pcap p bud W (hp.below hW) hb (hH.below hW (Nat.le_refl _)))
  have HE := hid (layE_cases hc hb.1 (by omega : n ≤ 30))
  have HZ := hid (layE_zero hc)
  have HBA := hid hbA
  generalize p.length = pl at *
  clear hp hH hc hbA kA
  go_enter Tryd.func8, Tryd.ntmps8
  go_wp2_with fail
  rw [← hwA]
  clear hwA
  refine (HC0.out wA).mono ?_
  rintro e w' ⟨rfl, he⟩
  rw [he]
  clear he w'
  go_wp2_with fail
  refine (HB1.out n ⟨by omega, by omega⟩ wA HBA.out).mono ?_
  rintro e w1 ⟨hb1, h⟩
  have hs1 := hb1.size
  have HBL := hid (HBA.out.trans (hb1.mono HBA.out.size))
  rcases h with ⟨h0, rfl⟩ | ⟨h0, cs, v, hcs, rfl, hown⟩
  · have h11 : layE p n = 11 := HE.out.resolve_left h0
    rw [h11]
    have cA1 := (hb1.cell (p := ⟨w.heap.size, 0, none⟩) (by simp; omega)).trans cA
    clear h0 h11 hb1 cA
    go_wp2_with fail
    refine (HB1.out 0 ⟨by omega, by omega⟩ w1 HBL.out).mono ?_
    rintro e w2 ⟨hb2, h⟩
    rcases h with ⟨h0, rfl⟩ | ⟨h0, cs, v, hcs, rfl, hown⟩
    · exact absurd HZ.out h0
    · have HF := hid (⟨HBL.out.trans (hb2.mono HBL.out.size), owns_low9 hown (show w.heap.size ≤ w1.heap.size by omega)⟩ : _ ∧ _)
      clear hown hb2
      go_wp2
      exact bodyPost_ret (v := .tuple #[v, .int .i64 0, .bool true]) (by simp [results, Tryd.results8, go_sem]) rfl ⟨HF.out.1, 0, cs, v, by omega, by omega, hcs, rfl, HF.out.2⟩
  · have HF := hid (owns_low9 hown (show w.heap.size ≤ wA.heap.size by omega))
    clear hown hb1 h0
    go_wp2
    exact bodyPost_ret (v := .tuple #[v, .int .i64 n, .bool true]) (by simp [results, Tryd.results8, go_sem]) rfl ⟨HBL.out, n, cs, v, by omega, by omega, hcs, rfl, HF.out⟩

set_option maxHeartbeats 1000000 in
set_option maxRecDepth 100000 in
theorem kPcs_any (a : Option Addr) (len cap : Nat) (l : List (Int × Int)) (w : World) (hr : RdS w a len cap l) (hwf : wfS l (-1) 1000 = true) :
    Calls Tryd.prog 23 #[.slice a len cap] w fun e w' => e = .returned (.int .i64 (sumS l)) ∧ Below w.heap.size w w' := by
  have HL := hid hr.hlen
  have hmax := hr.hmax
  have hcap := hr.hcap
  unfold maxLen at hmax
  go_enter Tryd.func23, Tryd.ntmps23
  go_wp2
  go_loopw [3, 4] (fun n i wr => ∃ k : Nat, i = .int .i64 k ∧ k ≤ len ∧ n = .int .i64 (sumS (l.take k)) ∧ Below w.heap.size w wr) (fun _ i _ => len - (intOf i).toNat)
  case atStart => exact ⟨0, rfl, by omega, rfl, Below.refl _ _⟩
  case round =>
    obtain ⟨k, rfl, hk, rfl, hbel⟩ := hrel
    have hsz := hbel.size
    by_cases hlt : k < len
    · obtain ⟨b0, off, rfl, hc⟩ := (hr.below hbel (Nat.le_refl _)).open (by omega)
      obtain ⟨hc1, hc2⟩ := hc k hlt
      have hb0 := World.block_lt_of_cell? wr _ hc1
      obtain ⟨g1, g2, g3, g4, _⟩ := sum_take (l := l) (-1) 1000 k hwf (by omega) (by rw [HL.out]; exact hlt)
      have G4 := hid g4
      obtain ⟨⟨v, n⟩, hp⟩ : ∃ p, l.getD k (0, 0) = p := ⟨_, rfl⟩
      rw [hp] at hc1 hc2 g2 g3 G4
      simp only at hc1 hc2 hb0 g2 g3
      generalize sumS (l.take k) = q at *
      clear hr hc hp hwf g4
      go_wp2
      go_roundw
      case rel => exact ⟨k + 1, by go_num, by omega, by rw [G4.out], hbel⟩
      case measure => simp [intOf]; omega
    · have hk' : k = len := by omega
      subst hk'
      have HF : Hid (sumS (l.take k) = sumS l) := by show _ = _; rw [List.take_of_length_le (by rw [HL.out]; omega)]
      go_wp2
      go_ret
      exact ⟨ret_int HF.out, hbel⟩
end Go.Proofs.YtebjndcokkefhaaDoor
namespace Go.Proofs.YtebjndcokkefhaaDoor
open Go.RowKit

set_option maxHeartbeats 2000000 in
set_option maxRecDepth 100000 in
theorem kSame_any (a : Option Addr) (n cap : Nat) (l : List FrameD) (a2 : Option Addr) (cap2 : Nat) (w : World) (hr : RdL 3 RdFrame w a n cap l) (hr2 : RdL 3 RdFrame w a2 n cap2 l) :
    Calls Tryd.prog 26 #[.slice a n cap, .slice a2 n cap2] w fun e w' => e = .returned (.bool true) ∧ Below w.heap.size w w' := by
  have HL := hid hr.1
  have h1 := hr.2.1
  have h2 := hr.2.2.1
  have h3 := hr2.2.1
  have h4 := hr2.2.2.1
  unfold maxLen at h2 h4
  have HR := hid hr
  have HR2 := hid hr2
  clear hr hr2
  go_enter Tryd.func26, Tryd.ntmps26
  go_wp2
  go_loopw [5] (fun i wr => ∃ j : Nat, i = .int .i64 j ∧ j ≤ n ∧ Below w.heap.size w wr) (fun i _ => n - (intOf i).toNat)
  case atStart => exact ⟨0, rfl, by omega, Below.refl _ _⟩
  case round =>
    obtain ⟨j, rfl, hj, hb2⟩ := hrel
    by_cases hlt2 : j < n
    · obtain ⟨x, hx⟩ : ∃ x, l[j]? = some x := ⟨_, List.getElem?_eq_getElem (by rw [HL.out]; exact hlt2)⟩
      obtain ⟨xb, xoff, rfl, c0, c1, c2⟩ := (HR.out.below hb2 (fun _ _ h => h)).frameAt j x hx
      obtain ⟨yb, yoff, rfl, d0, d1, d2⟩ := (HR2.out.below hb2 (fun _ _ h => h)).frameAt j x hx
      have hjn : (j : Int) < (n : Int) := by omega
      clear hx
      obtain ⟨s1, s2, i3⟩ := x
      simp only at c0 c1 c2 d0 d1 d2
      go_wp2
      go_quiet (fail)
      go_wp2
      go_roundw
      case rel => exact ⟨j + 1, by go_num, by omega, below_drawn hb2 nq⟩
      case measure => simp [intOf]; omega
    · go_wp2
      go_ret
      exact ⟨rfl, hb2⟩

set_option maxHeartbeats 4000000 in
set_option maxRecDepth 100000 in
theorem kOf_any (ia : Option Addr) (icap : Nat) (L : List EntD) (pc : Nat) (w : World) (hr : RdI w ia L.length icap L) (hg : ∀ x ∈ L, EntG L.length x) (h12 : L.length ≤ 12) (hpc : pc ≤ 100000) :
    Calls Tryd.prog 38 #[.agg #[.slice ia L.length icap], .int .i64 pc] w fun e w' => e = .returned (.int .i64 (ofD L pc 0)) ∧ Below w.heap.size w w' := by
  have HR := hid hr
  have HG := hid hg
  have hc1 := hr.2.1
  have hc2 := hr.2.2.1
  unfold maxLen at hc2
  obtain ⟨n, hn⟩ : ∃ v, v = L.length := ⟨_, rfl⟩
  rw [← hn] at HR HG hc1 h12 ⊢
  have HN := hid hn
  obtain ⟨wb, hwb⟩ : ∃ v, v = w.alloc (Obj.cells #[.slice ia n icap] 31) := ⟨_, rfl⟩
  have hbb : Below w.heap.size w wb := by rw [hwb]; exact (Below.refl _ _).alloc (Nat.le_refl _) _
  have hbs : wb.heap.size = w.heap.size + 1 := by rw [hwb]; simp
  have k0 : wb.heap[w.heap.size]? = some (.cells #[.slice ia n icap] 31 (0, 0)) := by rw [hwb]; exact heap_new_at rfl
  have HK0 := hid k0
  have HBB := hid hbb
  have hp0 : decide ((pc : Int) < 0) = false := by simp
  clear hr hg hn k0 hbb
  go_enter Tryd.func38, Tryd.ntmps38
  go_wp2
  rw [← hwb]
  clear hwb
  go_loopw [1, 5, 6] (fun p f _ wr => ∃ k c : Nat, p = .int .i64 c ∧ f = .int .i64 k ∧ k ≤ n ∧ c ≤ 100000 ∧ ofD L pc 0 = ofD (L.drop k) c k ∧ Below wb.heap.size wb wr) (fun _ f _ _ => n - (intOf f).toNat)
  case atStart => exact ⟨0, pc, rfl, rfl, by omega, hpc, rfl, Below.refl _ _⟩
  case round =>
    obtain ⟨k, c, rfl, rfl, hk, hc, hof, hbel⟩ := hrel
    have hsz := hbel.size
    have hbw : Below w.heap.size w wr := HBB.out.trans (hbel.mono HBB.out.size)
    have p0 : wr.cell? ⟨w.heap.size, 0, none⟩ = some (.slice ia n icap) := by
      have h := (hbel.block w.heap.size (by omega)).trans HK0.out
      simp [World.cell?, h]
    by_cases hkn : k < n
    · have hkn' : (k : Int) < (n : Int) := by omega
      obtain ⟨x, hx⟩ : ∃ x, L[k]? = some x := ⟨_, List.getElem?_eq_getElem (by rw [← HN.out]; exact hkn)⟩
      have hgx := HG.out x (List.mem_of_getElem? hx)
      obtain ⟨eb, eoff, la, lcap, xa, xcap, ta, tcap, rfl, m0, m1, m2, m3, m4, hrl, -, -⟩ := (HR.out.below hbw).at hx
      have heb : eb < wr.heap.size := World.block_lt_of_cell? wr _ m0
      have HPC := hid (kPcs_any la x.lines.length lcap x.lines wr hrl hgx.wl)
      obtain ⟨M, hM⟩ : ∃ v : Nat, (v : Int) = sumS x.lines := ⟨(unroll x.lines).length, hgx.sum⟩
      have hM1 : M ≤ 1000 := by have := hgx.most; have := hgx.sum; omega
      rw [← hM] at HPC
      have HOFD : Hid (ofD L pc 0 = if (c : Int) < M then (k : Int) else ofD (L.drop (k + 1)) ((c : Int) - M) (k + 1)) := hid (by
        obtain ⟨h1, h2⟩ := List.getElem?_eq_some_iff.1 hx
        rw [hof, List.drop_eq_getElem_cons h1, h2, hM]
        rfl)
      generalize x.lines.length = xl at *
      have HB := hid hbel
      clear hx hgx hrl hof hbel hbw hM m0 m1 m3 m4
      go_wp2_with fail
      refine HPC.out.mono ?_
      rintro e w3 ⟨rfl, hb3⟩
      have hs3 := hb3.size
      have HB3 := hid (HB.out.trans (hb3.mono hsz))
      clear hb3 HPC p0 m2
      by_cases hcm : c < M
      · have hcm' : (c : Int) < (M : Int) := by omega
        have HF : Hid (ofD L pc 0 = (k : Int)) := hid (by rw [HOFD.out, if_pos hcm'])
        have HBF := hid (HBB.out.trans (HB3.out.mono HBB.out.size))
        go_wp2
        go_ret
        exact ⟨ret_int HF.out.symm, HBF.out⟩
      · have hcm' : decide ((c : Int) < (M : Int)) = false := by simp; omega
        have HF : Hid (ofD L pc 0 = ofD (L.drop (k + 1)) ((c - M : Nat) : Int) (k + 1)) := hid (by rw [HOFD.out, if_neg (by omega), show ((c - M : Nat) : Int) = (c : Int) - M by omega])
        have ew : IntKind.i64.wrap ((c : Int) - (M : Int)) = ((c - M : Nat) : Int) := by rw [IntKind.wrap_i64]; omega
        go_wp2
        go_roundw
        case rel => exact ⟨k + 1, c - M, by first | rfl | (congr 1; omega), by go_num, by omega, by omega, HF.out, HB3.out⟩
        case measure => simp [intOf]; omega
    · have hkn' : decide ((k : Int) < (n : Int)) = false := by simp; omega
      have HF : Hid (ofD L pc 0 = -1) := hid (by rw [hof, List.drop_of_length_le (by have := HN.out; omega)]; rfl)
      clear hof hbel
      go_wp2
      go_ret
      exact ⟨ret_int HF.out.symm, hbw⟩

/-- The last frame of a pc is that of the function in whose code it is. -/
theorem frs_last {L : List EntD} {P : List PlcD} {own : EntD} {n : Nat} {f s : Nat} (hg : EntG n own) (hall : ∀ j, j < (unroll own.lines).length → P[s + j]? = some ⟨f, s, (unroll own.lines).getD j 0, (unroll own.index).getD j 0⟩) :
    ∀ (fu : Nat) (a : PlcD) (acc : List FrameD), a.first = s → 0 ≤ a.inst → a.inst ≤ own.tree.length → 1 ≤ a.line → ∃ pre ln, frs L P own fu a acc = pre ++ [⟨own.name, own.file, ln⟩] ∧ 1 ≤ ln
  | 0, a, acc, _, _, _, hl => ⟨acc, a.line, rfl, hl⟩
  | fu + 1, a, acc, hs, h0, h1, hl => by
    unfold frs
    split
    · exact ⟨acc, a.line, rfl, hl⟩
    · obtain ⟨nd, hnd⟩ : ∃ nd, own.tree[(a.inst - 1).toNat]? = some nd := ⟨_, List.getElem?_eq_getElem (by omega)⟩
      obtain ⟨-, ⟨g3, g4⟩, -⟩ := hg.node _ nd hnd
      have hgd : own.tree.getD (a.inst - 1).toNat (0, 0) = nd := by rw [List.getD, hnd]; rfl
      rw [hgd]
      have hd := hall nd.2.toNat (by omega)
      have e3 : P.getD (a.first + nd.2).toNat noP = ⟨f, s, (unroll own.lines).getD nd.2.toNat 0, (unroll own.index).getD nd.2.toNat 0⟩ := by
        rw [hs, show ((s : Int) + nd.2).toNat = s + nd.2.toNat by omega, List.getD, hd]; rfl
      rw [e3]
      have hj : nd.2.toNat < (unroll own.lines).length := by omega
      have hj2 : nd.2.toNat < (unroll own.index).length := by rw [hg.len]; exact hj
      have hi := hg.inst ((unroll own.index).getD nd.2.toNat 0) (by rw [List.getD, List.getElem?_eq_getElem hj2]; exact List.getElem_mem _)
      have hln := hg.line ((unroll own.lines).getD nd.2.toNat 0) (by rw [List.getD, List.getElem?_eq_getElem hj]; exact List.getElem_mem _)
      exact frs_last hg hall fu _ _ rfl hi.1 hi.2 hln.1
theorem frsD_last {L : List EntD} (hg : ∀ x ∈ L, EntG L.length x) {pc : Nat} (hpc : pc < (plcD L).length) : ∃ (f : Nat) (x : EntD) (pre : List FrameD) (ln : Int), ofD L pc 0 = f ∧ L[f]? = some x ∧ frsD L (plcD L) pc = pre ++ [⟨x.name, x.file, ln⟩] ∧ 1 ≤ ln := by
  obtain ⟨A, hA⟩ : ∃ a, (plcD L)[pc]? = some a := ⟨_, List.getElem?_eq_getElem hpc⟩
  obtain ⟨f, s, x, e1, e2, hx, hs1, hs2, hall⟩ := plcD_ok hg pc A hA
  have hgx := hg x (List.mem_of_getElem? hx)
  have hAe : A = ⟨f, s, (unroll x.lines).getD (pc - s) 0, (unroll x.index).getD (pc - s) 0⟩ := by
    have := hall (pc - s) (by omega)
    rw [show s + (pc - s) = pc by omega, hA] at this
    exact Option.some.inj this
  have hj : pc - s < (unroll x.lines).length := by omega
  have hj2 : pc - s < (unroll x.index).length := by rw [hgx.len]; exact hj
  have hi := hgx.inst ((unroll x.index).getD (pc - s) 0) (by rw [List.getD, List.getElem?_eq_getElem hj2]; exact List.getElem_mem _)
  have hln := hgx.line ((unroll x.lines).getD (pc - s) 0) (by rw [List.getD, List.getElem?_eq_getElem hj]; exact List.getElem_mem _)
  have hof : ofD L pc 0 = A.fn := by
    have := plcF_of L 0 [] pc A hg (by simp) hA
    simpa using this
  obtain ⟨pre, ln, h1, h2⟩ := frs_last (L := L) (P := plcD L) hgx hall A.inst.toNat A [] e2 (by rw [hAe]; exact hi.1) (by rw [hAe]; exact hi.2) (by rw [hAe]; exact hln.1)
  refine ⟨f, x, pre, ln, by rw [hof, e1], hx, ?_, h2⟩
  unfold frsD
  have g1 : (plcD L).getD pc noP = A := by rw [List.getD, hA]; rfl
  rw [g1, e1]
  have g2 : L.getD ((f : Int)).toNat noE = x := by rw [List.getD, show ((f : Int)).toNat = f by omega, hx]; rfl
  rw [g2]
  exact h1
end Go.Proofs.YtebjndcokkefhaaDoor
namespace Go.Proofs
open Go.Shelf
def Tryd.laysM171_ren : Go.Shelf.Ren := ⟨fun | 171 => 55 | 243 => 87 | 246 => 112 | 283 => 119 | 284 => 120 | 285 => 121 | 286 => 122 | 129 => 125 | 317 => 124 | 318 => 126 | 319 => 127 | 320 => 128 | 337 => 129 | 338 => 130 | n => n, fun | 3 => 3 | 9 => 9 | 2 => 2 | 4 => 4 | 171 => 190 | 0 => 0 | 53 => 191 | 37 => 26 | 5 => 5 | 173 => 194 | 212 => 197 | 51 => 198 | 20 => 20 | 213 => 199 | 46 => 200 | 232 => 203 | 233 => 204 | n => n, fun | 17 => 1 | 18 => 2 | 19 => 3 | n => n⟩
theorem Tryd.laysM171 : Go.Proofs.LaysM.n171 Tryd.prog Tryd.laysM171_ren := {
  mixed := by kernel_rfl
  f129 := Tryd.func125.trans (congrArg some (by kernel_rfl))
  f171 := Tryd.func55.trans (congrArg some (by kernel_rfl))
  f243 := Tryd.func87.trans (congrArg some (by kernel_rfl))
  f246 := Tryd.func112.trans (congrArg some (by kernel_rfl))
  f283 := Tryd.func119.trans (congrArg some (by kernel_rfl))
  f284 := Tryd.func120.trans (congrArg some (by kernel_rfl))
  f285 := Tryd.func121.trans (congrArg some (by kernel_rfl))
  f286 := Tryd.func122.trans (congrArg some (by kernel_rfl))
  f317 := Tryd.func124.trans (congrArg some (by kernel_rfl))
  f318 := Tryd.func126.trans (congrArg some (by kernel_rfl))
  f319 := Tryd.func127.trans (congrArg some (by kernel_rfl))
  f320 := Tryd.func128.trans (congrArg some (by kernel_rfl))
  f337 := Tryd.func129.trans (congrArg some (by kernel_rfl))
  f338 := Tryd.func130.trans (congrArg some (by kernel_rfl))
  t0 := Tryd.underlying0
  a0 := Tryd.isAgg0
  z0 := Tryd.sizeOf0
  v0 := Tryd.zeroValue0
  t2 := Tryd.underlying2
  a2 := Tryd.isAgg2
  z2 := Tryd.sizeOf2
  v2 := Tryd.zeroValue2
  t3 := Tryd.underlying3
  a3 := Tryd.isAgg3
  z3 := Tryd.sizeOf3
  v3 := Tryd.zeroValue3
  t4 := Tryd.underlying4
  a4 := Tryd.isAgg4
  z4 := Tryd.sizeOf4
  v4 := Tryd.zeroValue4
  t5 := Tryd.underlying5
  a5 := Tryd.isAgg5
  z5 := Tryd.sizeOf5
  v5 := Tryd.zeroValue5
  t9 := Tryd.underlying9
  a9 := Tryd.isAgg9
  z9 := Tryd.sizeOf9
  v9 := Tryd.zeroValue9
  t20 := Tryd.underlying20
  a20 := Tryd.isAgg20
  z20 := Tryd.sizeOf20
  v20 := Tryd.zeroValue20
  t37 := Tryd.underlying26
  a37 := Tryd.isAgg26
  z37 := Tryd.sizeOf26
  v37 := Tryd.zeroValue26
  t46 := Tryd.underlying200
  a46 := Tryd.isAgg200
  z46 := Tryd.sizeOf200
  v46 := Tryd.zeroValue200
  t51 := Tryd.underlying198
  a51 := Tryd.isAgg198
  z51 := Tryd.sizeOf198
  v51 := Tryd.zeroValue198
  t53 := Tryd.underlying191
  a53 := Tryd.isAgg191
  z53 := Tryd.sizeOf191
  v53 := Tryd.zeroValue191
  t171 := Tryd.underlying190
  a171 := Tryd.isAgg190
  z171 := Tryd.sizeOf190
  v171 := Tryd.zeroValue190
  t173 := Tryd.underlying194
  a173 := Tryd.isAgg194
  z173 := Tryd.sizeOf194
  v173 := Tryd.zeroValue194
  t212 := Tryd.underlying197
  a212 := Tryd.isAgg197
  z212 := Tryd.sizeOf197
  v212 := Tryd.zeroValue197
  t213 := Tryd.underlying199
  a213 := Tryd.isAgg199
  z213 := Tryd.sizeOf199
  t232 := Tryd.underlying203
  a232 := Tryd.isAgg203
  z232 := Tryd.sizeOf203
  v232 := Tryd.zeroValue203
  t233 := Tryd.underlying204
  a233 := Tryd.isAgg204
  z233 := Tryd.sizeOf204
  v233 := Tryd.zeroValue204
  g17 := by kernel_rfl
  g18 := by kernel_rfl
  g19 := by kernel_rfl
  i0 := by kernel_rfl
  i2 := by kernel_rfl
  i3 := by kernel_rfl
  i4 := by kernel_rfl
  i5 := by kernel_rfl
  i9 := by kernel_rfl
  i20 := by kernel_rfl
  i37 := by kernel_rfl
  i46 := by kernel_rfl
  i51 := by kernel_rfl
  i53 := by kernel_rfl
  i171 := by kernel_rfl
  i173 := by kernel_rfl
  i212 := by kernel_rfl
  i232 := by kernel_rfl
  i233 := by kernel_rfl
  m17 := by kernel_rfl
  m18 := by kernel_rfl
  m19 := by kernel_rfl }
open Go.RowKit Go.Sort Go.Lib in
theorem Tryd.strconv_Itoa (n : Int) (h0 : -9223372036854775808 ≤ n) (h1 : n ≤ 9223372036854775807) (w : World) (htab : Lib.TabIs Tryd.prog w "internal/strconv.uint64pow10" .u64 Lib.pow10Tab) :
    Calls Tryd.prog 55 #[.int .i64 n] w fun e w' => e = .returned (.string ⟨(Lib.itoa n).toArray⟩) ∧ ∃ k os, w' = grow (w.drewN k) os := Any.strconv_Itoa Tryd.laysM171 n h0 h1 w htab
end Go.Proofs
