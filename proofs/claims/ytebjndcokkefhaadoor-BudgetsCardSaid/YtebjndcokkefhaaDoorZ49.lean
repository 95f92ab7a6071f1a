/- Contracts of unfold.Decode and unfold.Encode (of a well-formed image). The contract of the statement's own canon: true at whatever bytes. Contracts of unfoldkeep's built and pcs. Contracts of unfoldkeep's described and given. Contract of unfoldkeep's whole: a program made well-formed. Contract of unfoldkeep's given: as many values as a program takes. -/
import Derived.Test.YtebjndcokkefhaaDoorI15
import Derived.Test.YtebjndcokkefhaaDoorZ44
import Derived.Test.YtebjndcokkefhaaDoorZ43
import Derived.Test.YtebjndcokkefhaaDoorT7
import Derived.Test.YtebjndcokkefhaaDoorT6
import Derived.Test.YtebjndcokkefhaaDoorZ21
namespace Go.Proofs.YtebjndcokkefhaaDoor
open Go.RowKit

set_option maxHeartbeats 1000000 in
set_option maxRecDepth 100000 in
theorem uDecode_any (ba : Option Addr) (blen bcap : Nat) (bs : List Int) (w : World) (hb : Rd .u8 w ba blen bcap bs) (hne : ∀ q, ba = some q → q.block < w.heap.size) (hx : ∀ j, 0 ≤ bs.getD j 0 ∧ bs.getD j 0 ≤ 255) (hH : HeadAt w) :
    Calls Tryd.prog 9 #[.slice ba blen bcap] w fun e w' => ∃ v, e = .returned (.tuple #[.agg #[v], .int .i64 (decI bs).2.1, .int .i64 (decI bs).2.2]) ∧ OwnI w.heap.size w' v (decI bs).1 ∧ Below w.heap.size w w' := by
  obtain ⟨wA, hwA⟩ : ∃ wA, wA = w.alloc (Obj.cells #[.slice none 0 0] 31) := ⟨_, rfl⟩
  have hbA : Below w.heap.size w wA := by rw [hwA]; exact (Below.refl _ _).alloc (Nat.le_refl _) _
  have heA : wA.heap[w.heap.size]? = some (.cells #[.slice none 0 0] 31 (0, 0)) := by rw [hwA]; exact heap_alloc_new _ _
  have hsA : wA.heap.size = w.heap.size + 1 := by rw [hwA]; simp
  have HD := hid (idecode_any ba blen bcap bs wA (hb.below hbA (Nat.le_refl _)) (fun q hq => by have := hne q hq; omega) hx (hH.below hbA (Nat.le_refl _)))
  generalize decI bs = d at *
  obtain ⟨dl, d1, d2⟩ := d
  simp only at HD ⊢
  clear hb hne hx hH
  go_enter Tryd.func9, Tryd.ntmps9
  go_wp2_with fail
  rw [← hwA]
  refine HD.out.mono ?_
  rintro e w1 ⟨v, rfl, hown, hb1⟩
  obtain ⟨va, vc, rfl, -⟩ := hown.rd
  have e1 := (hb1.block w.heap.size (by omega)).trans heA
  have z0 : w1.cell? ⟨w.heap.size, 0, none⟩ = some (.slice none 0 0) := by simp [World.cell?, e1]
  have y0 : w1.frozen? ⟨w.heap.size, 0, none⟩ = false := by simp [World.frozen?, e1]
  have HF : Hid (OwnI w.heap.size (w1.setCell ⟨w.heap.size, 0, none⟩ (.slice va dl.length vc)) (.slice va dl.length vc) dl ∧ Below w.heap.size w (w1.setCell ⟨w.heap.size, 0, none⟩ (.slice va dl.length vc))) := ⟨(hown.setLow (by omega)).low (by omega), (hbA.trans (hb1.mono hbA.size)).setCell (p := ⟨w.heap.size, 0, none⟩) (Nat.le_refl _) _⟩
  clear hown hb1 e1
  go_wp2
  exact bodyPost_ret (v := .tuple #[.agg #[.slice va dl.length vc], .int .i64 d1, .int .i64 d2]) (by simp [results, Tryd.results9, go_sem, z0]) rfl ⟨_, rfl, HF.out.1, HF.out.2⟩

set_option maxHeartbeats 1000000 in
set_option maxRecDepth 100000 in
theorem uEncode_wf (fa : Option Addr) (len fcap : Nat) (l : List EntD) (w : World) (hr : RdI w fa len fcap l) (hwf : wfI l = true) (hH : HeadAt w) :
    Calls Tryd.prog 10 #[.agg #[.slice fa len fcap]] w fun e w' => ∃ v, e = .returned (.tuple #[v, .int .i64 0]) ∧ w'.ownsRow w.heap.size 5 1 v (encI l).length (u8s (encI l)) ∧ Below w.heap.size w w' := by
  obtain ⟨wA, hwA⟩ : ∃ wA, wA = w.alloc (Obj.cells #[.slice fa len fcap] 31) := ⟨_, rfl⟩
  have hbA : Below w.heap.size w wA := by rw [hwA]; exact (Below.refl _ _).alloc (Nat.le_refl _) _
  have HE := hid (iencode_wf fa len fcap l wA (hr.below hbA) hwf (hH.below hbA (Nat.le_refl _)))
  clear hr hwf hH
  go_enter Tryd.func10, Tryd.ntmps10
  go_wp2_with fail
  rw [← hwA]
  refine HE.out.mono ?_
  rintro e w1 ⟨v, rfl, hown, hb1⟩
  have HF : Hid (w1.ownsRow w.heap.size 5 1 v (encI l).length (u8s (encI l)) ∧ Below w.heap.size w w1) := ⟨owns_low7 hown hbA.size, hbA.trans (hb1.mono hbA.size)⟩
  clear hown hb1
  go_wp2
  go_ret2
  exact ⟨_, rfl, HF.out.1, HF.out.2⟩
end Go.Proofs.YtebjndcokkefhaaDoor
namespace Go.Proofs.YtebjndcokkefhaaDoor
open Go.RowKit

theorem rd_of_owns8 {w : World} {base n : Nat} {v : Value} {l : List Int} (h : w.ownsRow base 5 1 v n (u8s l)) (hl : l.length = n) : ∃ a cap, v = .slice a n cap ∧ Rd .u8 w a n cap l := by
  rcases h.2 with ⟨rfl, rfl⟩ | ⟨g, cap, cur, rfl, hg, hh, h1, h2, h3, h4⟩
  · exact ⟨none, 0, rfl, ⟨hl, Nat.le_refl _, by unfold maxLen; omega, fun i hi => by omega⟩⟩
  · refine ⟨some ⟨g, 0, none⟩, cap, rfl, ⟨hl, h1, h2, fun i hi => ⟨g, 0, rfl, ?_⟩⟩⟩
    have hc := World.ownsRow.cellAt (w := w) ⟨h.1, .inr ⟨g, cap, cur, rfl, hg, hh, h1, h2, h3, h4⟩⟩ i (by omega)
    rw [Nat.zero_add, hc]
    simp [u8s, List.getD, show i < l.length by omega]

theorem encI_pos (l : List EntD) : 3 ≤ (encI l).length := by unfold encI; simp only [List.length_append, List.length_cons, List.length_nil]; omega

set_option maxHeartbeats 2000000 in
set_option maxRecDepth 100000 in
theorem canon_any (ba : Option Addr) (blen bcap : Nat) (bs : List Int) (w : World) (hb : Rd .u8 w ba blen bcap bs) (hne : ∀ q, ba = some q → q.block < w.heap.size) (hx : ∀ j, 0 ≤ bs.getD j 0 ∧ bs.getD j 0 ≤ 255) (hH : HeadAt w) :
    Calls Tryd.prog 13 #[.slice ba blen bcap] w fun e w' => e = .returned (.bool true) ∧ Below w.heap.size w w' := by
  have HL := hid hb.hlen
  have hmax := hb.hmax
  have hcap := hb.hcap
  unfold maxLen at hmax
  have HD := hid (uDecode_any ba blen bcap bs w hb hne hx hH)
  have HH := hid hH
  have HB := hid hb
  by_cases he : (decI bs).2.1 = 0
  · obtain ⟨g1, g2, g3⟩ := decI_ok hx he
    have hp := encI_pos (decI bs).1
    have HWF := hid g1
    have HEN := hid g2
    rw [he, g3] at HD
    rw [g2, HL.out] at hp
    generalize (decI bs).1 = dl at *
    obtain ⟨bb, off, rfl, hc⟩ := hb.open (by omega)
    have HC := hid hc
    have hp' : (0 : Int) < (blen : Int) := by omega
    clear hb hH g1 g2 g3 he hc hne hx
    go_enter Tryd.func13, Tryd.ntmps13
    go_wp2_with fail
    refine HD.out.mono ?_
    rintro e w1 ⟨v, rfl, hown, hb1⟩
    obtain ⟨va, vc, rfl, hri⟩ := hown.rd
    have hs1 := hb1.size
    obtain ⟨w2, hw2⟩ : ∃ w2, w2 = w1.alloc (Obj.cells #[.slice va dl.length vc] 31) := ⟨_, rfl⟩
    have hb2 : Below w1.heap.size w1 w2 := by rw [hw2]; exact (Below.refl _ _).alloc (Nat.le_refl _) _
    have hbw2 : Below w.heap.size w w2 := hb1.trans (hb2.mono hs1)
    have HEC := hid (uEncode_wf va dl.length vc dl w2 (hri.below hb2) HWF.out (HH.out.below hbw2 (Nat.le_refl _)))
    rw [HEN.out, HL.out] at HEC
    have hs2 := hbw2.size
    have HB2 := hid hbw2
    clear hown hri hb1 hb2 hbw2
    go_wp2_with fail
    rw [← hw2]
    clear hw2
    refine HEC.out.mono ?_
    rintro e w3 ⟨v3, rfl, hown3, hb3⟩
    obtain ⟨ca, cc, rfl, hrc⟩ := rd_of_owns8 hown3 HL.out
    obtain ⟨cb, coff, rfl, hcc⟩ := hrc.open (by omega)
    have hb03 : Below w.heap.size w w3 := HB2.out.trans (hb3.mono hs2)
    have hcw : ∀ i, i < blen → w3.cell? ⟨bb, off + i, none⟩ = some (.int .u8 (bs.getD i 0)) := fun i hi => (hb03.cell (p := ⟨bb, off + i, none⟩) (World.block_lt_of_cell? w _ (HC.out i hi))).trans (HC.out i hi)
    have v1 := run_convert_bytes_arg (P := Tryd.prog) w3 26 5 Tryd.underlying26 Tryd.underlying5 bb off blen bcap bs HL.out hcw 9 Tryd.underlying9
    have v2 := run_convert_bytes_arg (P := Tryd.prog) w3 26 5 Tryd.underlying26 Tryd.underlying5 cb coff blen cc bs HL.out hcc 9 Tryd.underlying9
    have HF := hid hb03
    clear hown3 hb3 hrc hcc hcw hb03
    go_wp2
    go_ret
    exact ⟨by simp, HF.out⟩
  · obtain ⟨g1, g2, g3, g4⟩ := decI_err hx he
    rw [g1] at HD
    rw [HL.out] at g4
    generalize (decI bs).2.1 = er at *
    generalize (decI bs).2.2 = pl at *
    have he' : (er == 0) = false := by simpa using he
    clear hb hH he g1
    go_enter Tryd.func13, Tryd.ntmps13
    go_wp2_with fail
    refine HD.out.mono ?_
    rintro e w1 ⟨v, rfl, hown, hb1⟩
    obtain ⟨va, vc, rfl, -⟩ := hown.rd
    have hs1 := hb1.size
    have HF := hid (fun o => hb1.alloc hs1 o)
    clear hown hb1
    rcases g2 with rfl | rfl | rfl | rfl
    · go_wp2
      go_ret
      exact ⟨by simp, HF.out _⟩
    · go_wp2
      go_ret
      exact ⟨by simp, HF.out _⟩
    · go_wp2
      go_ret
      exact ⟨by simp, HF.out _⟩
    · go_wp2
      go_ret
      exact ⟨by simp, HF.out _⟩

end Go.Proofs.YtebjndcokkefhaaDoor
namespace Go.Proofs.YtebjndcokkefhaaDoor
open Go.RowKit

set_option maxHeartbeats 4000000 in
set_option maxRecDepth 100000 in
theorem built_any (pa : Option Addr) (pcap : Nat) (p : List FnD) (raw : Int) (w : World) (hp : RdP w pa p.length pcap p) (hraw : R64 raw) (hc : chk p = (0, 0, 0)) (hH : HeadAt w) :
    Calls Tryd.prog 8 #[.agg #[.slice pa p.length pcap], .int .i64 raw] w fun e w' => Below w.heap.size w w' ∧ ∃ (n : Int) (cs : List CodeD) (v : Value), 0 ≤ n ∧ n ≤ 30 ∧ codesD p n = some cs ∧
      e = .returned (.tuple #[v, .int .i64 n, .bool true]) ∧ w'.ownsRow w.heap.size 5 1 v (encI (imgD p cs)).length (u8s (encI (imgD p cs))) := by
  obtain ⟨wA, hwA⟩ : ∃ wA, wA = w.alloc (Obj.cells #[.slice pa p.length pcap] 24) := ⟨_, rfl⟩
  have hbA : Below w.heap.size w wA := by rw [hwA]; exact (Below.refl _ _).alloc (Nat.le_refl _) _
  have hsA : wA.heap.size = w.heap.size + 1 := by rw [hwA]; simp
  have kA : wA.heap[w.heap.size]? = some (.cells #[.slice pa p.length pcap] 24 (0, 0)) := by rw [hwA]; exact heap_new_at rfl
  have cA : wA.cell? ⟨w.heap.size, 0, none⟩ = some (.slice pa p.length pcap) := by simp [World.cell?, kA]
  have HC0 := hid (fun W => pick_any raw 31 W hraw.1 hraw.2 (by omega) (by omega))
  obtain ⟨n, hn⟩ : ∃ n, n = pickI raw 31 := ⟨_, rfl⟩
  have hb := pickI_lt raw (n := 31) (by omega)
  rw [← hn] at HC0 hb
  clear hn
  have HB1 := hid (fun (bud : Int) (hb : R64 bud) (W : World) (hW : Below w.heap.size w W) => uBuild_any pa pcap p bud W (hp.below hW) hb (hH.below hW (Nat.le_refl _)))
  have HE := hid (layE_cases hc hb.1 (by omega : n ≤ 30))
  have HZ := hid (layE_zero hc)
  have HBA := hid hbA
  generalize p.length = pl at *
  clear hp hH hc hbA kA
  go_enter Tryd.func8, Tryd.ntmps8
  go_wp2_with fail
  rw [← hwA]
  clear hwA
  refine (HC0.out wA).mono ?_
  rintro e w' ⟨rfl, he⟩
  rw [he]
  clear he w'
  go_wp2_with fail
  refine (HB1.out n ⟨by omega, by omega⟩ wA HBA.out).mono ?_
  rintro e w1 ⟨hb1, h⟩
  have hs1 := hb1.size
  have HBL := hid (HBA.out.trans (hb1.mono HBA.out.size))
  rcases h with ⟨h0, rfl⟩ | ⟨h0, cs, v, hcs, rfl, hown⟩
  · have h11 : layE p n = 11 := HE.out.resolve_left h0
    rw [h11]
    have cA1 := (hb1.cell (p := ⟨w.heap.size, 0, none⟩) (by simp; omega)).trans cA
    clear h0 h11 hb1 cA
    go_wp2_with fail
    refine (HB1.out 0 ⟨by omega, by omega⟩ w1 HBL.out).mono ?_
    rintro e w2 ⟨hb2, h⟩
    rcases h with ⟨h0, rfl⟩ | ⟨h0, cs, v, hcs, rfl, hown⟩
    · exact absurd HZ.out h0
    · have HF := hid (⟨HBL.out.trans (hb2.mono HBL.out.size), owns_low9 hown (show w.heap.size ≤ w1.heap.size by omega)⟩ : _ ∧ _)
      clear hown hb2
      go_wp2
      exact bodyPost_ret (v := .tuple #[v, .int .i64 0, .bool true]) (by simp [results, Tryd.results8, go_sem]) rfl ⟨HF.out.1, 0, cs, v, by omega, by omega, hcs, rfl, HF.out.2⟩
  · have HF := hid (owns_low9 hown (show w.heap.size ≤ wA.heap.size by omega))
    clear hown hb1 h0
    go_wp2
    exact bodyPost_ret (v := .tuple #[v, .int .i64 n, .bool true]) (by simp [results, Tryd.results8, go_sem]) rfl ⟨HBL.out, n, cs, v, by omega, by omega, hcs, rfl, HF.out⟩

set_option maxHeartbeats 1000000 in
set_option maxRecDepth 100000 in
theorem kPcs_any (a : Option Addr) (len cap : Nat) (l : List (Int × Int)) (w : World) (hr : RdS w a len cap l) (hwf : wfS l (-1) 1000 = true) :
    Calls Tryd.prog 23 #[.slice a len cap] w fun e w' => e = .returned (.int .i64 (sumS l)) ∧ Below w.heap.size w w' := by
  have HL := hid hr.hlen
  have hmax := hr.hmax
  have hcap := hr.hcap
  unfold maxLen at hmax
  go_enter Tryd.func23, Tryd.ntmps23
  go_wp2
  go_loopw [3, 4] (fun n i wr => ∃ k : Nat, i = .int .i64 k ∧ k ≤ len ∧ n = .int .i64 (sumS (l.take k)) ∧ Below w.heap.size w wr) (fun _ i _ => len - (intOf i).toNat)
  case atStart => exact ⟨0, rfl, by omega, rfl, Below.refl _ _⟩
  case round =>
    obtain ⟨k, rfl, hk, rfl, hbel⟩ := hrel
    have hsz := hbel.size
    by_cases hlt : k < len
    · obtain ⟨b0, off, rfl, hc⟩ := (hr.below hbel (Nat.le_refl _)).open (by omega)
      obtain ⟨hc1, hc2⟩ := hc k hlt
      have hb0 := World.block_lt_of_cell? wr _ hc1
      obtain ⟨g1, g2, g3, g4, _⟩ := sum_take (l := l) (-1) 1000 k hwf (by omega) (by rw [HL.out]; exact hlt)
      have G4 := hid g4
      obtain ⟨⟨v, n⟩, hp⟩ : ∃ p, l.getD k (0, 0) = p := ⟨_, rfl⟩
      rw [hp] at hc1 hc2 g2 g3 G4
      simp only at hc1 hc2 hb0 g2 g3
      generalize sumS (l.take k) = q at *
      clear hr hc hp hwf g4
      go_wp2
      go_roundw
      case rel => exact ⟨k + 1, by go_num, by omega, by rw [G4.out], hbel⟩
      case measure => simp [intOf]; omega
    · have hk' : k = len := by omega
      subst hk'
      have HF : Hid (sumS (l.take k) = sumS l) := by show _ = _; rw [List.take_of_length_le (by rw [HL.out]; omega)]
      go_wp2
      go_ret
      exact ⟨ret_int HF.out, hbel⟩
end Go.Proofs.YtebjndcokkefhaaDoor
namespace Go.Proofs.YtebjndcokkefhaaDoor
open Go.RowKit

set_option maxHeartbeats 4000000 in
set_option maxRecDepth 100000 in
theorem described_any (ia : Option Addr) (icap : Nat) (pa : Option Addr) (pcap : Nat) (p : List FnD) (bud : Int) (cs : List CodeD) (w : World) (hi : RdI w ia (imgD p cs).length icap (imgD p cs)) (hp : RdP w pa p.length pcap p)
    (hc : chk p = (0, 0, 0)) (hcs : codesD p bud = some cs) (hb : 0 ≤ bud ∧ bud ≤ 30) :
    Calls Tryd.prog 11 #[.agg #[.slice ia (imgD p cs).length icap], .agg #[.slice pa p.length pcap], .int .i64 bud] w fun e w' => e = .returned (.bool true) ∧ Below w.heap.size w w' := by
  have hlen : (imgD p cs).length = p.length := by
    have := (img_wf hc hcs).2.1
    unfold imgD
    rw [List.length_zipWith]; omega
  have hl12 := (good_of hc).len
  have HI := hid hi
  have HP := hid hp
  have hq1 := hp.2.1
  have hq2 := hp.2.2.1
  have hq3 := hi.2.1
  have hq4 := hi.2.2.1
  unfold maxLen at hq2 hq4
  have HAT := hid (img_at hc hcs)
  rw [hlen] at HI hq3 ⊢
  generalize imgD p cs = L at *
  obtain ⟨pl, hpl⟩ : ∃ v, v = p.length := ⟨_, rfl⟩
  rw [← hpl] at HI HP hq1 hq3 hl12 ⊢
  have HPL := hid hpl
  clear hi hp hc hcs hlen hpl
  obtain ⟨wb, hwb⟩ : ∃ v, v = (w.alloc (Obj.cells #[.slice ia pl icap] 31)).alloc (Obj.cells #[.slice pa pl pcap] 24) := ⟨_, rfl⟩
  have hbb : Below w.heap.size w wb := by rw [hwb]; exact ((Below.refl _ _).alloc (Nat.le_refl _) _).alloc (by simp) _
  have hbs : wb.heap.size = w.heap.size + 2 := by rw [hwb]; simp
  have k0 : wb.heap[w.heap.size]? = some (.cells #[.slice ia pl icap] 31 (0, 0)) := by rw [hwb]; exact heap_at1 (by simp) (heap_new_at rfl)
  have k1 : wb.heap[w.heap.size + 1]? = some (.cells #[.slice pa pl pcap] 24 (0, 0)) := by rw [hwb]; exact heap_new_at (by simp)
  have HK0 := hid k0
  have HK1 := hid k1
  have HBB := hid hbb
  clear k0 k1 hbb
  go_enter Tryd.func11, Tryd.ntmps11
  go_wp2
  rw [← hwb]
  clear hwb
  go_loopw [7, 8, 9, 10] (fun i _ _ _ wr => ∃ k : Nat, i = .int .i64 k ∧ k ≤ pl ∧ Below wb.heap.size wb wr) (fun i _ _ _ _ => pl - (intOf i).toNat)
  case atStart => exact ⟨0, rfl, by omega, Below.refl _ _⟩
  case round =>
    obtain ⟨k, rfl, hk, hbel⟩ := hrel
    have hsz := hbel.size
    have p0 : wr.cell? ⟨w.heap.size, 0, none⟩ = some (.slice ia pl icap) := by
      have h := (hbel.block w.heap.size (by omega)).trans HK0.out
      simp [World.cell?, h]
    have p1 : wr.cell? ⟨w.heap.size + 1, 0, none⟩ = some (.slice pa pl pcap) := by
      have h := (hbel.block (w.heap.size + 1) (by omega)).trans HK1.out
      simp [World.cell?, h]
    have hbw : Below w.heap.size w wr := HBB.out.trans (hbel.mono HBB.out.size)
    by_cases hkn : k < pl
    · have hkn' : (k : Int) < (pl : Int) := by omega
      obtain ⟨fn, hfn⟩ : ∃ fn, p[k]? = some fn := ⟨_, List.getElem?_eq_getElem (by rw [← HPL.out]; exact hkn)⟩
      obtain ⟨c, -, hL, hsum, hge, hz, -, -, hwt, -⟩ := HAT.out k fn hfn
      obtain ⟨fb, foff, ba, bcap, rfl, hfb, n0, n1, n2, n3, n4, -, hs1, hs2⟩ := (HP.out.below hbw).at k fn hfn
      obtain ⟨eb, eoff, la, lcap, xa, xcap, ta, tcap, rfl, m0, m1, m2, m3, m4, hrl, -, -⟩ := (HI.out.below hbw).at hL
      have heb : eb < wr.heap.size := World.block_lt_of_cell? wr _ m0
      have e0 : (entOfD p fn c).name = fn.name := rfl
      have e1 : (entOfD p fn c).file = fn.file := rfl
      rw [e0] at m0
      rw [e1] at m1
      have hwS : wfS (entOfD p fn c).lines (-1) 1000 = true := by unfold wfT at hwt; rw [Bool.and_eq_true] at hwt; exact hwt.1
      generalize (entOfD p fn c).lines = LN at *
      generalize (entOfD p fn c).index = IX at *
      generalize (entOfD p fn c).tree = TR at *
      have HPC := hid (fun (W : World) (hW : Below wr.heap.size wr W) => kPcs_any la LN.length lcap LN W (hrl.below hW (Nat.le_refl _)) hwS)
      rw [hsum] at HPC
      generalize LN.length = ln at *
      generalize IX.length = ix at *
      generalize TR.length = tr at *
      generalize fn.name = nm at *
      generalize fn.file = fl at *
      generalize fn.params = fp at *
      generalize fn.locals = fo at *
      generalize fn.body.length = bl at *
      obtain ⟨M, hM⟩ : ∃ v, v = c.places.length := ⟨_, rfl⟩
      rw [← hM] at HPC hge hz
      have HBEL := hid hbel
      clear hL hsum hwt hwS hrl hfn hM hbw hbel e0 e1
      obtain ⟨w2, hw2⟩ : ∃ v, v = (wr.alloc (Obj.cells #[.string nm, .string fl, .slice la ln lcap, .slice xa ix xcap, .slice ta tr tcap] 64)).alloc (Obj.cells #[.string nm, .string fl, .int .i64 fp, .int .i64 fo, .slice ba bl bcap] 74) := ⟨_, rfl⟩
      have hb2 : Below wr.heap.size wr w2 := by rw [hw2]; exact ((Below.refl _ _).alloc (Nat.le_refl _) _).alloc (by simp) _
      have hs2 : w2.heap.size = wr.heap.size + 2 := by rw [hw2]; simp
      have kx : w2.heap[wr.heap.size]? = some (.cells #[.string nm, .string fl, .slice la ln lcap, .slice xa ix xcap, .slice ta tr tcap] 64 (0, 0)) := by rw [hw2]; exact heap_at1 (by simp) (heap_new_at rfl)
      have ky : w2.heap[wr.heap.size + 1]? = some (.cells #[.string nm, .string fl, .int .i64 fp, .int .i64 fo, .slice ba bl bcap] 74 (0, 0)) := by rw [hw2]; exact heap_new_at (by simp)
      have hlt1 : w.heap.size + 1 < wr.heap.size := by omega
      have HKX := hid kx
      have HKY := hid ky
      have HB2 := hid hb2
      clear kx ky hb2
      go_wp2_with fail
      rw [← hw2]
      clear hw2 n0 n1 n2 n3 n4 m0 m1 m2 m3 m4 p0 p1
      refine (HPC.out w2 HB2.out).mono ?_
      rintro e w3 ⟨rfl, hb3⟩
      have hs3 := hb3.size
      have kx := (hb3.block wr.heap.size (by omega)).trans HKX.out
      have ky := (hb3.block (wr.heap.size + 1) (by omega)).trans HKY.out
      have q0 : w3.cell? ⟨wr.heap.size, 0, none⟩ = some (.string nm) := by simp [World.cell?, kx]
      have q1 : w3.cell? ⟨wr.heap.size, 1, none⟩ = some (.string fl) := by simp [World.cell?, kx]
      have r0 : w3.cell? ⟨wr.heap.size + 1, 0, none⟩ = some (.string nm) := by simp [World.cell?, ky]
      have r1 : w3.cell? ⟨wr.heap.size + 1, 1, none⟩ = some (.string fl) := by simp [World.cell?, ky]
      have r4 : w3.cell? ⟨wr.heap.size + 1, 4, none⟩ = some (.slice ba bl bcap) := by simp [World.cell?, ky]
      have hMb : decide ((M : Int) < (bl : Int)) = false := by simp; omega
      have HF := hid (HBEL.out.trans ((HB2.out.trans (hb3.mono HB2.out.size)).mono hsz))
      clear hb3 kx ky
      by_cases hb0 : bud = 0
      · have hMe : M = bl := hz hb0
        subst hb0
        subst hMe
        clear hz
        go_wp2
        go_roundw
        case rel => exact ⟨k + 1, by go_num, by omega, HF.out⟩
        case measure => simp [intOf]; omega
      · have hb0' : decide (bud = 0) = false := by simpa using hb0
        clear hz
        go_wp2
        go_roundw
        case rel => exact ⟨k + 1, by go_num, by omega, HF.out⟩
        case measure => simp [intOf]; omega
    · have hkn' : decide ((k : Int) < (pl : Int)) = false := by simp; omega
      clear p0
      go_wp2
      go_ret
      exact ⟨rfl, hbw⟩
end Go.Proofs.YtebjndcokkefhaaDoor
namespace Go.Proofs.YtebjndcokkefhaaDoor
open Go.RowKit

set_option maxHeartbeats 4000000 in
set_option maxRecDepth 100000 in
theorem whole_any (pa : Option Addr) (pcap : Nat) (p : List FnD) (w : World) (hp : RdP w pa p.length pcap p) (hraw : RawP p) :
    Calls Tryd.prog 7 #[.agg #[.slice pa p.length pcap]] w fun e w' => Below w.heap.size w w' ∧
      ∃ (q : List FnD) (a : Option Addr) (cap : Nat), e = .returned (.agg #[.slice a q.length cap]) ∧ chk q = (0, 0, 0) ∧ ∀ W : World, (∀ b, w.heap.size ≤ b → b < w'.heap.size → W.heap[b]? = w'.heap[b]?) → RdP W a q.length cap q := by
  obtain ⟨wb, hwb⟩ : ∃ v, v = (w.alloc (Obj.cells #[.slice pa p.length pcap] 24)).alloc (Obj.cells #[.slice none 0 0] 24) := ⟨_, rfl⟩
  have hbb : Below w.heap.size w wb := by rw [hwb]; exact ((Below.refl _ _).alloc (Nat.le_refl _) _).alloc (by simp) _
  have hbs : wb.heap.size = w.heap.size + 2 := by rw [hwb]; simp
  have k1 : wb.heap[w.heap.size + 1]? = some (.cells #[.slice none 0 0] 24 (0, 0)) := by rw [hwb]; exact heap_new_at (by simp)
  have HK1 := hid k1
  have HT := hid (tame_any pa pcap p 12 30 false wb (hp.below hbb) hraw (by omega) (by omega) (by omega) (by omega))
  have HBB := hid hbb
  generalize p.length = pl at *
  clear hp k1 hbb
  go_enter Tryd.func7, Tryd.ntmps7
  go_wp2_with fail
  rw [← hwb]
  clear hwb
  refine HT.out.mono ?_
  rintro e w1 ⟨hb1, l, q, a, cap, rfl, hok, h1, h2, hfit, hrd⟩
  have hs1 := hb1.size
  have hk1 := (hb1.block (w.heap.size + 1) (by omega)).trans HK1.out
  have r1 : w1.cell? ⟨w.heap.size + 1, 0, none⟩ = some (.slice none 0 0) := by simp [World.cell?, hk1]
  have t1 : w1.frozen? ⟨w.heap.size + 1, 0, none⟩ = false := by simp [World.frozen?, hk1]
  have HC := hid (fit_chk hfit hok h1 h2 (by omega))
  have HK := hid hk1
  have HRD := hid hrd
  have HB1 := hid hb1
  clear hb1 hok h1 h2 hfit hrd hk1
  go_wp2
  obtain ⟨wF, hwF⟩ : ∃ v, v = w1.setCell ⟨w.heap.size + 1, 0, none⟩ (.slice a q.length cap) := ⟨_, rfl⟩
  have hF := heap_setCell_same _ _ 0 _ _ (.slice a q.length cap) HK.out
  rw [← hwF] at hF ⊢
  have y0 : wF.cell? ⟨w.heap.size + 1, 0, none⟩ = some (.slice a q.length cap) := by simp [World.cell?, hF]
  refine bodyPost_ret (v := .agg #[.slice a q.length cap]) (by simp [results, Tryd.results7, go_sem, y0]) rfl ⟨?_, q, a, cap, rfl, HC.out, fun W hW => ?_⟩
  · rw [hwF]
    exact (HBB.out.trans (HB1.out.mono HBB.out.size)).setCell (p := ⟨w.heap.size + 1, 0, none⟩) (by simp) _
  · have hsz : wF.heap.size = w1.heap.size := by rw [hwF]; simp
    refine HRD.out W (fun b hb1 hb2 => ?_)
    rw [hW b (by omega) (by omega), hwF, Below.heap_setCell _ _ _ _ (by simp; omega)]
end Go.Proofs.YtebjndcokkefhaaDoor
namespace Go.Proofs.YtebjndcokkefhaaDoor
open Go.RowKit

set_option maxHeartbeats 4000000 in
set_option maxRecDepth 100000 in
theorem given_any (pa : Option Addr) (pcap : Nat) (p : List FnD) (ra : Option Addr) (rl rcap : Nat) (raw : List Int) (w : World) (hp : RdP w pa p.length pcap p) (hc : Good p) (hr : Rd .i64 w ra rl rcap raw) (hraw : ∀ x ∈ raw, R64 x) :
    Calls Tryd.prog 14 #[.agg #[.slice pa p.length pcap], .slice ra rl rcap] w fun e w' => Below w.heap.size w w' ∧ ∃ (args : List Int) (a : Option Addr) (cap : Nat), e = .returned (.slice a args.length cap) ∧
      w'.ownsRow w.heap.size 3 1 (.slice a args.length cap) args.length (ints args) ∧ givenB p args = true := by
  have hlen := hc.len
  obtain ⟨f0, hf0⟩ : ∃ f, p[0]? = some f := ⟨_, List.getElem?_eq_getElem (by omega)⟩
  have hfn : fnAt p 0 = f0 := by unfold fnAt; rw [show ((0 : Int)).toNat = 0 by omega, hf0]; rfl
  obtain ⟨hp1, hp2⟩ := (hc.fns 0 f0 hf0).params
  have hp3 := (hc.fns 0 f0 hf0).locals
  obtain ⟨PP, hPP⟩ : ∃ v : Nat, (v : Int) = f0.params := ⟨f0.params.toNat, by omega⟩
  have hP8 : PP ≤ 8 := by omega
  obtain ⟨pb, poff, ba, bcap, rfl, hpb, -, -, n2, -, -, -, -, -⟩ := hp.at 0 f0 hf0
  rw [← hPP] at n2
  simp only [Nat.zero_mul, Nat.add_zero] at n2
  have HPP : Hid ((PP : Int) = (fnAt p 0).params) := hid (by rw [hfn]; exact hPP)
  have hq1 := hp.2.1
  have hq2 := hp.2.2.1
  unfold maxLen at hq2
  obtain ⟨pl, hpl⟩ : ∃ v, v = p.length := ⟨_, rfl⟩
  rw [← hpl] at hq1 hlen ⊢
  have hrc := hr.hcap
  have hrm := hr.hmax
  unfold maxLen at hrm
  have HR := hid hr
  have HN2 := hid n2
  obtain ⟨i0, hi, hz0, hz1, hz2⟩ := info_parts Tryd.infoInt
  clear hp hc hf0 hfn hp1 hp2 hp3 hPP hpl hr n2
  obtain ⟨wb, hwb⟩ : ∃ v, v = w.alloc (Obj.cells #[.slice (some ⟨pb, poff, none⟩) pl pcap] 24) := ⟨_, rfl⟩
  have hbb : Below w.heap.size w wb := by rw [hwb]; exact (Below.refl _ _).alloc (Nat.le_refl _) _
  have hbs : wb.heap.size = w.heap.size + 1 := by rw [hwb]; simp
  have k0 : wb.heap[w.heap.size]? = some (.cells #[.slice (some ⟨pb, poff, none⟩) pl pcap] 24 (0, 0)) := by rw [hwb]; exact heap_new_at rfl
  have HK0 := hid k0
  have HBB := hid hbb
  clear k0 hbb
  go_enter Tryd.func14, Tryd.ntmps14
  go_wp2
  rw [← hwb]
  clear hwb
  go_loopw [5, 6, 7] (fun lv i _ wr => ∃ (k : Nat) (xs : List Int), i = .int .i64 k ∧ k ≤ PP ∧ xs.length = k ∧ (∀ x ∈ xs, withB x 1000 = true) ∧ wr.ownsRow wb.heap.size 3 1 lv k (ints xs) ∧ Below wb.heap.size wb wr) (fun _ i _ _ => PP - (intOf i).toNat)
  case atStart => exact ⟨0, [], rfl, by omega, rfl, by simp, World.ownsRow_nil _ _ _ _, Below.refl _ _⟩
  case round =>
    obtain ⟨k, xs, rfl, hk, hxl, hall, hown, hbel⟩ := hrel
    have hsz := hbel.size
    have p0 : wr.cell? ⟨w.heap.size, 0, none⟩ = some (.slice (some ⟨pb, poff, none⟩) pl pcap) := by
      have h := (hbel.block w.heap.size (by omega)).trans HK0.out
      simp [World.cell?, h]
    have hbw : Below w.heap.size w wr := HBB.out.trans (hbel.mono HBB.out.size)
    have n2 : wr.cell? ⟨pb, poff + 2, none⟩ = some (.int .i64 PP) := (hbw.cell (p := ⟨pb, poff + 2, none⟩) hpb).trans HN2.out
    have hpb' : pb < wr.heap.size := by have := hbw.size; omega
    have HXL := hid hxl
    have HALL := hid hall
    have HOW := hid hown
    have HBEL := hid hbel
    have hpl0 : (0 : Int) < (pl : Int) := by omega
    by_cases hkp : k < PP
    · have hkp' : (k : Int) < (PP : Int) := by omega
      by_cases hkr : k < rl
      · have hkr' : (k : Int) < (rl : Int) := by omega
        obtain ⟨rb, roff, rfl, hrc'⟩ := HR.out.open (by omega)
        have c9 := hrc' k hkr
        have o9 : wr.cell? ⟨rb, roff + k, none⟩ = some (.int .i64 (raw.getD k 0)) := (hbw.cell (World.block_lt_of_cell? w _ c9)).trans c9
        have hrb : rb < wr.heap.size := World.block_lt_of_cell? wr _ o9
        have hR : R64 (raw.getD k 0) := by
          have hl := HR.out.hlen
          refine hraw _ ?_
          rw [List.getD, List.getElem?_eq_getElem (by omega)]
          exact List.getElem_mem _
        generalize raw.getD k 0 = rv at *
        have HPK := hid (pick_any rv 1000 wr hR.1 hR.2 (by omega) (by omega))
        have HPL := hid (pickI_lt rv (n := 1000) (by omega))
        generalize pickI rv 1000 = a9 at HPK HPL
        clear hxl hall hown hbel hbw hrc' c9
        go_wp2_with fail
        refine HPK.out.mono ?_
        rintro e w' ⟨rfl, he⟩
        rw [he]
        clear he w'
        go_wp2_with (at_builtin; refine wpList_append_own _ rfl (.tmp 26) (.tmp 28) 41 rfl wb.heap.size 3 i0 (.int .i64 0) 1 8 Tryd.underlying41 hi hz0 hz1 hz2 rfl (by decide) _ _ _ rfl (HOW.out.alloc _) ⟨wr.heap.size, 0, none⟩ 1 1 [.int .i64 a9] rfl rfl (new1_at rfl _ _) (one1 _) (by unfold maxLen; omega) (by omega) (by simp; omega) ?_)
        intro va w3 hown3 hgrow3 _
        have hb3 : Below wb.heap.size wb w3 := (HBEL.out.alloc hsz _).grown hgrow3 (by simp; omega) (fun k hk => (HOW.out.lt k hk).1)
        have HO3 := hid hown3
        have HB3 := hid hb3
        clear hown3 hgrow3 hb3 p0 n2 o9
        go_wp2
        go_roundw
        case rel =>
          refine ⟨k + 1, xs ++ [a9], by go_num, by omega, by rw [List.length_append, HXL.out]; rfl, fun a ha => ?_, by rw [hbs]; simpa [ints] using HO3.out, HB3.out⟩
          rcases List.mem_append.1 ha with h | h
          · exact HALL.out a h
          · rw [List.mem_singleton.1 h]
            have := HPL.out
            simp [withB]; omega
        case measure => simp [intOf]; omega
      · have hkr' : decide ((k : Int) < (rl : Int)) = false := by simp; omega
        clear hxl hall hown hbel hbw
        go_wp2_with (at_builtin; refine wpList_append_own _ rfl (.tmp 26) (.tmp 28) 41 rfl wb.heap.size 3 i0 (.int .i64 0) 1 8 Tryd.underlying41 hi hz0 hz1 hz2 rfl (by decide) _ _ _ rfl (HOW.out.alloc _) ⟨wr.heap.size, 0, none⟩ 1 1 [.int .i64 0] rfl rfl (new1_at rfl _ _) (one1 _) (by unfold maxLen; omega) (by omega) (by simp; omega) ?_)
        intro va w3 hown3 hgrow3 _
        have hb3 : Below wb.heap.size wb w3 := (HBEL.out.alloc hsz _).grown hgrow3 (by simp; omega) (fun k hk => (HOW.out.lt k hk).1)
        have HO3 := hid hown3
        have HB3 := hid hb3
        clear hown3 hgrow3 hb3 p0 n2
        go_wp2
        go_roundw
        case rel =>
          refine ⟨k + 1, xs ++ [0], by go_num, by omega, by rw [List.length_append, HXL.out]; rfl, fun a ha => ?_, by rw [hbs]; simpa [ints] using HO3.out, HB3.out⟩
          rcases List.mem_append.1 ha with h | h
          · exact HALL.out a h
          · rw [List.mem_singleton.1 h]
            decide
        case measure => simp [intOf]; omega
    · have hkp' : decide ((k : Int) < (PP : Int)) = false := by simp; omega
      have HKE : Hid (k = PP) := hid (by omega)
      obtain ⟨va, vcap, rfl⟩ : ∃ va vcap, u5 = .slice va k vcap := by
        rcases hown.2 with ⟨h1, h2⟩ | ⟨g, c', cur, h1, _⟩
        · exact ⟨none, 0, by rw [h1, h2]⟩
        · exact ⟨_, c', h1⟩
      have HF := hid (⟨owns_low9 hown (show w.heap.size ≤ wb.heap.size by omega), hbw⟩ : _ ∧ _)
      clear hxl hall hown hbel hbw
      go_wp2
      refine bodyPost_ret (v := .slice va k vcap) (by simp [results, Tryd.results14, go_sem]) rfl ⟨HF.out.2, xs, va, vcap, by rw [HXL.out], by rw [HXL.out]; exact HF.out.1, ?_⟩
      unfold givenB
      rw [Bool.and_eq_true, List.all_eq_true]
      exact ⟨HALL.out, by rw [HXL.out, HKE.out, HPP.out]; simp⟩
end Go.Proofs.YtebjndcokkefhaaDoor
