/- The contract of the developers' image.entryBytes. -/
import Derived.Test.YthaganponmnanaaGreatDoorZ12
namespace Go.Proofs.YthaganponmnanaaGreatDoor
open Go.RowKit

def entX (x : EntD) (file : Int) (isNew : Bool) : List Int := textB x.name ++ (numB file ++ ((if isNew = true then textB x.file else []) ++ (putS x.lines (-1) ++ (putS x.index (-1) ++ nodesB x.tree))))
theorem putS_le : ∀ (l : List (Int × Int)) (b : Int), (putS l b).length ≤ 10 * l.length + 1
  | [], _ => by simp [putS]
  | p :: r, b => by
    have := putS_le r p.1
    have h1 := numB_len (zig (p.1 - b))
    have h2 := numB_len p.2
    simp only [putS, List.length_append, List.length_cons]
    omega
theorem nodesB_le : ∀ (l : List (Int × Int)), (nodesB l).length ≤ 10 * l.length
  | [] => by simp [nodesB]
  | p :: r => by
    have := nodesB_le r
    have h1 := numB_len p.1
    have h2 := numB_len p.2
    simp only [nodesB, List.flatMap_cons, List.length_append, List.length_cons] at this ⊢
    omega
theorem nodesB_take {l : List (Int × Int)} {k : Nat} (h : k < l.length) : nodesB (l.take (k + 1)) = nodesB (l.take k) ++ (numB (l.getD k (0, 0)).1 ++ numB (l.getD k (0, 0)).2) := by
  unfold nodesB
  rw [List.take_succ_eq_append_getElem h, List.flatMap_append]
  simp [List.getD, h]
theorem textB_len (s : ByteArray) (h : s.size ≤ 20) : 1 ≤ (textB s).length ∧ (textB s).length ≤ 25 := by
  have h1 := numB_len (s.size : Int)
  unfold textB
  rw [List.length_append, byteL_len]
  omega
theorem putS_range {l : List (Int × Int)} (h : wfT l = true) : 1 ≤ (putS l (-1)).length ∧ (putS l (-1)).length ≤ 10001 := by
  have h1 := putS_le l (-1)
  have h2 := putS_len l (-1)
  have h3 : wfS l (-1) 1000 = true := by unfold wfT at h; rw [Bool.and_eq_true] at h; exact h.1
  have h4 := wfS_len l (-1) 1000 h3 (by omega)
  omega

set_option maxHeartbeats 4000000 in
set_option maxRecDepth 100000 in
theorem entryBytes_true (x : EntD) (la xa ta : Option Addr) (lcap xcap tcap : Nat) (file : Int) (w : World) (hl : RdS w la x.lines.length lcap x.lines) (hx : RdS w xa x.index.length xcap x.index) (ht : RdS w ta x.tree.length tcap x.tree) (h1 : wfT x.lines = true) (h2 : wfT x.index = true) (h3 : x.name.size ≤ 20) (h4 : x.file.size ≤ 20) (h5 : 0 ≤ file) (h6 : file ≤ 1000) (h7 : x.tree.length ≤ 9999) (h8 : ∀ j, j < x.tree.length → 0 ≤ (x.tree.getD j (0, 0)).1 ∧ (x.tree.getD j (0, 0)).1 ≤ 2147483647 ∧ 0 ≤ (x.tree.getD j (0, 0)).2 ∧ (x.tree.getD j (0, 0)).2 ≤ 2147483647) :
    Calls Tryz.prog 54 #[.agg #[.string x.name, .string x.file, .slice la x.lines.length lcap, .slice xa x.index.length xcap, .slice ta x.tree.length tcap], .int .i64 file, .bool true] w fun e w' => ∃ v, e = .returned v ∧ w'.ownsRow w.heap.size 5 1 v (entX x file true).length (u8s (entX x file true)) ∧ Below w.heap.size w w' := by
  obtain ⟨i0, hi, hz0, hz1, hz2⟩ := info_parts Tryz.infoByte
  have HTX := hid (fun W => textBytes_any x.name W h3)
  have HTF := hid (fun W => textBytes_any x.file W h4)
  have HNB := hid (fun W => bytes_any file W h5 (by omega))
  have HTL := hid (fun (W : World) (h : Below w.heap.size w W) => tbytes_any la x.lines.length lcap x.lines W (hl.below h (Nat.le_refl _)) h1)
  have HTI := hid (fun (W : World) (h : Below w.heap.size w W) => tbytes_any xa x.index.length xcap x.index W (hx.below h (Nat.le_refl _)) h2)
  have hnb := numB_len file
  have htx := textB_len x.name h3
  have hpl := putS_range h1
  have hpx := putS_range h2
  have hbd := hid (nodesB_le x.tree)
  obtain ⟨wA, hwA⟩ : ∃ wA, wA = w.alloc (Obj.cells #[.string x.name, .string x.file, .slice la x.lines.length lcap, .slice xa x.index.length xcap, .slice ta x.tree.length tcap] 90) := ⟨_, rfl⟩
  have hbA : Below w.heap.size w wA := by rw [hwA]; exact (Below.refl _ _).alloc (Nat.le_refl _) _
  have heA : wA.heap[w.heap.size]? = some (.cells #[.string x.name, .string x.file, .slice la x.lines.length lcap, .slice xa x.index.length xcap, .slice ta x.tree.length tcap] 90 (0, 0)) := by rw [hwA]; exact heap_alloc_new _ _
  have HT := hid ht
  have H8 := hid h8
  have hltA := (Array.getElem?_eq_some_iff.1 heA).1
  have htc := ht.hcap
  have htm := ht.hmax
  unfold maxLen at htm
  generalize hll : x.lines.length = ll at *
  generalize hxl : x.index.length = xl at *
  generalize htl : x.tree.length = tl at *
  have HTLN := hid htl
  clear hl hx ht h8 hll hxl htl
  go_enter Tryz.func54, Tryz.ntmps54
  go_wp2_with fail
  rw [← hwA]
  clear hwA
  refine (HTX.out wA).mono ?_
  rintro e w1 ⟨v0, rfl, ho0, hb0⟩
  have hown0 : w1.ownsRow w.heap.size 5 1 v0 (textB x.name).length (u8s (textB x.name)) := owns_low7 ho0 hbA.size
  have hbel0 : Below w.heap.size w w1 := hbA.trans (hb0.mono hbA.size)
  have hE0 := (hb0.block w.heap.size hltA).trans heA
  obtain ⟨A0, hA0⟩ : ∃ A, A = textB x.name := ⟨_, rfl⟩
  rw [← hA0] at hown0 htx
  have HA0 := hid hA0
  have hal0 : A0.length ≤ 0 * 30000 + 100 := by omega
  clear ho0 hb0 heA hbA hA0
  go_wp2_with fail
  refine (HNB.out _).mono ?_
  rintro e w2 ⟨v1, rfl, ho1, hb1⟩
  obtain ⟨N1, hN1⟩ : ∃ N, N = numB file := ⟨_, rfl⟩
  have hlo1 : 1 ≤ N1.length := by rw [hN1]; exact hnb.1
  have hhi1 : N1.length ≤ 5 := by rw [hN1]; exact hnb.2
  rw [← hN1] at ho1
  have HN1 := hid hN1
  clear hN1
  obtain ⟨g1, cap1, rfl, hg1, hgl1, hcs1⟩ := owns_some ho1 (by omega)
  have hown0' := owns_below hown0 hb1
  have hbel0' : Below w.heap.size w w2 := hbel0.trans (hb1.mono hbel0.size)
  have hE0' := (hb1.block w.heap.size (by have := (Array.getElem?_eq_some_iff.1 hE0).1; exact this)).trans hE0
  have hs1 := hbel0'.size
  obtain ⟨va0, vc0, rfl, -, -⟩ := owns_form hown0'
  have HE0 := hid hE0'
  have HB0 := hid hbel0'
  have HW0 := hid hown0'
  clear hE0 hE0' hbel0 hbel0' hown0 hown0' ho1 hb1
  go_wp2_with (at_builtin; refine wpList_append_own _ rfl (.tmp 13) (.tmp 15) 28 rfl w.heap.size 5 i0 (.int .u8 0) 1 1 Tryz.underlying28 hi hz0 hz1 hz2 rfl (by decide) _ _ _ rfl HW0.out ⟨g1, 0, none⟩ N1.length cap1 (u8s N1) rfl (by rw [u8s_len, Nat.mul_one]) hcs1 (u8s_one N1) (by unfold maxLen; omega) (by omega) hs1 ?_)
  intro v1 w3 hown1 hgrow1 _
  have hbel1 : Below w.heap.size w w3 := HB0.out.grown hgrow1 hs1 (fun q hq => (HW0.out.lt q hq).1)
  have hE1 := (hgrow1.block w.heap.size (Array.getElem?_eq_some_iff.1 HE0.out).1 (owns_other HW0.out HE0.out (by decide))).trans HE0.out
  rw [← u8s_append] at hown1
  have hlen1 : (A0 ++ N1).length = A0.length + N1.length := List.length_append
  rw [← hlen1] at hown1
  have hA1 : A0.length + N1.length ≤ 400000 := by omega
  obtain ⟨A1, hAe1⟩ : ∃ A, A = A0 ++ N1 := ⟨_, rfl⟩
  rw [← hAe1] at hown1 hlen1
  have HA1 := hid hAe1
  have hal1 : A1.length ≤ 1 * 30000 + 100 := by omega
  clear hAe1 hlen1 hA1 hgrow1 hcs1 HW0 HB0 HE0 hlo1 hhi1 hal0
  have hcell : w3.cell? ⟨w.heap.size, 1, none⟩ = some (.string x.file) := by simp [World.cell?, hE1]
  have htf := textB_len x.file h4
  go_wp2_with fail
  refine (HTF.out _).mono ?_
  rintro e w4 ⟨v2, rfl, ho2, hb2⟩
  obtain ⟨N2, hN2⟩ : ∃ N, N = textB x.file := ⟨_, rfl⟩
  have hlo2 : 1 ≤ N2.length := by rw [hN2]; exact htf.1
  have hhi2 : N2.length ≤ 25 := by rw [hN2]; exact htf.2
  rw [← hN2] at ho2
  have HN2 := hid hN2
  clear hN2
  obtain ⟨g2, cap2, rfl, hg2, hgl2, hcs2⟩ := owns_some ho2 (by omega)
  have hown1' := owns_below hown1 hb2
  have hbel1' : Below w.heap.size w w4 := hbel1.trans (hb2.mono hbel1.size)
  have hE1' := (hb2.block w.heap.size (by have := (Array.getElem?_eq_some_iff.1 hE1).1; exact this)).trans hE1
  have hs2 := hbel1'.size
  obtain ⟨va1, vc1, rfl, -, -⟩ := owns_form hown1'
  have HE1 := hid hE1'
  have HB1 := hid hbel1'
  have HW1 := hid hown1'
  clear hE1 hE1' hbel1 hbel1' hown1 hown1' ho2 hb2
  go_wp2_with (at_builtin; refine wpList_append_own _ rfl (.tmp 18) (.tmp 21) 28 rfl w.heap.size 5 i0 (.int .u8 0) 1 1 Tryz.underlying28 hi hz0 hz1 hz2 rfl (by decide) _ _ _ rfl HW1.out ⟨g2, 0, none⟩ N2.length cap2 (u8s N2) rfl (by rw [u8s_len, Nat.mul_one]) hcs2 (u8s_one N2) (by unfold maxLen; omega) (by omega) hs2 ?_)
  intro v2 w5 hown2 hgrow2 _
  have hbel2 : Below w.heap.size w w5 := HB1.out.grown hgrow2 hs2 (fun q hq => (HW1.out.lt q hq).1)
  have hE2 := (hgrow2.block w.heap.size (Array.getElem?_eq_some_iff.1 HE1.out).1 (owns_other HW1.out HE1.out (by decide))).trans HE1.out
  rw [← u8s_append] at hown2
  have hlen2 : (A1 ++ N2).length = A1.length + N2.length := List.length_append
  rw [← hlen2] at hown2
  have hA2 : A1.length + N2.length ≤ 400000 := by omega
  obtain ⟨A2, hAe2⟩ : ∃ A, A = A1 ++ N2 := ⟨_, rfl⟩
  rw [← hAe2] at hown2 hlen2
  have HA2 := hid hAe2
  have hal2 : A2.length ≤ 2 * 30000 + 100 := by omega
  clear hAe2 hlen2 hA2 hgrow2 hcs2 HW1 HB1 HE1 hlo2 hhi2 hal1
  clear hcell
  have hcell2 : w5.cell? ⟨w.heap.size, 2, none⟩ = some (.slice la ll lcap) := by simp [World.cell?, hE2]
  go_wp2_with fail
  refine (HTL.out _ hbel2).mono ?_
  rintro e w6 ⟨v3, rfl, ho3, hb3⟩
  obtain ⟨N3, hN3⟩ : ∃ N, N = putS x.lines (-1) := ⟨_, rfl⟩
  have hlo3 : 1 ≤ N3.length := by rw [hN3]; exact hpl.1
  have hhi3 : N3.length ≤ 10001 := by rw [hN3]; exact hpl.2
  rw [← hN3] at ho3
  have HN3 := hid hN3
  clear hN3
  obtain ⟨g3, cap3, rfl, hg3, hgl3, hcs3⟩ := owns_some ho3 (by omega)
  have hown2' := owns_below hown2 hb3
  have hbel2' : Below w.heap.size w w6 := hbel2.trans (hb3.mono hbel2.size)
  have hE2' := (hb3.block w.heap.size (by have := (Array.getElem?_eq_some_iff.1 hE2).1; exact this)).trans hE2
  have hs3 := hbel2'.size
  obtain ⟨va2, vc2, rfl, -, -⟩ := owns_form hown2'
  have HE2 := hid hE2'
  have HB2 := hid hbel2'
  have HW2 := hid hown2'
  clear hE2 hE2' hbel2 hbel2' hown2 hown2' ho3 hb3
  go_wp2_with (at_builtin; refine wpList_append_own _ rfl (.tmp 23) (.tmp 26) 28 rfl w.heap.size 5 i0 (.int .u8 0) 1 1 Tryz.underlying28 hi hz0 hz1 hz2 rfl (by decide) _ _ _ rfl HW2.out ⟨g3, 0, none⟩ N3.length cap3 (u8s N3) rfl (by rw [u8s_len, Nat.mul_one]) hcs3 (u8s_one N3) (by unfold maxLen; omega) (by omega) hs3 ?_)
  intro v3 w7 hown3 hgrow3 _
  have hbel3 : Below w.heap.size w w7 := HB2.out.grown hgrow3 hs3 (fun q hq => (HW2.out.lt q hq).1)
  have hE3 := (hgrow3.block w.heap.size (Array.getElem?_eq_some_iff.1 HE2.out).1 (owns_other HW2.out HE2.out (by decide))).trans HE2.out
  rw [← u8s_append] at hown3
  have hlen3 : (A2 ++ N3).length = A2.length + N3.length := List.length_append
  rw [← hlen3] at hown3
  have hA3 : A2.length + N3.length ≤ 400000 := by omega
  obtain ⟨A3, hAe3⟩ : ∃ A, A = A2 ++ N3 := ⟨_, rfl⟩
  rw [← hAe3] at hown3 hlen3
  have HA3 := hid hAe3
  have hal3 : A3.length ≤ 3 * 30000 + 100 := by omega
  clear hAe3 hlen3 hA3 hgrow3 hcs3 HW2 HB2 HE2 hlo3 hhi3 hal2
  clear hcell2
  have hcell3 : w7.cell? ⟨w.heap.size, 3, none⟩ = some (.slice xa xl xcap) := by simp [World.cell?, hE3]
  go_wp2_with fail
  refine (HTI.out _ hbel3).mono ?_
  rintro e w8 ⟨v4, rfl, ho4, hb4⟩
  obtain ⟨N4, hN4⟩ : ∃ N, N = putS x.index (-1) := ⟨_, rfl⟩
  have hlo4 : 1 ≤ N4.length := by rw [hN4]; exact hpx.1
  have hhi4 : N4.length ≤ 10001 := by rw [hN4]; exact hpx.2
  rw [← hN4] at ho4
  have HN4 := hid hN4
  clear hN4
  obtain ⟨g4, cap4, rfl, hg4, hgl4, hcs4⟩ := owns_some ho4 (by omega)
  have hown3' := owns_below hown3 hb4
  have hbel3' : Below w.heap.size w w8 := hbel3.trans (hb4.mono hbel3.size)
  have hE3' := (hb4.block w.heap.size (by have := (Array.getElem?_eq_some_iff.1 hE3).1; exact this)).trans hE3
  have hs4 := hbel3'.size
  obtain ⟨va3, vc3, rfl, -, -⟩ := owns_form hown3'
  have HE3 := hid hE3'
  have HB3 := hid hbel3'
  have HW3 := hid hown3'
  clear hE3 hE3' hbel3 hbel3' hown3 hown3' ho4 hb4
  go_wp2_with (at_builtin; refine wpList_append_own _ rfl (.tmp 28) (.tmp 31) 28 rfl w.heap.size 5 i0 (.int .u8 0) 1 1 Tryz.underlying28 hi hz0 hz1 hz2 rfl (by decide) _ _ _ rfl HW3.out ⟨g4, 0, none⟩ N4.length cap4 (u8s N4) rfl (by rw [u8s_len, Nat.mul_one]) hcs4 (u8s_one N4) (by unfold maxLen; omega) (by omega) hs4 ?_)
  intro v4 w9 hown4 hgrow4 _
  have hbel4 : Below w.heap.size w w9 := HB3.out.grown hgrow4 hs4 (fun q hq => (HW3.out.lt q hq).1)
  have hE4 := (hgrow4.block w.heap.size (Array.getElem?_eq_some_iff.1 HE3.out).1 (owns_other HW3.out HE3.out (by decide))).trans HE3.out
  rw [← u8s_append] at hown4
  have hlen4 : (A3 ++ N4).length = A3.length + N4.length := List.length_append
  rw [← hlen4] at hown4
  have hA4 : A3.length + N4.length ≤ 400000 := by omega
  obtain ⟨A4, hAe4⟩ : ∃ A, A = A3 ++ N4 := ⟨_, rfl⟩
  rw [← hAe4] at hown4 hlen4
  have HA4 := hid hAe4
  have hal4 : A4.length ≤ 4 * 30000 + 100 := by omega
  clear hAe4 hlen4 hA4 hgrow4 hcs4 HW3 HB3 HE3 hlo4 hhi4 hal3
  clear hcell3
  have hcell4 : w9.cell? ⟨w.heap.size, 4, none⟩ = some (.slice ta tl tcap) := by simp [World.cell?, hE4]
  have HEX : Hid (entX x file true = A4 ++ nodesB x.tree) := by
    show _ = _
    rw [HA4.out, HA3.out, HA2.out, HA1.out, HA0.out, HN1.out, HN2.out, HN3.out, HN4.out]
    unfold entX
    simp [List.append_assoc]
  have HH := hid hbel4
  have HOW := hid hown4
  clear hE4 hbel4 hown4
  go_wp2
  go_loopw [7, 36] (fun v i wr => ∃ k : Nat, i = .int .i64 k ∧ k ≤ tl ∧ wr.ownsRow w.heap.size 5 1 v (A4 ++ nodesB (x.tree.take k)).length (u8s (A4 ++ nodesB (x.tree.take k))) ∧ Below w.heap.size w wr) (fun _ i _ => tl - (intOf i).toNat)
  case atStart => exact ⟨0, rfl, by omega, by simpa [nodesB] using HOW.out, HH.out⟩
  case round =>
    clear hcell4 HOW HH
    obtain ⟨k, rfl, hk, hown, hbel⟩ := hrel
    obtain ⟨va, vc, rfl, -, -⟩ := owns_form hown
    have hsz := hbel.size
    by_cases hlt : k < tl
    · obtain ⟨b0, off, rfl, hc⟩ := (HT.out.below hbel (Nat.le_refl _)).open (by omega)
      obtain ⟨hc1, hc2⟩ := hc k hlt
      have hb0 := World.block_lt_of_cell? wr _ hc1
      have hr8 := H8.out k hlt
      have hkl : k < x.tree.length := by rw [HTLN.out]; exact hlt
      have HTK := hid (nodesB_take hkl)
      have hle := nodesB_le (x.tree.take k)
      rw [List.length_take] at hle
      obtain ⟨⟨fn, pc⟩, hp⟩ : ∃ p, x.tree.getD k (0, 0) = p := ⟨_, rfl⟩
      rw [hp] at hc1 hc2 hr8 HTK
      simp only at hc1 hc2 hr8 HTK hb0
      obtain ⟨r1, r2, r3, r4⟩ := hr8
      obtain ⟨P, hP⟩ : ∃ P, P = A4 ++ nodesB (x.tree.take k) := ⟨_, rfl⟩
      have hPl : P.length ≤ 300000 := by rw [hP, List.length_append]; omega
      rw [← hP] at hown ⊢
      have HP := hid hP
      have HF1 := hid (fun W => bytes_any fn W r1 r2)
      have HF2 := hid (fun W => bytes_any pc W r3 r4)
      have hn1 := numB_len fn
      have hn2 := numB_len pc
      obtain ⟨wB, hwB⟩ : ∃ wB, wB = wr.alloc (Obj.cells #[.int .i64 fn, .int .i64 pc] 133) := ⟨_, rfl⟩
      have hbB : Below wr.heap.size wr wB := by rw [hwB]; exact (Below.refl _ _).alloc (Nat.le_refl _) _
      have heB : wB.heap[wr.heap.size]? = some (.cells #[.int .i64 fn, .int .i64 pc] 133 (0, 0)) := by rw [hwB]; exact heap_alloc_new _ _
      have hltB := (Array.getElem?_eq_some_iff.1 heB).1
      have hownB := owns_below hown hbB
      have hbelB : Below w.heap.size w wB := hbel.trans (hbB.mono hsz)
      have HEB := hid heB
      have HOB := hid hownB
      have HBB := hid hbelB
      clear hp hP hle hc hown hbel heB hownB hbelB
      go_wp2_with fail
      rw [← hwB]
      clear hwB hbB hc1 hc2
      refine (HF1.out wB).mono ?_
      rintro e y1 ⟨v1, rfl, ho1, hb1⟩
      obtain ⟨N1, hN1⟩ : ∃ N, N = numB fn := ⟨_, rfl⟩
      rw [← hN1] at ho1 hn1 HTK
      clear hN1
      obtain ⟨g1, cap1, rfl, -, -, hcs1⟩ := owns_some ho1 (by omega)
      have hown1 := owns_below HOB.out hb1
      have hbel1 : Below w.heap.size w y1 := HBB.out.trans (hb1.mono HBB.out.size)
      have he1 := (hb1.block wr.heap.size hltB).trans HEB.out
      have hs1 := hbel1.size
      have HE1 := hid he1
      have HO1 := hid hown1
      have HB1 := hid hbel1
      clear HEB HOB HBB he1 hown1 hbel1 ho1 hb1
      go_wp2_with (at_builtin; refine wpList_append_own _ rfl (.tmp 40) (.tmp 43) 28 rfl w.heap.size 5 i0 (.int .u8 0) 1 1 Tryz.underlying28 hi hz0 hz1 hz2 rfl (by decide) _ _ _ rfl HO1.out ⟨g1, 0, none⟩ N1.length cap1 (u8s N1) rfl (by rw [u8s_len, Nat.mul_one]) hcs1 (u8s_one N1) (by unfold maxLen; omega) (by omega) hs1 ?_)
      intro v2 y2 hown2 hgrow2 _
      have hbel2 : Below w.heap.size w y2 := HB1.out.grown hgrow2 hs1 (fun q hq => (HO1.out.lt q hq).1)
      have he2 := (hgrow2.block wr.heap.size (Array.getElem?_eq_some_iff.1 HE1.out).1 (owns_other HO1.out HE1.out (by decide))).trans HE1.out
      obtain ⟨va2, vc2, rfl, -, -⟩ := owns_form hown2
      have hq2 : y2.cell? ⟨wr.heap.size, 1, none⟩ = some (.int .i64 pc) := by simp [World.cell?, he2]
      have HO2 := hid hown2
      have HB2 := hid hbel2
      clear hown2 hbel2 hgrow2 he2 hcs1 HO1 HB1 HE1
      go_wp2_with fail
      refine (HF2.out y2).mono ?_
      rintro e y3 ⟨v3, rfl, ho3, hb3⟩
      obtain ⟨N2, hN2⟩ : ∃ N, N = numB pc := ⟨_, rfl⟩
      rw [← hN2] at ho3 hn2 HTK
      clear hN2
      obtain ⟨g3, cap3, rfl, -, -, hcs3⟩ := owns_some ho3 (by omega)
      have hown3 := owns_below HO2.out hb3
      have hbel3 : Below w.heap.size w y3 := HB2.out.trans (hb3.mono HB2.out.size)
      have hs3 := hbel3.size
      have HO3 := hid hown3
      have HB3 := hid hbel3
      clear hown3 hbel3 ho3 hb3 hq2
      go_wp2_with (at_builtin; refine wpList_append_own _ rfl (.tmp 45) (.tmp 48) 28 rfl w.heap.size 5 i0 (.int .u8 0) 1 1 Tryz.underlying28 hi hz0 hz1 hz2 rfl (by decide) _ _ _ rfl HO3.out ⟨g3, 0, none⟩ N2.length cap3 (u8s N2) rfl (by rw [u8s_len, Nat.mul_one]) hcs3 (u8s_one N2) (by unfold maxLen; omega) (by omega) hs3 ?_)
      intro v4 y4 hown4 hgrow4 _
      have HR4 : Hid (y4.ownsRow w.heap.size 5 1 v4 (A4 ++ nodesB (x.tree.take (k + 1))).length (u8s (A4 ++ nodesB (x.tree.take (k + 1)))) ∧ Below w.heap.size w y4) := by
        refine ⟨?_, HB3.out.grown hgrow4 hs3 (fun q hq => (HO3.out.lt q hq).1)⟩
        have e2 : A4 ++ nodesB (x.tree.take (k + 1)) = (P ++ N1) ++ N2 := by rw [HTK.out, HP.out]; simp [List.append_assoc]
        rw [e2, u8s_append, u8s_append]
        simpa [Nat.add_assoc] using hown4
      clear hown4 hgrow4 hcs3 HO3 HB3 HO2 HB2
      go_wp2
      go_roundw
      case rel => exact ⟨k + 1, by go_num, by omega, HR4.out.1, HR4.out.2⟩
      case measure => simp [intOf]; omega
    · have hlt' : decide ((k : Int) < (tl : Int)) = false := by simp; omega
      have HF : Hid (wr.ownsRow w.heap.size 5 1 (.slice va (A4 ++ nodesB (x.tree.take k)).length vc) (entX x file true).length (u8s (entX x file true))) := by
        show World.ownsRow _ _ _ _ _ _ _
        rw [HEX.out]
        have : x.tree.take k = x.tree := List.take_of_length_le (by rw [HTLN.out]; omega)
        rw [this] at hown ⊢
        exact hown
      go_wp2
      go_ret
      exact ⟨_, rfl, HF.out, hbel⟩

set_option maxHeartbeats 4000000 in
set_option maxRecDepth 100000 in
theorem entryBytes_false (x : EntD) (la xa ta : Option Addr) (lcap xcap tcap : Nat) (file : Int) (w : World) (hl : RdS w la x.lines.length lcap x.lines) (hx : RdS w xa x.index.length xcap x.index) (ht : RdS w ta x.tree.length tcap x.tree) (h1 : wfT x.lines = true) (h2 : wfT x.index = true) (h3 : x.name.size ≤ 20) (h5 : 0 ≤ file) (h6 : file ≤ 1000) (h7 : x.tree.length ≤ 9999) (h8 : ∀ j, j < x.tree.length → 0 ≤ (x.tree.getD j (0, 0)).1 ∧ (x.tree.getD j (0, 0)).1 ≤ 2147483647 ∧ 0 ≤ (x.tree.getD j (0, 0)).2 ∧ (x.tree.getD j (0, 0)).2 ≤ 2147483647) :
    Calls Tryz.prog 54 #[.agg #[.string x.name, .string x.file, .slice la x.lines.length lcap, .slice xa x.index.length xcap, .slice ta x.tree.length tcap], .int .i64 file, .bool false] w fun e w' => ∃ v, e = .returned v ∧ w'.ownsRow w.heap.size 5 1 v (entX x file false).length (u8s (entX x file false)) ∧ Below w.heap.size w w' := by
  obtain ⟨i0, hi, hz0, hz1, hz2⟩ := info_parts Tryz.infoByte
  have HTX := hid (fun W => textBytes_any x.name W h3)
  have HNB := hid (fun W => bytes_any file W h5 (by omega))
  have HTL := hid (fun (W : World) (h : Below w.heap.size w W) => tbytes_any la x.lines.length lcap x.lines W (hl.below h (Nat.le_refl _)) h1)
  have HTI := hid (fun (W : World) (h : Below w.heap.size w W) => tbytes_any xa x.index.length xcap x.index W (hx.below h (Nat.le_refl _)) h2)
  have hnb := numB_len file
  have htx := textB_len x.name h3
  have hpl := putS_range h1
  have hpx := putS_range h2
  have hbd := hid (nodesB_le x.tree)
  obtain ⟨wA, hwA⟩ : ∃ wA, wA = w.alloc (Obj.cells #[.string x.name, .string x.file, .slice la x.lines.length lcap, .slice xa x.index.length xcap, .slice ta x.tree.length tcap] 90) := ⟨_, rfl⟩
  have hbA : Below w.heap.size w wA := by rw [hwA]; exact (Below.refl _ _).alloc (Nat.le_refl _) _
  have heA : wA.heap[w.heap.size]? = some (.cells #[.string x.name, .string x.file, .slice la x.lines.length lcap, .slice xa x.index.length xcap, .slice ta x.tree.length tcap] 90 (0, 0)) := by rw [hwA]; exact heap_alloc_new _ _
  have HT := hid ht
  have H8 := hid h8
  have hltA := (Array.getElem?_eq_some_iff.1 heA).1
  have htc := ht.hcap
  have htm := ht.hmax
  unfold maxLen at htm
  generalize hll : x.lines.length = ll at *
  generalize hxl : x.index.length = xl at *
  generalize htl : x.tree.length = tl at *
  have HTLN := hid htl
  clear hl hx ht h8 hll hxl htl
  go_enter Tryz.func54, Tryz.ntmps54
  go_wp2_with fail
  rw [← hwA]
  clear hwA
  refine (HTX.out wA).mono ?_
  rintro e w1 ⟨v0, rfl, ho0, hb0⟩
  have hown0 : w1.ownsRow w.heap.size 5 1 v0 (textB x.name).length (u8s (textB x.name)) := owns_low7 ho0 hbA.size
  have hbel0 : Below w.heap.size w w1 := hbA.trans (hb0.mono hbA.size)
  have hE0 := (hb0.block w.heap.size hltA).trans heA
  obtain ⟨A0, hA0⟩ : ∃ A, A = textB x.name := ⟨_, rfl⟩
  rw [← hA0] at hown0 htx
  have HA0 := hid hA0
  have hal0 : A0.length ≤ 0 * 30000 + 100 := by omega
  clear ho0 hb0 heA hbA hA0
  go_wp2_with fail
  refine (HNB.out _).mono ?_
  rintro e w2 ⟨v1, rfl, ho1, hb1⟩
  obtain ⟨N1, hN1⟩ : ∃ N, N = numB file := ⟨_, rfl⟩
  have hlo1 : 1 ≤ N1.length := by rw [hN1]; exact hnb.1
  have hhi1 : N1.length ≤ 5 := by rw [hN1]; exact hnb.2
  rw [← hN1] at ho1
  have HN1 := hid hN1
  clear hN1
  obtain ⟨g1, cap1, rfl, hg1, hgl1, hcs1⟩ := owns_some ho1 (by omega)
  have hown0' := owns_below hown0 hb1
  have hbel0' : Below w.heap.size w w2 := hbel0.trans (hb1.mono hbel0.size)
  have hE0' := (hb1.block w.heap.size (by have := (Array.getElem?_eq_some_iff.1 hE0).1; exact this)).trans hE0
  have hs1 := hbel0'.size
  obtain ⟨va0, vc0, rfl, -, -⟩ := owns_form hown0'
  have HE0 := hid hE0'
  have HB0 := hid hbel0'
  have HW0 := hid hown0'
  clear hE0 hE0' hbel0 hbel0' hown0 hown0' ho1 hb1
  go_wp2_with (at_builtin; refine wpList_append_own _ rfl (.tmp 13) (.tmp 15) 28 rfl w.heap.size 5 i0 (.int .u8 0) 1 1 Tryz.underlying28 hi hz0 hz1 hz2 rfl (by decide) _ _ _ rfl HW0.out ⟨g1, 0, none⟩ N1.length cap1 (u8s N1) rfl (by rw [u8s_len, Nat.mul_one]) hcs1 (u8s_one N1) (by unfold maxLen; omega) (by omega) hs1 ?_)
  intro v1 w3 hown1 hgrow1 _
  have hbel1 : Below w.heap.size w w3 := HB0.out.grown hgrow1 hs1 (fun q hq => (HW0.out.lt q hq).1)
  have hE1 := (hgrow1.block w.heap.size (Array.getElem?_eq_some_iff.1 HE0.out).1 (owns_other HW0.out HE0.out (by decide))).trans HE0.out
  rw [← u8s_append] at hown1
  have hlen1 : (A0 ++ N1).length = A0.length + N1.length := List.length_append
  rw [← hlen1] at hown1
  have hA1 : A0.length + N1.length ≤ 400000 := by omega
  obtain ⟨A1, hAe1⟩ : ∃ A, A = A0 ++ N1 := ⟨_, rfl⟩
  rw [← hAe1] at hown1 hlen1
  have HA1 := hid hAe1
  have hal1 : A1.length ≤ 1 * 30000 + 100 := by omega
  clear hAe1 hlen1 hA1 hgrow1 hcs1 HW0 HB0 HE0 hlo1 hhi1 hal0
  have hcell2 : w3.cell? ⟨w.heap.size, 2, none⟩ = some (.slice la ll lcap) := by simp [World.cell?, hE1]
  go_wp2_with fail
  refine (HTL.out _ hbel1).mono ?_
  rintro e w4 ⟨v2, rfl, ho2, hb2⟩
  obtain ⟨N2, hN2⟩ : ∃ N, N = putS x.lines (-1) := ⟨_, rfl⟩
  have hlo2 : 1 ≤ N2.length := by rw [hN2]; exact hpl.1
  have hhi2 : N2.length ≤ 10001 := by rw [hN2]; exact hpl.2
  rw [← hN2] at ho2
  have HN2 := hid hN2
  clear hN2
  obtain ⟨g2, cap2, rfl, hg2, hgl2, hcs2⟩ := owns_some ho2 (by omega)
  have hown1' := owns_below hown1 hb2
  have hbel1' : Below w.heap.size w w4 := hbel1.trans (hb2.mono hbel1.size)
  have hE1' := (hb2.block w.heap.size (by have := (Array.getElem?_eq_some_iff.1 hE1).1; exact this)).trans hE1
  have hs2 := hbel1'.size
  obtain ⟨va1, vc1, rfl, -, -⟩ := owns_form hown1'
  have HE1 := hid hE1'
  have HB1 := hid hbel1'
  have HW1 := hid hown1'
  clear hE1 hE1' hbel1 hbel1' hown1 hown1' ho2 hb2
  go_wp2_with (at_builtin; refine wpList_append_own _ rfl (.tmp 23) (.tmp 26) 28 rfl w.heap.size 5 i0 (.int .u8 0) 1 1 Tryz.underlying28 hi hz0 hz1 hz2 rfl (by decide) _ _ _ rfl HW1.out ⟨g2, 0, none⟩ N2.length cap2 (u8s N2) rfl (by rw [u8s_len, Nat.mul_one]) hcs2 (u8s_one N2) (by unfold maxLen; omega) (by omega) hs2 ?_)
  intro v2 w5 hown2 hgrow2 _
  have hbel2 : Below w.heap.size w w5 := HB1.out.grown hgrow2 hs2 (fun q hq => (HW1.out.lt q hq).1)
  have hE2 := (hgrow2.block w.heap.size (Array.getElem?_eq_some_iff.1 HE1.out).1 (owns_other HW1.out HE1.out (by decide))).trans HE1.out
  rw [← u8s_append] at hown2
  have hlen2 : (A1 ++ N2).length = A1.length + N2.length := List.length_append
  rw [← hlen2] at hown2
  have hA2 : A1.length + N2.length ≤ 400000 := by omega
  obtain ⟨A2, hAe2⟩ : ∃ A, A = A1 ++ N2 := ⟨_, rfl⟩
  rw [← hAe2] at hown2 hlen2
  have HA2 := hid hAe2
  have hal2 : A2.length ≤ 2 * 30000 + 100 := by omega
  clear hAe2 hlen2 hA2 hgrow2 hcs2 HW1 HB1 HE1 hlo2 hhi2 hal1
  clear hcell2
  have hcell3 : w5.cell? ⟨w.heap.size, 3, none⟩ = some (.slice xa xl xcap) := by simp [World.cell?, hE2]
  go_wp2_with fail
  refine (HTI.out _ hbel2).mono ?_
  rintro e w6 ⟨v3, rfl, ho3, hb3⟩
  obtain ⟨N3, hN3⟩ : ∃ N, N = putS x.index (-1) := ⟨_, rfl⟩
  have hlo3 : 1 ≤ N3.length := by rw [hN3]; exact hpx.1
  have hhi3 : N3.length ≤ 10001 := by rw [hN3]; exact hpx.2
  rw [← hN3] at ho3
  have HN3 := hid hN3
  clear hN3
  obtain ⟨g3, cap3, rfl, hg3, hgl3, hcs3⟩ := owns_some ho3 (by omega)
  have hown2' := owns_below hown2 hb3
  have hbel2' : Below w.heap.size w w6 := hbel2.trans (hb3.mono hbel2.size)
  have hE2' := (hb3.block w.heap.size (by have := (Array.getElem?_eq_some_iff.1 hE2).1; exact this)).trans hE2
  have hs3 := hbel2'.size
  obtain ⟨va2, vc2, rfl, -, -⟩ := owns_form hown2'
  have HE2 := hid hE2'
  have HB2 := hid hbel2'
  have HW2 := hid hown2'
  clear hE2 hE2' hbel2 hbel2' hown2 hown2' ho3 hb3
  go_wp2_with (at_builtin; refine wpList_append_own _ rfl (.tmp 28) (.tmp 31) 28 rfl w.heap.size 5 i0 (.int .u8 0) 1 1 Tryz.underlying28 hi hz0 hz1 hz2 rfl (by decide) _ _ _ rfl HW2.out ⟨g3, 0, none⟩ N3.length cap3 (u8s N3) rfl (by rw [u8s_len, Nat.mul_one]) hcs3 (u8s_one N3) (by unfold maxLen; omega) (by omega) hs3 ?_)
  intro v3 w7 hown3 hgrow3 _
  have hbel3 : Below w.heap.size w w7 := HB2.out.grown hgrow3 hs3 (fun q hq => (HW2.out.lt q hq).1)
  have hE3 := (hgrow3.block w.heap.size (Array.getElem?_eq_some_iff.1 HE2.out).1 (owns_other HW2.out HE2.out (by decide))).trans HE2.out
  rw [← u8s_append] at hown3
  have hlen3 : (A2 ++ N3).length = A2.length + N3.length := List.length_append
  rw [← hlen3] at hown3
  have hA3 : A2.length + N3.length ≤ 400000 := by omega
  obtain ⟨A3, hAe3⟩ : ∃ A, A = A2 ++ N3 := ⟨_, rfl⟩
  rw [← hAe3] at hown3 hlen3
  have HA3 := hid hAe3
  have hal3 : A3.length ≤ 3 * 30000 + 100 := by omega
  clear hAe3 hlen3 hA3 hgrow3 hcs3 HW2 HB2 HE2 hlo3 hhi3 hal2
  clear hcell3
  have hcell4 : w7.cell? ⟨w.heap.size, 4, none⟩ = some (.slice ta tl tcap) := by simp [World.cell?, hE3]
  have HEX : Hid (entX x file false = A3 ++ nodesB x.tree) := by
    show _ = _
    rw [HA3.out, HA2.out, HA1.out, HA0.out, HN1.out, HN2.out, HN3.out]
    unfold entX
    simp [List.append_assoc]
  have HH := hid hbel3
  have HOW := hid hown3
  clear hE3 hbel3 hown3
  go_wp2
  go_loopw [7, 36] (fun v i wr => ∃ k : Nat, i = .int .i64 k ∧ k ≤ tl ∧ wr.ownsRow w.heap.size 5 1 v (A3 ++ nodesB (x.tree.take k)).length (u8s (A3 ++ nodesB (x.tree.take k))) ∧ Below w.heap.size w wr) (fun _ i _ => tl - (intOf i).toNat)
  case atStart => exact ⟨0, rfl, by omega, by simpa [nodesB] using HOW.out, HH.out⟩
  case round =>
    clear hcell4 HOW HH
    obtain ⟨k, rfl, hk, hown, hbel⟩ := hrel
    obtain ⟨va, vc, rfl, -, -⟩ := owns_form hown
    have hsz := hbel.size
    by_cases hlt : k < tl
    · obtain ⟨b0, off, rfl, hc⟩ := (HT.out.below hbel (Nat.le_refl _)).open (by omega)
      obtain ⟨hc1, hc2⟩ := hc k hlt
      have hb0 := World.block_lt_of_cell? wr _ hc1
      have hr8 := H8.out k hlt
      have hkl : k < x.tree.length := by rw [HTLN.out]; exact hlt
      have HTK := hid (nodesB_take hkl)
      have hle := nodesB_le (x.tree.take k)
      rw [List.length_take] at hle
      obtain ⟨⟨fn, pc⟩, hp⟩ : ∃ p, x.tree.getD k (0, 0) = p := ⟨_, rfl⟩
      rw [hp] at hc1 hc2 hr8 HTK
      simp only at hc1 hc2 hr8 HTK hb0
      obtain ⟨r1, r2, r3, r4⟩ := hr8
      obtain ⟨P, hP⟩ : ∃ P, P = A3 ++ nodesB (x.tree.take k) := ⟨_, rfl⟩
      have hPl : P.length ≤ 300000 := by rw [hP, List.length_append]; omega
      rw [← hP] at hown ⊢
      have HP := hid hP
      have HF1 := hid (fun W => bytes_any fn W r1 r2)
      have HF2 := hid (fun W => bytes_any pc W r3 r4)
      have hn1 := numB_len fn
      have hn2 := numB_len pc
      obtain ⟨wB, hwB⟩ : ∃ wB, wB = wr.alloc (Obj.cells #[.int .i64 fn, .int .i64 pc] 133) := ⟨_, rfl⟩
      have hbB : Below wr.heap.size wr wB := by rw [hwB]; exact (Below.refl _ _).alloc (Nat.le_refl _) _
      have heB : wB.heap[wr.heap.size]? = some (.cells #[.int .i64 fn, .int .i64 pc] 133 (0, 0)) := by rw [hwB]; exact heap_alloc_new _ _
      have hltB := (Array.getElem?_eq_some_iff.1 heB).1
      have hownB := owns_below hown hbB
      have hbelB : Below w.heap.size w wB := hbel.trans (hbB.mono hsz)
      have HEB := hid heB
      have HOB := hid hownB
      have HBB := hid hbelB
      clear hp hP hle hc hown hbel heB hownB hbelB
      go_wp2_with fail
      rw [← hwB]
      clear hwB hbB hc1 hc2
      refine (HF1.out wB).mono ?_
      rintro e y1 ⟨v1, rfl, ho1, hb1⟩
      obtain ⟨N1, hN1⟩ : ∃ N, N = numB fn := ⟨_, rfl⟩
      rw [← hN1] at ho1 hn1 HTK
      clear hN1
      obtain ⟨g1, cap1, rfl, -, -, hcs1⟩ := owns_some ho1 (by omega)
      have hown1 := owns_below HOB.out hb1
      have hbel1 : Below w.heap.size w y1 := HBB.out.trans (hb1.mono HBB.out.size)
      have he1 := (hb1.block wr.heap.size hltB).trans HEB.out
      have hs1 := hbel1.size
      have HE1 := hid he1
      have HO1 := hid hown1
      have HB1 := hid hbel1
      clear HEB HOB HBB he1 hown1 hbel1 ho1 hb1
      go_wp2_with (at_builtin; refine wpList_append_own _ rfl (.tmp 40) (.tmp 43) 28 rfl w.heap.size 5 i0 (.int .u8 0) 1 1 Tryz.underlying28 hi hz0 hz1 hz2 rfl (by decide) _ _ _ rfl HO1.out ⟨g1, 0, none⟩ N1.length cap1 (u8s N1) rfl (by rw [u8s_len, Nat.mul_one]) hcs1 (u8s_one N1) (by unfold maxLen; omega) (by omega) hs1 ?_)
      intro v2 y2 hown2 hgrow2 _
      have hbel2 : Below w.heap.size w y2 := HB1.out.grown hgrow2 hs1 (fun q hq => (HO1.out.lt q hq).1)
      have he2 := (hgrow2.block wr.heap.size (Array.getElem?_eq_some_iff.1 HE1.out).1 (owns_other HO1.out HE1.out (by decide))).trans HE1.out
      obtain ⟨va2, vc2, rfl, -, -⟩ := owns_form hown2
      have hq2 : y2.cell? ⟨wr.heap.size, 1, none⟩ = some (.int .i64 pc) := by simp [World.cell?, he2]
      have HO2 := hid hown2
      have HB2 := hid hbel2
      clear hown2 hbel2 hgrow2 he2 hcs1 HO1 HB1 HE1
      go_wp2_with fail
      refine (HF2.out y2).mono ?_
      rintro e y3 ⟨v3, rfl, ho3, hb3⟩
      obtain ⟨N2, hN2⟩ : ∃ N, N = numB pc := ⟨_, rfl⟩
      rw [← hN2] at ho3 hn2 HTK
      clear hN2
      obtain ⟨g3, cap3, rfl, -, -, hcs3⟩ := owns_some ho3 (by omega)
      have hown3 := owns_below HO2.out hb3
      have hbel3 : Below w.heap.size w y3 := HB2.out.trans (hb3.mono HB2.out.size)
      have hs3 := hbel3.size
      have HO3 := hid hown3
      have HB3 := hid hbel3
      clear hown3 hbel3 ho3 hb3 hq2
      go_wp2_with (at_builtin; refine wpList_append_own _ rfl (.tmp 45) (.tmp 48) 28 rfl w.heap.size 5 i0 (.int .u8 0) 1 1 Tryz.underlying28 hi hz0 hz1 hz2 rfl (by decide) _ _ _ rfl HO3.out ⟨g3, 0, none⟩ N2.length cap3 (u8s N2) rfl (by rw [u8s_len, Nat.mul_one]) hcs3 (u8s_one N2) (by unfold maxLen; omega) (by omega) hs3 ?_)
      intro v4 y4 hown4 hgrow4 _
      have HR4 : Hid (y4.ownsRow w.heap.size 5 1 v4 (A3 ++ nodesB (x.tree.take (k + 1))).length (u8s (A3 ++ nodesB (x.tree.take (k + 1)))) ∧ Below w.heap.size w y4) := by
        refine ⟨?_, HB3.out.grown hgrow4 hs3 (fun q hq => (HO3.out.lt q hq).1)⟩
        have e2 : A3 ++ nodesB (x.tree.take (k + 1)) = (P ++ N1) ++ N2 := by rw [HTK.out, HP.out]; simp [List.append_assoc]
        rw [e2, u8s_append, u8s_append]
        simpa [Nat.add_assoc] using hown4
      clear hown4 hgrow4 hcs3 HO3 HB3 HO2 HB2
      go_wp2
      go_roundw
      case rel => exact ⟨k + 1, by go_num, by omega, HR4.out.1, HR4.out.2⟩
      case measure => simp [intOf]; omega
    · have hlt' : decide ((k : Int) < (tl : Int)) = false := by simp; omega
      have HF : Hid (wr.ownsRow w.heap.size 5 1 (.slice va (A3 ++ nodesB (x.tree.take k)).length vc) (entX x file false).length (u8s (entX x file false))) := by
        show World.ownsRow _ _ _ _ _ _ _
        rw [HEX.out]
        have : x.tree.take k = x.tree := List.take_of_length_le (by rw [HTLN.out]; omega)
        rw [this] at hown ⊢
        exact hown
      go_wp2
      go_ret
      exact ⟨_, rfl, HF.out, hbel⟩

end Go.Proofs.YthaganponmnanaaGreatDoor
