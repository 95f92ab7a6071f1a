/- The law Products: the walk. -/
import Derived.Test.YtooinlilplecpabV3
import Derived.Test.YtooinlilplecpabQ7
import Derived.Test.YtooinlilplecpabD9
import Derived.Test.YtooinlilplecpabP0
namespace Go.Proofs.Ytooinlilplecpab
open Go.RowKit

theorem times_strip : strip timesP = timesP := rfl

set_option maxHeartbeats 4000000 in
set_option maxRecDepth 100000 in
theorem products_walk (x y bud : Int) (w : World) (hx : R64 x) (hy : R64 y) (hbu : R64 bud) :
    Calls Try.prog 3 #[.int .i64 x, .int .i64 y, .int .i64 bud] w fun e w' => e = .returned (.bool true) ∧ Below w.heap.size w w' := by
  have HT := hid (fun (W : World) => times_any W)
  obtain ⟨hx1, hx2⟩ := hx
  obtain ⟨hy1, hy2⟩ := hy
  obtain ⟨hu1, hu2⟩ := hbu
  have HPX := hid (fun (W : World) => pick_any x 1000 W hx1 hx2 (by decide) (by decide))
  have HPY := hid (fun (W : World) => pick_any y 201 W hy1 hy2 (by decide) (by decide))
  have HPB := hid (fun (W : World) => pick_any bud 31 W hu1 hu2 (by decide) (by decide))
  have ra : 0 ≤ pickI x 1000 ∧ pickI x 1000 < 1000 := ⟨Int.emod_nonneg _ (by decide), Int.emod_lt_of_pos _ (by decide)⟩
  have rb : 0 ≤ pickI y 201 ∧ pickI y 201 < 201 := ⟨Int.emod_nonneg _ (by decide), Int.emod_lt_of_pos _ (by decide)⟩
  have rc : 0 ≤ pickI bud 31 ∧ pickI bud 31 < 31 := ⟨Int.emod_nonneg _ (by decide), Int.emod_lt_of_pos _ (by decide)⟩
  generalize pickI x 1000 = a at *
  generalize pickI y 201 = b' at *
  generalize pickI bud 31 = c' at *
  obtain ⟨b, rfl⟩ : ∃ n : Nat, b' = n := ⟨b'.toNat, by omega⟩
  obtain ⟨c, rfl⟩ : ∃ n : Nat, c' = n := ⟨c'.toNat, by omega⟩
  have hb200 : b ≤ 200 := by omega
  have hck := times_chk
  have hgd := good_of hck
  have hgv : givenB timesP [a, (b : Int)] = true := by
    unfold givenB withB
    have h1 : decide (0 ≤ a ∧ a < 1000) = true := decide_eq_true ra
    have h2 : decide (0 ≤ (b : Int) ∧ (b : Int) < 1000) = true := decide_eq_true (by omega)
    simp only [List.all_cons, List.all_nil, h1, h2, Bool.and_true, Bool.true_and]
    rfl
  have hgt := given_true hgv
  have hcod : (codesD timesP (c : Int)).isSome = true := times_codes ⟨c, by omega⟩
  have hne : newE timesP (c : Int) [a, (b : Int)] = 0 := by
    unfold newE layE
    rw [hck, hgv, hcod]
    simp
    omega
  have hre : runE timesP [a, (b : Int)] 2000 = 0 := by
    unfold runE
    rw [hck, hgv]
    simp
  have hrs : runS timesP [a, (b : Int)] 2000 = ⟨1, a * b % 1000, []⟩ := by
    unfold runS
    rw [if_pos hre]
    exact times_end a b ra hb200
  have HNW := hid (fun (pa : Option Addr) (pcap : Nat) (aa : Option Addr) (W : World) (hp : RdP W pa 3 pcap timesP) (ha : Rd .i64 W aa 2 2 [a, (b : Int)]) => uNew_any pa pcap timesP (c : Int) aa 2 [a, (b : Int)] W hp ⟨by omega, by omega⟩ ha)
  have HRU := hid (fun (pa : Option Addr) (pcap : Nat) (aa : Option Addr) (W : World) (hp : RdP W pa 3 pcap timesP) (ha : Rd .i64 W aa 2 2 [a, (b : Int)]) => run_answers pa pcap timesP aa 2 [a, (b : Int)] 2000 W hp ha ⟨by omega, by omega⟩)
  rw [hne] at HNW
  rw [hrs, hre] at HRU
  have htd : toldD timesP ⟨1, a * b % 1000, []⟩ = [] := rfl
  rw [htd] at HRU
  have hwf := wf_begun hgd hgt.1 hgt.2
  have HSP := hid (fun (mb : Nat) (X : RX) (w0 W : World) (hm : MachAt timesP (c : Int) mb X w0 W (begunD timesP [a, (b : Int)])) => uStep_any timesP (c : Int) mb X w0 (begunD timesP [a, (b : Int)]) 2000 W hgd hwf hm (by decide))
  rw [times_strip, times_taken a b ra hb200, times_end a b ra hb200] at HSP
  have hwe : Wf timesP ⟨1, a * b % 1000, []⟩ := by
    have := wf_run hgd hwf 2000
    rw [times_end a b ra hb200] at this
    exact this
  have HST := hid (fun (mb : Nat) (X : RX) (w0 W : World) (hm : MachAt timesP (c : Int) mb X w0 W ⟨1, a * b % 1000, []⟩) => uState_any timesP (c : Int) mb X w0 ⟨1, a * b % 1000, []⟩ W hgd hwe hm)
  have hab0 : 0 ≤ a * b := Int.mul_nonneg ra.1 (by omega)
  have hab1 : a * b ≤ 1000 * 200 := Int.mul_le_mul (by omega) (by omega) (by omega) (by omega)
  have hwr1 : IntKind.i64.wrap (a * b) = a * b := by rw [IntKind.wrap_i64]; omega
  have hwr2 : IntKind.i64.wrap (7 * (b : Int)) = 7 * b := by rw [IntKind.wrap_i64]; omega
  have hwr3 : IntKind.i64.wrap (7 * (b : Int) + 5) = 7 * b + 5 := by rw [IntKind.wrap_i64]; omega
  have hcast : ((7 * b + 5 : Nat) : Int) = 7 * (b : Int) + 5 := by omega
  rw [hcast] at HSP
  clear hck hgv hgt hcod hne hre hrs htd hwf hwe
  go_enter Try.func3, Try.ntmps3
  go_wp2_with fail
  refine (HT.out w).mono ?_
  clear HT
  rintro e w1 ⟨pa, pcap, rfl, hrp, hb1⟩
  have HRP := hid hrp
  clear hrp
  go_wp2_with fail
  refine (HPX.out _).mono ?_
  rintro e w2 ⟨rfl, rfl⟩
  go_wp2_with fail
  refine (HPY.out _).mono ?_
  rintro e w2 ⟨rfl, rfl⟩
  go_wp2_with fail
  refine (HPB.out _).mono ?_
  rintro e w2 ⟨rfl, rfl⟩
  clear HPX HPY HPB
  obtain ⟨wA, hwA⟩ : ∃ u, u = (w1.alloc (Obj.cells #[.slice pa 3 pcap] 24)).alloc (Obj.cells #[.int .i64 a, .int .i64 b] 3) := ⟨_, rfl⟩
  have hbA : Below w1.heap.size w1 wA := by rw [hwA]; exact ((Below.refl _ _).alloc (Nat.le_refl _) _).alloc (by simp) _
  have hsA : wA.heap.size = w1.heap.size + 2 := by rw [hwA]; simp
  have k0 : wA.heap[w1.heap.size]? = some (.cells #[.slice pa 3 pcap] 24 (0, 0)) := by rw [hwA]; exact heap_at1 (by simp) (heap_new_at rfl)
  have k1 : wA.heap[w1.heap.size + 1]? = some (.cells #[.int .i64 a, .int .i64 b] 3 (0, 0)) := by rw [hwA]; exact heap_new_at (by simp)
  have HNA := hid (HNW.out pa pcap (some ⟨w1.heap.size + 1, 0, none⟩) wA (HRP.out.below hbA) (rd_two k1))
  have HK0 := hid k0
  clear HNW k1 k0
  go_wp2_with fail
  rw [← hwA]
  clear hwA
  refine HNA.out.mono ?_
  clear HNA
  rintro e w3 ⟨hb3, hcase⟩
  rcases hcase with ⟨h, -⟩ | ⟨-, -, mb, X, w0, rfl, hb0, hm⟩
  · exact absurd rfl h
  have hs3 := hb3.size
  have k3 := (hb3.block w1.heap.size (by omega)).trans HK0.out
  have r3 : w3.cell? ⟨w1.heap.size, 0, none⟩ = some (.slice pa 3 pcap) := by simp [World.cell?, k3]
  have hbw3 : Below w1.heap.size w1 w3 := hbA.trans (hb3.mono (by omega))
  obtain ⟨wB, hwB⟩ : ∃ u, u = w3.alloc (Obj.cells #[.int .i64 a, .int .i64 b] 3) := ⟨_, rfl⟩
  have hbB : Below w3.heap.size w3 wB := by rw [hwB]; exact (Below.refl _ _).alloc (Nat.le_refl _) _
  have k4 : wB.heap[w3.heap.size]? = some (.cells #[.int .i64 a, .int .i64 b] 3 (0, 0)) := by rw [hwB]; exact heap_new_at rfl
  have HRB := hid (HRU.out pa pcap (some ⟨w3.heap.size, 0, none⟩) wB ((HRP.out.below hbw3).below hbB) (rd_two k4))
  have HM := hid hm
  have HB13 := hid (hb1.trans (hbw3.mono hb1.size))
  have ltp : w1.heap.size < w3.heap.size := by omega
  clear HRU hm k3 k4
  go_wp2_with fail
  rw [← hwB]
  clear hwB
  refine HRB.out.mono ?_
  clear HRB
  rintro e w5 ⟨fa, fcap, rfl, -, hb5⟩
  obtain ⟨wC, hwC⟩ : ∃ u, u = w5.alloc (Obj.cells #[.int .i64 1, .int .i64 (a * b % 1000), .slice fa 0 fcap] 34) := ⟨_, rfl⟩
  have hbC : Below w5.heap.size w5 wC := by rw [hwC]; exact (Below.refl _ _).alloc (Nat.le_refl _) _
  have k5 : wC.heap[w5.heap.size]? = some (.cells #[.int .i64 1, .int .i64 (a * b % 1000), .slice fa 0 fcap] 34 (0, 0)) := by rw [hwC]; exact heap_new_at rfl
  simp only [List.length_nil]
  have hb3C : Below w3.heap.size w3 wC := (hbB.trans (hb5.mono hbB.size)).trans (hbC.mono (by have := hb5.size; have := hbB.size; omega))
  have hext := HM.out.extend hb3C
  have HSC := hid (HSP.out mb _ w0 wC hext)
  have hlt5 : w5.heap.size < wC.heap.size := (Array.getElem?_eq_some_iff.1 k5).1
  have hle5 : w3.heap.size ≤ w5.heap.size := by have := hb5.size; have := hbB.size; omega
  have HK5 := hid k5
  have HB0 := hid (HB13.out)
  clear HSP hext k5 HM
  go_wp2_with fail
  rw [← hwC]
  clear hwC
  refine HSC.out.mono ?_
  clear HSC
  rintro e w6 ⟨rfl, hm6⟩
  have k6 := (hm6.run.since w5.heap.size hle5 hlt5).trans HK5.out
  have hold := hm6.run.old
  have HS6 := hid (HST.out mb _ w0 w6 hm6)
  have lt6 := (Array.getElem?_eq_some_iff.1 k6).1
  clear HST hm6
  go_wp2_with fail
  refine HS6.out.mono ?_
  clear HS6
  rintro e w7 ⟨rfl, hb7⟩
  have k7 := (hb7.block w5.heap.size lt6).trans k6
  have z0 : w7.cell? ⟨w5.heap.size, 0, none⟩ = some (.int .i64 1) := by simp [World.cell?, k7]
  have z1 : w7.cell? ⟨w5.heap.size, 1, none⟩ = some (.int .i64 (a * b % 1000)) := by simp [World.cell?, k7]
  have z2 : w7.cell? ⟨w5.heap.size, 2, none⟩ = some (.slice fa 0 fcap) := by simp [World.cell?, k7]
  have hA : Below w.heap.size w w7 := by
    have h1 : Below w.heap.size w wA := hb1.trans (hbA.mono hb1.size)
    have h2 := h1.trans (hb0.mono h1.size)
    have h3 := h2.trans (hold.mono h2.size)
    exact h3.trans (hb7.mono h3.size)
  have HA := hid hA
  clear k6 k7 hold hA
  go_wp2
  exact bodyPost_ret (v := .bool true) (by simp [results, Try.results3, go_sem]) rfl ⟨rfl, HA.out⟩
end Go.Proofs.Ytooinlilplecpab
