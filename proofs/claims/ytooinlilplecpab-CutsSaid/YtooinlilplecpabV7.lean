/- The law Cuts: the walk. -/
import Derived.Test.YtooinlilplecpabV6
import Derived.Test.YtooinlilplecpabBQ
import Derived.Test.YtooinlilplecpabQ7s
import Derived.Test.YtooinlilplecpabD9
import Derived.Test.YtooinlilplecpabP0
namespace Go.Proofs.Ytooinlilplecpab
open Go.RowKit

theorem down_strip : strip downP = downP := rfl
/-- What Cuts asks of the run, for each number of calls. -/
def downEnd (n : Int) : StandD := if n ≤ 18 then ⟨1, 0, []⟩ else ⟨3, 0, downI n 19⟩
theorem down_at (n : Nat) (hn : n < 1000) : runD downP (begunD downP [(n : Int)]) 2000 = downEnd n := by
  unfold downEnd
  by_cases h : (n : Int) ≤ 18
  · rw [if_pos h]
    exact down_short n (by omega) 2000 (by omega)
  · rw [if_neg h]
    exact down_end n (by omega) 2000 (by omega)
theorem downI_rev (n : Int) : ∀ k i, i < k → ∃ x, ((downI n k).reverse)[i]? = some x ∧ x.fn = 1 ∧ x.next = 4
  | 0, i, h => by omega
  | k + 1, i, h => by
    have e : (downI n (k + 1)).reverse = ⟨1, 4, [n - k - 1, 1]⟩ :: (downI n k).reverse := by
      show (downI n k ++ [(⟨1, 4, [n - k - 1, 1]⟩ : LiveD)]).reverse = _
      simp
    rw [e]
    cases i with
    | zero => exact ⟨_, rfl, rfl, rfl⟩
    | succ i =>
      obtain ⟨x, hx⟩ := downI_rev n k i (by omega)
      exact ⟨x, by simpa using hx.1, hx.2⟩
theorem downI_last (n : Int) : ∀ k, ∃ x, ((downI n k).reverse)[k]? = some x ∧ x.fn = 0 ∧ x.next = 0
  | 0 => ⟨⟨0, 0, [n]⟩, rfl, rfl, rfl⟩
  | k + 1 => by
    have e : (downI n (k + 1)).reverse = ⟨1, 4, [n - k - 1, 1]⟩ :: (downI n k).reverse := by
      show (downI n k ++ [(⟨1, 4, [n - k - 1, 1]⟩ : LiveD)]).reverse = _
      simp
    rw [e]
    obtain ⟨x, hx⟩ := downI_last n k
    exact ⟨x, by simpa using hx.1, hx.2⟩
/-- The frames that are told of the deep run. -/
theorem down_told (n : Int) : (toldD downP ⟨3, 0, downI n 19⟩).length = 20 ∧ (∀ i, i < 19 → (toldD downP ⟨3, 0, downI n 19⟩)[i]? = some ⟨⟨#[114, 101, 99]⟩, ⟨#[114]⟩, 70⟩) ∧ (toldD downP ⟨3, 0, downI n 19⟩)[19]? = some ⟨⟨#[109, 97, 105, 110]⟩, ⟨#[109]⟩, 10⟩ := by
  have ht : ∀ x : LiveD, x.fn = 1 → x.next = 4 → (⟨(fnOf downP x).name, (fnOf downP x).file, (opOf downP x).line⟩ : FrameD) = ⟨⟨#[114, 101, 99]⟩, ⟨#[114]⟩, 70⟩ := fun x h1 h2 => by
    obtain ⟨f, t, l⟩ := x
    dsimp only at h1 h2
    subst h1 h2
    rfl
  refine ⟨?_, fun i hi => ?_, ?_⟩
  · unfold toldD
    simp [downI_len]
  · obtain ⟨x, h1, h2, h3⟩ := downI_rev n 19 i hi
    unfold toldD
    rw [List.getElem?_map, h1]
    exact congrArg some (ht x h2 h3)
  · obtain ⟨x, h1, h2, h3⟩ := downI_last n 19
    unfold toldD
    rw [List.getElem?_map, h1]
    obtain ⟨f, t, l⟩ := x
    dsimp only at h2 h3
    subst h2 h3
    rfl

set_option maxHeartbeats 8000000 in
set_option maxRecDepth 100000 in
theorem cuts_walk (x bud : Int) (w : World) (hx : R64 x) (hbu : R64 bud) :
    Calls Try.prog 4 #[.int .i64 x, .int .i64 bud] w fun e w' => e = .returned (.bool true) ∧ Below w.heap.size w w' := by
  have HT := hid (fun (W : World) => down_any W)
  obtain ⟨hx1, hx2⟩ := hx
  obtain ⟨hu1, hu2⟩ := hbu
  have HPX := hid (fun (W : World) => pick_any x 1000 W hx1 hx2 (by decide) (by decide))
  have HPB := hid (fun (W : World) => pick_any bud 31 W hu1 hu2 (by decide) (by decide))
  have ra : 0 ≤ pickI x 1000 ∧ pickI x 1000 < 1000 := ⟨Int.emod_nonneg _ (by decide), Int.emod_lt_of_pos _ (by decide)⟩
  have rc : 0 ≤ pickI bud 31 ∧ pickI bud 31 < 31 := ⟨Int.emod_nonneg _ (by decide), Int.emod_lt_of_pos _ (by decide)⟩
  generalize pickI x 1000 = a' at *
  generalize pickI bud 31 = c' at *
  obtain ⟨n, rfl⟩ : ∃ n : Nat, a' = n := ⟨a'.toNat, by omega⟩
  obtain ⟨c, rfl⟩ : ∃ n : Nat, c' = n := ⟨c'.toNat, by omega⟩
  have hn1000 : n < 1000 := by omega
  have hck := down_chk
  have hgd := good_of hck
  have hgv : givenB downP [(n : Int)] = true := by
    unfold givenB withB
    have h1 : decide (0 ≤ (n : Int) ∧ (n : Int) < 1000) = true := decide_eq_true ra
    simp only [List.all_cons, List.all_nil, h1, Bool.and_true]
    rfl
  have hgt := given_true hgv
  have hcod : (codesD downP (c : Int)).isSome = true := down_codes ⟨c, by omega⟩
  obtain ⟨cs, hcs⟩ := Option.isSome_iff_exists.1 hcod
  have hpcs := down_pcs ⟨c, by omega⟩
  dsimp only at hpcs
  rw [hcs] at hpcs
  dsimp only at hpcs
  have hne : newE downP (c : Int) [(n : Int)] = 0 := by
    unfold newE layE
    rw [hck, hgv, hcod]
    simp
    omega
  have hre : runE downP [(n : Int)] 2000 = 0 := by
    unfold runE
    rw [hck, hgv]
    simp
  have hrs : runS downP [(n : Int)] 2000 = downEnd n := by
    unfold runS
    rw [if_pos hre]
    exact down_at n hn1000
  have HNW := hid (fun (pa : Option Addr) (pcap : Nat) (aa : Option Addr) (W : World) (hp : RdP W pa 2 pcap downP) (ha : Rd .i64 W aa 1 1 [(n : Int)]) => uNew_any pa pcap downP (c : Int) aa 1 [(n : Int)] W hp ⟨by omega, by omega⟩ ha)
  have HRU := hid (fun (pa : Option Addr) (pcap : Nat) (aa : Option Addr) (W : World) (hp : RdP W pa 2 pcap downP) (ha : Rd .i64 W aa 1 1 [(n : Int)]) => run_answers pa pcap downP aa 1 [(n : Int)] 2000 W hp ha ⟨by omega, by omega⟩)
  rw [hne] at HNW
  rw [hrs, hre] at HRU
  have hwf := wf_begun hgd hgt.1 hgt.2
  have HSP := hid (fun (mb : Nat) (X : RX) (w0 W : World) (hm : MachAt downP (c : Int) mb X w0 W (begunD downP [(n : Int)])) => uStep_any downP (c : Int) mb X w0 (begunD downP [(n : Int)]) 2000 W hgd hwf hm (by decide))
  rw [down_strip, down_at n hn1000] at HSP
  have hwe : Wf downP (downEnd n) := by
    have := wf_run hgd hwf 2000
    rw [down_at n hn1000] at this
    exact this
  have HST := hid (fun (mb : Nat) (X : RX) (w0 W : World) (hm : MachAt downP (c : Int) mb X w0 W (downEnd n)) => uState_any downP (c : Int) mb X w0 (downEnd n) W hgd hwe hm)
  have HPC := hid (fun (mb : Nat) (X : RX) (w0 W : World) (hm : MachAt downP (c : Int) mb X w0 W (downEnd n)) => uPcs_any downP (c : Int) mb X w0 (downEnd n) W cs hcs hgd hwe hm)
  have HPL : Hid ((pcsD cs (downEnd n).live).length = if (n : Int) ≤ 18 then 0 else if 6 ≤ c then 19 else 20) := by
    unfold downEnd
    by_cases h : (n : Int) ≤ 18
    · rw [if_pos h, if_pos h]
      rfl
    · rw [if_neg h, if_neg h]
      unfold pcsD
      rw [List.length_reverse]
      dsimp only
      rw [downI_spots]
      exact hpcs
  obtain ⟨tk, htk⟩ : ∃ v, v = takenD downP (begunD downP [(n : Int)]) 2000 := ⟨_, rfl⟩
  rw [← htk] at HSP
  clear htk
  obtain ⟨fr, hfr⟩ : ∃ v, v = toldD downP (downEnd n) := ⟨_, rfl⟩
  rw [← hfr] at HRU
  have HFR := hid hfr
  obtain ⟨np, hnp⟩ : ∃ v, v = (pcsD cs (downEnd n).live).length := ⟨_, rfl⟩
  rw [← hnp] at HPC HPL
  obtain ⟨nf, hnf⟩ : ∃ v, v = fr.length := ⟨_, rfl⟩
  rw [← hnf] at HRU
  have HNF := hid hnf
  clear hnp hnf hfr hck hgv hgt hcod hne hre hrs hwf hwe hpcs
  go_enter Try.func4, Try.ntmps4
  go_wp2_with fail
  refine (HT.out w).mono ?_
  clear HT
  rintro e w1 ⟨pa, pcap, rfl, hrp, hb1⟩
  have HRP := hid hrp
  have hpc1 := hrp.2.1
  have hpc2 := hrp.2.2.1
  unfold maxLen at hpc2
  clear hrp
  go_wp2_with fail
  refine (HPX.out _).mono ?_
  rintro e w2 ⟨rfl, rfl⟩
  go_wp2_with fail
  refine (HPB.out _).mono ?_
  rintro e w2 ⟨rfl, rfl⟩
  clear HPX HPB
  obtain ⟨wA, hwA⟩ : ∃ u, u = (w1.alloc (Obj.cells #[.slice pa 2 pcap] 24)).alloc (Obj.cells #[.int .i64 n] 3) := ⟨_, rfl⟩
  have hbA : Below w1.heap.size w1 wA := by rw [hwA]; exact ((Below.refl _ _).alloc (Nat.le_refl _) _).alloc (by simp) _
  have hsA : wA.heap.size = w1.heap.size + 2 := by rw [hwA]; simp
  have k0 : wA.heap[w1.heap.size]? = some (.cells #[.slice pa 2 pcap] 24 (0, 0)) := by rw [hwA]; exact heap_at1 (by simp) (heap_new_at rfl)
  have k1 : wA.heap[w1.heap.size + 1]? = some (.cells #[.int .i64 n] 3 (0, 0)) := by rw [hwA]; exact heap_new_at (by simp)
  have HNA := hid (HNW.out pa pcap (some ⟨w1.heap.size + 1, 0, none⟩) wA (HRP.out.below hbA) (rd_one k1))
  have HK0 := hid k0
  clear HNW k1 k0
  go_wp2_with fail
  rw [← hwA]
  clear hwA
  refine HNA.out.mono ?_
  clear HNA
  rintro e w3 ⟨hb3, hcase⟩
  rcases hcase with ⟨h, -⟩ | ⟨-, -, mb, X, w0, rfl, hb0, hm⟩
  · exact absurd rfl h
  have hs3 := hb3.size
  have k3 := (hb3.block w1.heap.size (by omega)).trans HK0.out
  have r3 : w3.cell? ⟨w1.heap.size, 0, none⟩ = some (.slice pa 2 pcap) := by simp [World.cell?, k3]
  have hbw3 : Below w1.heap.size w1 w3 := hbA.trans (hb3.mono (by omega))
  obtain ⟨wB, hwB⟩ : ∃ u, u = w3.alloc (Obj.cells #[.int .i64 n] 3) := ⟨_, rfl⟩
  have hbB : Below w3.heap.size w3 wB := by rw [hwB]; exact (Below.refl _ _).alloc (Nat.le_refl _) _
  have k4 : wB.heap[w3.heap.size]? = some (.cells #[.int .i64 n] 3 (0, 0)) := by rw [hwB]; exact heap_new_at rfl
  have HRB := hid (HRU.out pa pcap (some ⟨w3.heap.size, 0, none⟩) wB ((HRP.out.below hbw3).below hbB) (rd_one k4))
  have HM := hid hm
  have HB13 := hid (hb1.trans (hbw3.mono hb1.size))
  have ltp : w1.heap.size < w3.heap.size := by omega
  clear HRU hm k3 k4
  go_wp2_with fail
  rw [← hwB]
  clear hwB
  refine HRB.out.mono ?_
  clear HRB
  rintro e w5 ⟨fa, fcap, rfl, hfo, hb5⟩
  obtain ⟨wC, hwC⟩ : ∃ u, u = w5.alloc (Obj.cells #[.int .i64 (downEnd n).status, .int .i64 (downEnd n).value, .slice fa nf fcap] 34) := ⟨_, rfl⟩
  have hbC : Below w5.heap.size w5 wC := by rw [hwC]; exact (Below.refl _ _).alloc (Nat.le_refl _) _
  have k5 : wC.heap[w5.heap.size]? = some (.cells #[.int .i64 (downEnd n).status, .int .i64 (downEnd n).value, .slice fa nf fcap] 34 (0, 0)) := by rw [hwC]; exact heap_new_at rfl
  have hb3C : Below w3.heap.size w3 wC := (hbB.trans (hb5.mono hbB.size)).trans (hbC.mono (by have := hb5.size; have := hbB.size; omega))
  have hfoC := ownsRow_below hfo hbC
  have hext := HM.out.extend hb3C
  have HSC := hid (HSP.out mb _ w0 wC hext)
  have hlt5 : w5.heap.size < wC.heap.size := (Array.getElem?_eq_some_iff.1 k5).1
  have hle5 : w3.heap.size ≤ w5.heap.size := by have := hb5.size; have := hbB.size; omega
  have HK5 := hid k5
  have HFO := hid hfoC
  have hsB := hbB.size
  clear HSP hext k5 HM hfo hfoC
  go_wp2_with fail
  rw [← hwC]
  clear hwC
  refine HSC.out.mono ?_
  clear HSC
  rintro e w6 ⟨rfl, hm6⟩
  have k6 := (hm6.run.since w5.heap.size hle5 hlt5).trans HK5.out
  have hold := hm6.run.old
  have hfo6 : w6.ownsRow wB.heap.size 47 3 (.slice fa nf fcap) nf (fr.map frCells).flatten := owns_same HFO.out (fun b hb => hm6.run.since b (by have := (HFO.out.lt b hb).1; omega) (HFO.out.lt b hb).2)
  have kp6 : w6.heap[w1.heap.size]? = some (.cells #[.slice pa 2 pcap] 24 (0, 0)) := by
    have h1 : wA.heap.size ≤ w0.heap.size := hb0.size
    exact (hold.block w1.heap.size (by omega)).trans ((hb0.block w1.heap.size (by omega)).trans HK0.out)
  have HS6 := hid (HST.out mb _ w0 w6 hm6)
  have HP6 := hid (fun (W : World) (hW : Below w6.heap.size w6 W) => HPC.out mb _ w0 W (hm6.below hW))
  have lt6 := (Array.getElem?_eq_some_iff.1 k6).1
  have lt6p := (Array.getElem?_eq_some_iff.1 kp6).1
  have HRP6 : Hid (RdP w6 pa 2 pcap downP) := by
    have h1 := HRP.out.below hbA
    have h2 := h1.below hb0
    exact h2.below hold
  clear HST HPC hm6
  go_wp2_with fail
  refine HS6.out.mono ?_
  clear HS6
  rintro e w7 ⟨rfl, hb7⟩
  go_wp2_with fail
  refine (HP6.out w7 hb7).mono ?_
  clear HP6
  rintro e w8 ⟨la, lcap, rfl, -, hb8⟩
  have hb68 : Below w6.heap.size w6 w8 := hb7.trans (hb8.mono hb7.size)
  have k8 := (hb68.block w5.heap.size lt6).trans k6
  have kp8 := (hb68.block w1.heap.size lt6p).trans kp6
  have hfo8 := ownsRow_below hfo6 hb68
  have hrp8 := HRP6.out.below hb68
  have z0 : w8.cell? ⟨w5.heap.size, 0, none⟩ = some (.int .i64 (downEnd n).status) := by simp [World.cell?, k8]
  have z1 : w8.cell? ⟨w5.heap.size, 1, none⟩ = some (.int .i64 (downEnd n).value) := by simp [World.cell?, k8]
  have z2 : w8.cell? ⟨w5.heap.size, 2, none⟩ = some (.slice fa nf fcap) := by simp [World.cell?, k8]
  have p0 : w8.cell? ⟨w1.heap.size, 0, none⟩ = some (.slice pa 2 pcap) := by simp [World.cell?, kp8]
  have hA : Below w.heap.size w w8 := by
    have h1 : Below w.heap.size w wA := hb1.trans (hbA.mono hb1.size)
    have h2 := h1.trans (hb0.mono h1.size)
    have h3 := h2.trans (hold.mono h2.size)
    exact h3.trans (hb68.mono h3.size)
  have HA := hid hA
  have ewn : IntKind.i64.wrap ((n : Int) + 2) = (n : Int) + 2 := by rw [IntKind.wrap_i64]; omega
  clear k6 k8 kp6 kp8 hold hA hb68 hb8 hb7 hfo6
  by_cases hn : (n : Int) ≤ 18
  · have hde : downEnd n = ⟨1, 0, []⟩ := by unfold downEnd; rw [if_pos hn]
    have hnp : np = 0 := by rw [HPL.out, if_pos hn]
    subst hnp
    rw [hde] at z0 z1 ⊢
    dsimp only at z0 z1 ⊢
    have hn2 : decide ((n : Int) + 2 ≤ 20) = true := by simp; omega
    go_wp2
    exact bodyPost_ret (v := .bool true) (by simp [results, Try.results4, go_sem]) rfl ⟨rfl, HA.out⟩
  · have hde : downEnd n = ⟨3, 0, downI n 19⟩ := by unfold downEnd; rw [if_neg hn]
    obtain ⟨ht1, ht2, ht3⟩ := down_told (n : Int)
    rw [← hde, ← HFR.out] at ht1 ht2 ht3
    have hnf : nf = 20 := by rw [HNF.out, ht1]
    subst hnf
    have hnp : np = if 6 ≤ c then 19 else 20 := by rw [HPL.out, if_neg hn]
    rw [hde] at z0 z1 ⊢
    dsimp only at z0 z1 ⊢
    have hn2 : decide ((n : Int) + 2 ≤ 20) = false := by simp; omega
    obtain ⟨g, hg⟩ : ∃ g, fa = some ⟨g, 0, none⟩ := by
      rcases hfo8.2 with ⟨h1, h2⟩ | ⟨g, c', cur, h1, _⟩
      · omega
      · simp only [Value.slice.injEq] at h1
        exact ⟨g, h1.1⟩
    subst hg
    have hcf := hfo8.2
    have hfcap : 20 ≤ fcap ∧ fcap ≤ maxLen := by
      rcases hfo8.2 with ⟨h1, h2⟩ | ⟨g', c', cur, h1, _, _, h3, h4, _⟩
      · omega
      · simp only [Value.slice.injEq] at h1
        obtain ⟨-, -, rfl⟩ := h1
        exact ⟨h3, h4⟩
    obtain ⟨hf1, hf2⟩ := hfcap
    unfold maxLen at hf2
    have hall : ∀ c ∈ fr.map frCells, c.length = 3 := fun c hc => by
      obtain ⟨y, _, rfl⟩ := List.mem_map.1 hc
      rfl
    have hcl : ∀ i y, fr[i]? = some y → i < 20 → ∀ j u, (frCells y)[j]? = some u → w8.cell? ⟨g, i * 3 + j, none⟩ = some u := fun i y hy hi j u hu => by
      have hj : j < 3 := by have := (List.getElem?_eq_some_iff.1 hu).1; simpa [frCells] using this
      rw [hfo8.cellAt (i * 3 + j) (by omega), flatten_get 3 _ i j hall (by simpa [ht1] using hi) hj]
      simp only [List.getD, List.getElem?_map, hy, Option.map_some, Option.getD_some]
      exact hu
    have HF : Hid (∀ i, i < 19 → w8.cell? ⟨g, i * 3, none⟩ = some (.string ⟨#[114, 101, 99]⟩) ∧ w8.cell? ⟨g, i * 3 + 1, none⟩ = some (.string ⟨#[114]⟩) ∧ w8.cell? ⟨g, i * 3 + 2, none⟩ = some (.int .i64 70)) := fun i hi => ⟨hcl i _ (ht2 i hi) (by omega) 0 _ rfl, hcl i _ (ht2 i hi) (by omega) 1 _ rfl, hcl i _ (ht2 i hi) (by omega) 2 _ rfl⟩
    have q2 : w8.cell? ⟨g, 59, none⟩ = some (.int .i64 10) := hcl 19 _ ht3 (by omega) 2 _ rfl
    obtain ⟨pb, poff, ba, bcap, rfl, -, -, -, -, -, c4, hrb, -, -⟩ := hrp8.at 1 _ (show downP[1]? = some _ from rfl)
    have c4' : w8.cell? ⟨pb, poff + 5 + 4, none⟩ = some (.slice ba 6 bcap) := c4
    have hbl := hrb.2.1
    clear hcl hall hcf hfo8 hrp8 hrb c4 ht1 ht2 ht3 hde HFR HNF HPL HRP HRP6 HFO
    by_cases h6 : 6 ≤ c
    · rw [if_pos h6] at hnp
      subst hnp
      have h6' : (6 : Int) ≤ (c : Int) := by omega
      go_wp2
      go_loopw [19] (fun i wr => ∃ j : Nat, i = .int .i64 j ∧ j ≤ 19 ∧ Below w8.heap.size w8 wr) (fun i _ => 20 - (intOf i).toNat)
      case atStart => exact ⟨0, rfl, by omega, Below.refl _ _⟩
      case round =>
        obtain ⟨j, rfl, hj, hbel⟩ := hrel
        have up : ∀ (q : Addr) (u : Value), w8.cell? q = some u → wr.cell? q = some u := fun q u h => (hbel.cell (World.block_lt_of_cell? w8 _ h)).trans h
        have y2 := up _ _ z2
        have yq := up _ _ q2
        have HUP := hid up
        have HBE := hid hbel
        clear up hbel
        by_cases hjn : j < 19
        · obtain ⟨t0, t1, t2⟩ := HF.out j hjn
          replace t0 := HUP.out _ _ t0
          replace t1 := HUP.out _ _ t1
          replace t2 := HUP.out _ _ t2
          have hj20 : (j : Int) < 20 := by omega
          have hj1 : (j : Int) + 1 < 20 := by omega
          go_wp2
          go_roundw
          case rel => exact ⟨j + 1, by go_num, by omega, HBE.out⟩
          case measure => simp [intOf]; omega
        · have hje : j = 19 := by omega
          subst hje
          have HA2 := hid (HA.out.trans (HBE.out.mono HA.out.size))
          go_wp2
          exact bodyPost_ret (v := .bool true) (by simp [results, Try.results4, go_sem]) rfl ⟨rfl, HA2.out⟩
    · rw [if_neg h6] at hnp
      subst hnp
      have h6' : decide ((6 : Int) ≤ (c : Int)) = false := by simp; omega
      go_wp2
      go_loopw [19] (fun i wr => ∃ j : Nat, i = .int .i64 j ∧ j ≤ 19 ∧ Below w8.heap.size w8 wr) (fun i _ => 20 - (intOf i).toNat)
      case atStart => exact ⟨0, rfl, by omega, Below.refl _ _⟩
      case round =>
        obtain ⟨j, rfl, hj, hbel⟩ := hrel
        have up : ∀ (q : Addr) (u : Value), w8.cell? q = some u → wr.cell? q = some u := fun q u h => (hbel.cell (World.block_lt_of_cell? w8 _ h)).trans h
        have y2 := up _ _ z2
        have yq := up _ _ q2
        have HUP := hid up
        have HBE := hid hbel
        clear up hbel
        by_cases hjn : j < 19
        · obtain ⟨t0, t1, t2⟩ := HF.out j hjn
          replace t0 := HUP.out _ _ t0
          replace t1 := HUP.out _ _ t1
          replace t2 := HUP.out _ _ t2
          have hj20 : (j : Int) < 20 := by omega
          have hj1 : (j : Int) + 1 < 20 := by omega
          go_wp2
          go_roundw
          case rel => exact ⟨j + 1, by go_num, by omega, HBE.out⟩
          case measure => simp [intOf]; omega
        · have hje : j = 19 := by omega
          subst hje
          have HA2 := hid (HA.out.trans (HBE.out.mono HA.out.size))
          go_wp2
          exact bodyPost_ret (v := .bool true) (by simp [results, Try.results4, go_sem]) rfl ⟨rfl, HA2.out⟩
end Go.Proofs.Ytooinlilplecpab
