/- The contract of the reference's readFile: a plain function; nothing that was there is written. The contract of the reference's readLines: a plain function; nothing that was there is written. -/
import Derived.Test.YtffnfjkjlmlonaaGreatDoorZB25
namespace Go.Proofs.YtffnfjkjlmlonaaGreatDoor
open Go.RowKit
/-- A function's file: the number of one of those ahead, or a new one's text. -/
def rdFl (bs : List Int) (at_ : Int) (files : List ByteArray) : ByteArray × Int × Int :=
  if (rdN bs at_ 0 files.length).2.2 ≠ 0 then (ByteArray.empty, (rdN bs at_ 0 files.length).2.1, (rdN bs at_ 0 files.length).2.2) else
  if (rdN bs at_ 0 files.length).1 = files.length then rdTx bs (rdN bs at_ 0 files.length).2.1 files else
  (files.getD (rdN bs at_ 0 files.length).1.toNat ByteArray.empty, (rdN bs at_ 0 files.length).2.1, 0)
set_option maxHeartbeats 1000000 in
set_option maxRecDepth 100000 in
theorem readFile_any (a : Option Addr) (len cap : Nat) (bs : List Int) (at_ e0 : Int) (oa : Option Addr) (olen ocap : Nat) (files : List ByteArray) (w : World) (hr : Rd .u8 w a len cap bs) (hx : ∀ j, 0 ≤ bs.getD j 0 ∧ bs.getD j 0 ≤ 255) (ho : RdT w oa olen ocap files) (hbig : len ≤ 4611686018427387904) :
    Calls Tryz.prog 151 #[.slice a len cap, hereV at_ e0, .slice oa olen ocap] w fun e w' => e = .returned (.tuple #[.string (rdFl bs at_ files).1, hereV (rdFl bs at_ files).2.1 (rdFl bs at_ files).2.2]) ∧ Below w.heap.size w w' := by
  obtain ⟨wA, hwA⟩ : ∃ wA, wA = (w.alloc (Obj.cells #[.int .i64 at_, .int .i64 e0] 135)).alloc (Obj.cells #[.int .i64 0, .int .i64 0] 135) := ⟨_, rfl⟩
  have hbA : Below w.heap.size w wA := by rw [hwA]; exact ((Below.refl _ _).alloc (Nat.le_refl _) _).alloc (by simp) _
  have k1 : wA.heap[w.heap.size + 1]? = some (.cells #[.int .i64 0, .int .i64 0] 135 (0, 0)) := by
    rw [hwA]
    have := heap_alloc_new (w.alloc (Obj.cells #[.int .i64 at_, .int .i64 e0] 135)) (Obj.cells #[.int .i64 0, .int .i64 0] 135)
    simpa using this
  have hsA : wA.heap.size = w.heap.size + 2 := by rw [hwA]; simp
  have HOL := hid ho.1
  have hocap := ho.2.1
  have homax := ho.2.2.1
  unfold maxLen at homax
  have HN := hid (readNumber_any a len cap bs at_ e0 0 olen wA (hr.below hbA (Nat.le_refl _)) hx)
  have hbd := rdN_bd bs at_ 0 olen
  have hrd0 : rdFl bs at_ files = if (rdN bs at_ 0 olen).2.2 ≠ 0 then (ByteArray.empty, (rdN bs at_ 0 olen).2.1, (rdN bs at_ 0 olen).2.2) else
      if (rdN bs at_ 0 olen).1 = olen then rdTx bs (rdN bs at_ 0 olen).2.1 files else (files.getD (rdN bs at_ 0 olen).1.toNat ByteArray.empty, (rdN bs at_ 0 olen).2.1, 0) := by
    unfold rdFl; rw [HOL.out]
  obtain ⟨⟨n, nx, er⟩, hn⟩ : ∃ q, rdN bs at_ 0 olen = q := ⟨_, rfl⟩
  rw [hn] at HN hbd hrd0
  simp only at hbd hrd0
  have HBA := hid hbA
  have K1 := hid k1
  have HSA := hid hsA
  unfold hereV at HN ⊢
  clear hn hbA k1 hsA
  have HFIN : Hid (∀ w2, Below wA.heap.size wA w2 → ∀ u v, Below w.heap.size w ((w2.setCell ⟨w.heap.size + 1, 0, none⟩ u).setCell ⟨w.heap.size + 1, 1, none⟩ v)) := fun w2 h2 u v => ((HBA.out.trans (h2.mono HBA.out.size)).setCell (p := ⟨w.heap.size + 1, 0, none⟩) (by simp) _).setCell (p := ⟨w.heap.size + 1, 1, none⟩) (by simp) _
  have HCEL : Hid (∀ w2, Below wA.heap.size wA w2 → w2.cell? ⟨w.heap.size + 1, 0, none⟩ = some (.int .i64 0) ∧ w2.cell? ⟨w.heap.size + 1, 1, none⟩ = some (.int .i64 0) ∧ w2.frozen? ⟨w.heap.size + 1, 0, none⟩ = false ∧ w2.frozen? ⟨w.heap.size + 1, 1, none⟩ = false) := by
    intro w2 h2
    have d1 := (h2.block (w.heap.size + 1) (by rw [HSA.out]; omega)).trans K1.out
    exact ⟨by simp [World.cell?, d1], by simp [World.cell?, d1], by simp [World.frozen?, d1], by simp [World.frozen?, d1]⟩
  by_cases her : er = 0
  · subst her
    obtain ⟨hn1, hn2, hn3, hn4, hn5⟩ := hbd rfl
    rw [if_neg (by simp)] at hrd0
    have hmax := hr.hmax
    have hcap := hr.hcap
    unfold maxLen at hmax
    rw [hr.hlen] at hn5
    by_cases hnew : n = (olen : Int)
    · rw [if_pos hnew] at hrd0
      have HRT : Hid (∀ W, Below w.heap.size w W → Calls Tryz.prog 150 #[.slice a len cap, .agg #[.int .i64 nx, .int .i64 0], .slice oa olen ocap] W fun e w' => e = .returned (.tuple #[.string (rdTx bs nx files).1, .agg #[.int .i64 (rdTx bs nx files).2.1, .int .i64 (rdTx bs nx files).2.2]]) ∧ Below W.heap.size W w') :=
        fun W hb => readText_any a len cap bs nx 0 oa olen ocap files W (hr.below hb (Nat.le_refl _)) hx (ho.below hb) hbig
      rw [hrd0]
      generalize rdTx bs nx files = t at *
      obtain ⟨ts, tx, te⟩ := t
      subst hnew
      clear hrd0 hx hr ho hbd
      go_enter Tryz.func151, Tryz.ntmps151
      go_wp2_with fail
      rw [← hwA]
      refine HN.out.mono ?_
      rintro e w1 ⟨rfl, b1⟩
      obtain ⟨wB, hwB⟩ : ∃ wB, wB = w1.alloc (Obj.cells #[.int .i64 nx, .int .i64 0] 135) := ⟨_, rfl⟩
      have bB : Below wA.heap.size wA wB := by rw [hwB]; exact b1.alloc b1.size _
      have HBB := hid bB
      clear bB b1
      go_wp2_with fail
      rw [← hwB]
      refine (HRT.out wB (HBA.out.trans (HBB.out.mono HBA.out.size))).mono ?_
      rintro e w2 ⟨rfl, b2⟩
      have b12 : Below wA.heap.size wA w2 := HBB.out.trans (b2.mono HBB.out.size)
      obtain ⟨y0, y1, f0, f1⟩ := HCEL.out w2 b12
      have HF2 := hid (HFIN.out w2 b12)
      clear b2 b12 hwB hwA HRT HN
      go_wp2
      exact bodyPost_ret (v := .tuple #[.string ts, .agg #[.int .i64 tx, .int .i64 te]]) (by simp [results, Tryz.results151, go_sem, y0, y1]) rfl ⟨rfl, HF2.out _ _⟩
    · rw [if_neg hnew] at hrd0
      obtain ⟨N, rfl⟩ := Int.eq_ofNat_of_zero_le (show 0 ≤ n by omega)
      have eN : ((N : Int)).toNat = N := by omega
      rw [eN] at hrd0
      have hNl : N < olen := by omega
      obtain ⟨y, hy⟩ : ∃ y, files[N]? = some y := ⟨_, List.getElem?_eq_getElem (by rw [HOL.out]; omega)⟩
      have hyd : files.getD N ByteArray.empty = y := by simp [List.getD, hy]
      rw [hrd0, hyd]
      have HYA : Hid (∀ W, Below w.heap.size w W → ∃ b off, oa = some ⟨b, off, none⟩ ∧ W.cell? ⟨b, off + N, none⟩ = some (.string y)) := fun W hb => by
        obtain ⟨b, off, e, c, _⟩ := (ho.below hb).at N y hy
        exact ⟨b, off, e, c⟩
      obtain ⟨b, off, rfl, -⟩ := HYA.out w (Below.refl _ _)
      have hnew' : ((N : Int) == (olen : Int)) = false := by simpa using hnew
      clear hrd0 hx hr ho hbd hy hyd eN
      go_enter Tryz.func151, Tryz.ntmps151
      go_wp2_with fail
      rw [← hwA]
      refine HN.out.mono ?_
      rintro e w1 ⟨rfl, b1⟩
      obtain ⟨wB, hwB⟩ : ∃ wB, wB = w1.alloc (Obj.cells #[.int .i64 nx, .int .i64 0] 135) := ⟨_, rfl⟩
      have bB : Below wA.heap.size wA wB := by rw [hwB]; exact b1.alloc b1.size _
      have kB : wB.heap[w1.heap.size]? = some (.cells #[.int .i64 nx, .int .i64 0] 135 (0, 0)) := by rw [hwB]; exact heap_alloc_new _ _
      have g0 : wB.cell? ⟨w1.heap.size, 0, none⟩ = some (.int .i64 nx) := by simp [World.cell?, kB]
      have g1 : wB.cell? ⟨w1.heap.size, 1, none⟩ = some (.int .i64 0) := by simp [World.cell?, kB]
      obtain ⟨b', off', e, hcy⟩ := HYA.out wB (HBA.out.trans (bB.mono HBA.out.size))
      cases e
      obtain ⟨y0, y1, f0, f1⟩ := HCEL.out wB bB
      have HF2 := hid (HFIN.out wB bB)
      clear bB kB b1
      go_wp2_with fail
      rw [← hwB]
      clear hwB hwA HYA HN
      go_region
      all_goals
        go_wp2
        exact bodyPost_ret (v := .tuple #[.string y, .agg #[.int .i64 nx, .int .i64 0]]) (by simp [results, Tryz.results151, go_sem, y0, y1]) rfl ⟨rfl, (HF2.out _ _).drew⟩
  · rw [if_pos her] at hrd0
    rw [hrd0]
    have her' : (er != 0) = true := by simpa using her
    clear hrd0 her hbd
    go_enter Tryz.func151, Tryz.ntmps151
    go_wp2_with fail
    rw [← hwA]
    refine HN.out.mono ?_
    rintro e w1 ⟨rfl, b1⟩
    obtain ⟨wB, hwB⟩ : ∃ wB, wB = w1.alloc (Obj.cells #[.int .i64 nx, .int .i64 er] 135) := ⟨_, rfl⟩
    have bB : Below wA.heap.size wA wB := by rw [hwB]; exact b1.alloc b1.size _
    obtain ⟨y0, y1, f0, f1⟩ := HCEL.out wB bB
    have kB : wB.heap[w1.heap.size]? = some (.cells #[.int .i64 nx, .int .i64 er] 135 (0, 0)) := by rw [hwB]; exact heap_alloc_new _ _
    have g0 : wB.cell? ⟨w1.heap.size, 0, none⟩ = some (.int .i64 nx) := by simp [World.cell?, kB]
    have g1 : wB.cell? ⟨w1.heap.size, 1, none⟩ = some (.int .i64 er) := by simp [World.cell?, kB]
    have HF2 := hid (HFIN.out wB bB)
    go_wp2_with fail
    rw [← hwB]
    clear bB b1 hwB kB
    go_region
    all_goals
      go_wp2
      exact bodyPost_ret (v := .tuple #[.string ⟨#[]⟩, .agg #[.int .i64 nx, .int .i64 er]]) (by simp [results, Tryz.results151, go_sem, y0, y1]) rfl ⟨rfl, (HF2.out _ _).drew⟩
end Go.Proofs.YtffnfjkjlmlonaaGreatDoor
namespace Go.Proofs.YtffnfjkjlmlonaaGreatDoor
open Go.RowKit
/-- Lines, unrolled, of a function behind which there were that many pcs. -/
def rdLn (bs : List Int) (at_ all : Int) : List Int × Int × Int :=
  if (rdTb bs at_).2.2 ≠ 0 then ([], (rdTb bs at_).2.1, (rdTb bs at_).2.2) else
  if decide (all + (unroll (rdTb bs at_).1).length ≤ 1000) && (unroll (rdTb bs at_).1).all (fun x => x != 0) then (unroll (rdTb bs at_).1, (rdTb bs at_).2.1, 0) else ([], at_, 8)
set_option maxHeartbeats 1000000 in
set_option maxRecDepth 100000 in
theorem readLines_any (a : Option Addr) (len cap : Nat) (bs : List Int) (at_ e0 all : Int) (w : World) (hr : Rd .u8 w a len cap bs) (hx : ∀ j, 0 ≤ bs.getD j 0 ∧ bs.getD j 0 ≤ 255) (h0 : 0 ≤ all) (h1 : all ≤ 100000) :
    Calls Tryz.prog 152 #[.slice a len cap, hereV at_ e0, .int .i64 all] w fun e w' => ∃ v, e = .returned (.tuple #[v, hereV (rdLn bs at_ all).2.1 (rdLn bs at_ all).2.2]) ∧ w'.ownsRow w.heap.size 3 1 v (rdLn bs at_ all).1.length (i64s (rdLn bs at_ all).1) ∧ Below w.heap.size w w' := by
  obtain ⟨wA, hwA⟩ : ∃ wA, wA = (w.alloc (Obj.cells #[.int .i64 at_, .int .i64 e0] 135)).alloc (Obj.cells #[.int .i64 0, .int .i64 0] 135) := ⟨_, rfl⟩
  have hbA : Below w.heap.size w wA := by rw [hwA]; exact ((Below.refl _ _).alloc (Nat.le_refl _) _).alloc (by simp) _
  have k0 : wA.heap[w.heap.size]? = some (.cells #[.int .i64 at_, .int .i64 e0] 135 (0, 0)) := by
    rw [hwA, heap_alloc_old _ _ (by simp)]; exact heap_alloc_new _ _
  have k1 : wA.heap[w.heap.size + 1]? = some (.cells #[.int .i64 0, .int .i64 0] 135 (0, 0)) := by
    rw [hwA]
    have := heap_alloc_new (w.alloc (Obj.cells #[.int .i64 at_, .int .i64 e0] 135)) (Obj.cells #[.int .i64 0, .int .i64 0] 135)
    simpa using this
  have hsA : wA.heap.size = w.heap.size + 2 := by rw [hwA]; simp
  have HT := hid (readTable_any a len cap bs at_ e0 wA (hr.below hbA (Nat.le_refl _)) hx)
  have hwf := rdTb_wf bs hx at_
  have hrd0 : rdLn bs at_ all = rdLn bs at_ all := rfl
  unfold rdLn at hrd0
  obtain ⟨⟨l, nx, er⟩, hn⟩ : ∃ q, rdTb bs at_ = q := ⟨_, rfl⟩
  have hrd : rdLn bs at_ all = if er ≠ 0 then ([], nx, er) else if decide (all + (unroll l).length ≤ 1000) && (unroll l).all (fun x => x != 0) then (unroll l, nx, 0) else ([], at_, 8) := by
    unfold rdLn; rw [hn]
  rw [hn] at HT hwf
  simp only at hwf
  have HBA := hid hbA
  have K0 := hid k0
  have K1 := hid k1
  have HSA := hid hsA
  unfold hereV at HT ⊢
  clear hn hbA k0 k1 hsA hrd0
  have HFIN : Hid (∀ w2, Below wA.heap.size wA w2 → ∀ u v, Below w.heap.size w ((w2.setCell ⟨w.heap.size + 1, 0, none⟩ u).setCell ⟨w.heap.size + 1, 1, none⟩ v)) := fun w2 h2 u v => ((HBA.out.trans (h2.mono HBA.out.size)).setCell (p := ⟨w.heap.size + 1, 0, none⟩) (by simp) _).setCell (p := ⟨w.heap.size + 1, 1, none⟩) (by simp) _
  have HCEL : Hid (∀ w2, Below wA.heap.size wA w2 → w2.cell? ⟨w.heap.size, 0, none⟩ = some (.int .i64 at_) ∧ w2.cell? ⟨w.heap.size + 1, 0, none⟩ = some (.int .i64 0) ∧ w2.cell? ⟨w.heap.size + 1, 1, none⟩ = some (.int .i64 0) ∧ w2.frozen? ⟨w.heap.size + 1, 0, none⟩ = false ∧ w2.frozen? ⟨w.heap.size + 1, 1, none⟩ = false) := by
    intro w2 h2
    have d0 := (h2.block w.heap.size (by rw [HSA.out]; omega)).trans K0.out
    have d1 := (h2.block (w.heap.size + 1) (by rw [HSA.out]; omega)).trans K1.out
    exact ⟨by simp [World.cell?, d0], by simp [World.cell?, d1], by simp [World.cell?, d1], by simp [World.frozen?, d1], by simp [World.frozen?, d1]⟩
  by_cases her : er = 0
  · subst her
    rw [if_neg (by simp)] at hrd
    have HRD := hid hrd
    have hul : ((unroll l).length : Int) ≤ 1000 := by have := unroll_all_len hwf; omega
    generalize unroll l = M at *
    clear hrd hx hr hwf
    have HWR := hid (fun W => wrong_any at_ 8 W)
    unfold hereV at HWR
    go_enter Tryz.func152, Tryz.ntmps152
    go_wp2_with fail
    rw [← hwA]
    refine HT.out.mono ?_
    rintro e w1 ⟨v, rfl, hown, b1⟩
    obtain ⟨va, vc, rfl, hrv, -⟩ := rd_of_owns64 hown rfl
    have HOW := hid hown
    obtain ⟨wB, hwB⟩ : ∃ wB, wB = w1.alloc (Obj.cells #[.int .i64 nx, .int .i64 0] 135) := ⟨_, rfl⟩
    have bB : Below wA.heap.size wA wB := by rw [hwB]; exact b1.alloc b1.size _
    have kB : wB.heap[w1.heap.size]? = some (.cells #[.int .i64 nx, .int .i64 0] 135 (0, 0)) := by rw [hwB]; exact heap_alloc_new _ _
    have hownB : wB.ownsRow wA.heap.size 3 1 (.slice va M.length vc) M.length (i64s M) := by rw [hwB]; exact hown.alloc _
    have hrB : Rd .i64 wB va M.length vc M := hrv.below (by rw [hwB]; exact (Below.refl _ _).alloc (Nat.le_refl _) _) (Nat.le_refl _)
    have HOWB := hid hownB
    have HBB := hid bB
    have HKB := hid kB
    have HRB := hid hrB
    have hvm := hrv.hmax
    have hvc := hrv.hcap
    unfold maxLen at hvm
    clear hown hrv hownB bB kB b1 HOW hrB
    go_wp2_with fail
    rw [← hwB]
    clear hwB hwA HT
    go_loop [10, 11] (fun o i => ∃ k : Nat, o = .bool (decide (all + M.length ≤ 1000) && (M.take k).all (fun x => x != 0)) ∧ i = .int .i64 k ∧ k ≤ M.length) (fun _ i => M.length - (intOf i).toNat)
    case atStart => exact ⟨0, by simp, rfl, by omega⟩
    case round =>
      obtain ⟨k, rfl, rfl, hk⟩ := hrel
      by_cases hlt : k < M.length
      · obtain ⟨b0, off, rfl, hc⟩ := HRB.out.open (by omega)
        have hc1 := hc k hlt
        have hstep : (M.take (k + 1)).all (fun x => x != 0) = ((M.take k).all (fun x => x != 0) && (M.getD k 0 != 0)) := by
          rw [List.take_succ_eq_append_getElem hlt, List.all_append]
          simp [List.getD, hlt]
        generalize M.getD k 0 = x at *
        obtain ⟨q0, hq0⟩ : ∃ q0, q0 = (decide (all + (M.length : Int) ≤ 1000) && (M.take k).all fun x => x != 0) := ⟨_, rfl⟩
        obtain ⟨q, hq⟩ : ∃ q, q = (x != 0) := ⟨_, rfl⟩
        have hq' : (x != 0) = q := hq.symm
        rw [← hq0]
        have HQ0 : Hid ((decide (all + (M.length : Int) ≤ 1000) && (M.take (k + 1)).all fun x => x != 0) = (q0 && q)) := by
          show _ = _
          rw [hstep, ← Bool.and_assoc, ← hq0, hq]
        clear hstep hq hq0 hc
        cases q0 <;> cases q
        all_goals
          go_wp2
          go_round
          case rel => exact ⟨k + 1, by rw [HQ0.out]; rfl, by go_num, by omega⟩
          case measure => simp [intOf]; omega
      · have hfull : M.take k = M := List.take_of_length_le (by omega)
        rw [hfull]
        clear hfull
        obtain ⟨qf, hqf⟩ : ∃ qf, qf = (decide (all + (M.length : Int) ≤ 1000) && M.all fun x => x != 0) := ⟨_, rfl⟩
        rw [← hqf] at HRD ⊢
        clear hqf
        cases qf with
        | false =>
          have HR : Hid (rdLn bs at_ all = ([], at_, 8)) := by show _ = _; rw [HRD.out]; rfl
          obtain ⟨z0, -, -, -, -⟩ := HCEL.out wB HBB.out
          clear HRD
          go_wp2_with fail
          refine (HWR.out wB).mono ?_
          rintro e w4 ⟨rfl, b4⟩
          have b14 : Below wA.heap.size wA w4 := HBB.out.trans (b4.mono HBB.out.size)
          obtain ⟨-, y0, y1, f0, f1⟩ := HCEL.out w4 b14
          have HF2 := hid (HFIN.out w4 b14)
          clear b4 b14 z0
          go_wp2
          rw [HR.out]
          exact bodyPost_ret (v := .tuple #[.slice none 0 0, .agg #[.int .i64 at_, .int .i64 8]]) (by simp [results, Tryz.results152, go_sem, y0, y1]) rfl ⟨_, rfl, by simpa [i64s] using World.ownsRow_nil _ _ _ _, HF2.out _ _⟩
        | true =>
          have HR : Hid (rdLn bs at_ all = (M, nx, 0)) := by show _ = _; rw [HRD.out]; rfl
          obtain ⟨-, y0, y1, f0, f1⟩ := HCEL.out wB HBB.out
          have g0 : wB.cell? ⟨w1.heap.size, 0, none⟩ = some (.int .i64 nx) := by simp [World.cell?, HKB.out]
          have g1 : wB.cell? ⟨w1.heap.size, 1, none⟩ = some (.int .i64 0) := by simp [World.cell?, HKB.out]
          have HF2 : Hid (∀ W, W = (wB.setCell ⟨w.heap.size + 1, 0, none⟩ (.int .i64 nx)).setCell ⟨w.heap.size + 1, 1, none⟩ (.int .i64 0) → W.ownsRow w.heap.size 3 1 (.slice va M.length vc) M.length (i64s M) ∧ Below w.heap.size w W) := by
            rintro W rfl
            have d1 := (HBB.out.block (w.heap.size + 1) (by rw [HSA.out]; omega)).trans K1.out
            have hne : (Value.slice va M.length vc).ownBlock ≠ some (w.heap.size + 1) := fun e => owns_other HOWB.out d1 (by decide) e.symm
            exact ⟨owns_low7 (ownsRow_setCell_other (ownsRow_setCell_other HOWB.out hne _) hne _) (by have := HSA.out; omega), HFIN.out wB HBB.out _ _⟩
          clear HRD
          go_wp2
          go_region
          all_goals
            go_wp2
            rw [HR.out]
            exact bodyPost_ret (v := .tuple #[.slice va M.length vc, .agg #[.int .i64 nx, .int .i64 0]]) (by simp [results, Tryz.results152, go_sem, y0, y1]) rfl ⟨_, rfl, (HF2.out _ rfl).1.drew, (HF2.out _ rfl).2.drew⟩
  · rw [if_pos her] at hrd
    rw [hrd]
    have her' : (er != 0) = true := by simpa using her
    clear hrd her
    go_enter Tryz.func152, Tryz.ntmps152
    go_wp2_with fail
    rw [← hwA]
    refine HT.out.mono ?_
    rintro e w1 ⟨v, rfl, hown, b1⟩
    obtain ⟨va, vc, rfl, -, -⟩ := owns_form hown
    clear hown
    obtain ⟨wB, hwB⟩ : ∃ wB, wB = w1.alloc (Obj.cells #[.int .i64 nx, .int .i64 er] 135) := ⟨_, rfl⟩
    have bB : Below wA.heap.size wA wB := by rw [hwB]; exact b1.alloc b1.size _
    obtain ⟨-, y0, y1, f0, f1⟩ := HCEL.out wB bB
    have kB : wB.heap[w1.heap.size]? = some (.cells #[.int .i64 nx, .int .i64 er] 135 (0, 0)) := by rw [hwB]; exact heap_alloc_new _ _
    have g0 : wB.cell? ⟨w1.heap.size, 0, none⟩ = some (.int .i64 nx) := by simp [World.cell?, kB]
    have g1 : wB.cell? ⟨w1.heap.size, 1, none⟩ = some (.int .i64 er) := by simp [World.cell?, kB]
    have HF2 := hid (HFIN.out wB bB)
    go_wp2_with fail
    rw [← hwB]
    clear bB b1 hwB kB
    go_region
    all_goals
      go_wp2
      exact bodyPost_ret (v := .tuple #[.slice none 0 0, .agg #[.int .i64 nx, .int .i64 er]]) (by simp [results, Tryz.results152, go_sem, y0, y1]) rfl ⟨_, rfl, by simpa [i64s] using World.ownsRow_nil _ _ _ _, (HF2.out _ _).drew⟩
end Go.Proofs.YtffnfjkjlmlonaaGreatDoor
