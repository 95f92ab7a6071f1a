/- Contracts of the reference's wrong, readNumber, readTable: plain functions; nothing that was there is written. Contracts of the reference's readTable and readLines: plain functions; nothing that was there is written. The contract of the reference's readText: a plain function; nothing that was there is written. -/
import Derived.Test.YtffnfjkjlmlonaaGreatDoorZB24
import Derived.Test.YtffnfjkjlmlonaaGreatDoorZB9
import Derived.Test.YtffnfjkjlmlonaaGreatDoorZB5
namespace Go.Proofs.YtffnfjkjlmlonaaGreatDoor
open Go.RowKit
def hereV (at_ e : Int) : Value := .agg #[.int .i64 at_, .int .i64 e]
set_option maxHeartbeats 400000 in
theorem wrong_any (at_ e : Int) (w : World) :
    Calls Tryz.prog 149 #[.int .i64 at_, .int .i64 e] w fun r w' => r = .returned (hereV at_ e) ∧ Below w.heap.size w w' := by
  have HB := hid ((((Below.refl w.heap.size w).alloc (Nat.le_refl _) (.cells #[.int .i64 at_, .int .i64 e] 135))))
  go_enter Tryz.func149, Tryz.ntmps149
  go_wp2
  exact bodyPost_ret (v := .agg #[.int .i64 at_, .int .i64 e]) (by simp [results, Tryz.results149, go_sem]) rfl ⟨rfl, HB.out⟩
/-- A number from lo to hi, read at a place. -/
def rdN (bs : List Int) (at_ lo hi : Int) : Int × Int × Int :=
  if (getN bs at_).2.2 ≠ 0 then (0, at_, (getN bs at_).2.2) else if (getN bs at_).1 < lo ∨ hi < (getN bs at_).1 then (0, at_, 8) else ((getN bs at_).1, (getN bs at_).2.1, 0)
set_option maxHeartbeats 1000000 in
set_option maxRecDepth 100000 in
theorem readNumber_any (a : Option Addr) (len cap : Nat) (bs : List Int) (at_ e0 lo hi : Int) (w : World) (hr : Rd .u8 w a len cap bs) (hx : ∀ j, 0 ≤ bs.getD j 0 ∧ bs.getD j 0 ≤ 255) :
    Calls Tryz.prog 99 #[.slice a len cap, hereV at_ e0, .int .i64 lo, .int .i64 hi] w fun e w' => e = .returned (.tuple #[.int .i64 (rdN bs at_ lo hi).1, hereV (rdN bs at_ lo hi).2.1 (rdN bs at_ lo hi).2.2]) ∧ Below w.heap.size w w' := by
  obtain ⟨wA, hwA⟩ : ∃ wA, wA = (w.alloc (Obj.cells #[.int .i64 at_, .int .i64 e0] 135)).alloc (Obj.cells #[.int .i64 0, .int .i64 0] 135) := ⟨_, rfl⟩
  have hbA : Below w.heap.size w wA := by rw [hwA]; exact ((Below.refl _ _).alloc (Nat.le_refl _) _).alloc (by simp) _
  have k0 : wA.heap[w.heap.size]? = some (.cells #[.int .i64 at_, .int .i64 e0] 135 (0, 0)) := by
    rw [hwA, heap_alloc_old _ _ (by simp)]; exact heap_alloc_new _ _
  have k1 : wA.heap[w.heap.size + 1]? = some (.cells #[.int .i64 0, .int .i64 0] 135 (0, 0)) := by
    rw [hwA]
    have := heap_alloc_new (w.alloc (Obj.cells #[.int .i64 at_, .int .i64 e0] 135)) (Obj.cells #[.int .i64 0, .int .i64 0] 135)
    simpa using this
  have hsA : wA.heap.size = w.heap.size + 2 := by rw [hwA]; simp
  have HG := hid (rGetN_any a len cap bs at_ wA (hr.below hbA (Nat.le_refl _)) hx)
  obtain ⟨⟨n, nx, er⟩, hn⟩ : ∃ q, getN bs at_ = q := ⟨_, rfl⟩
  have hrd : rdN bs at_ lo hi = if er ≠ 0 then (0, at_, er) else if n < lo ∨ hi < n then (0, at_, 8) else (n, nx, 0) := by unfold rdN; rw [hn]
  rw [hn] at HG
  have HBA := hid hbA
  have K0 := hid k0
  have K1 := hid k1
  have HSA := hid hsA
  unfold hereV
  clear hr hx hn hbA k0 k1 hsA
  have HFIN : Hid (∀ w2, Below wA.heap.size wA w2 → ∀ u v, Below w.heap.size w ((w2.setCell ⟨w.heap.size + 1, 0, none⟩ u).setCell ⟨w.heap.size + 1, 1, none⟩ v)) := fun w2 h2 u v => ((HBA.out.trans (h2.mono HBA.out.size)).setCell (p := ⟨w.heap.size + 1, 0, none⟩) (by simp) _).setCell (p := ⟨w.heap.size + 1, 1, none⟩) (by simp) _
  have HCEL : Hid (∀ w2, Below wA.heap.size wA w2 → w2.cell? ⟨w.heap.size, 0, none⟩ = some (.int .i64 at_) ∧ w2.cell? ⟨w.heap.size + 1, 0, none⟩ = some (.int .i64 0) ∧ w2.cell? ⟨w.heap.size + 1, 1, none⟩ = some (.int .i64 0) ∧ w2.frozen? ⟨w.heap.size + 1, 0, none⟩ = false ∧ w2.frozen? ⟨w.heap.size + 1, 1, none⟩ = false) := by
    intro w2 h2
    have d0 := (h2.block w.heap.size (by rw [HSA.out]; omega)).trans K0.out
    have d1 := (h2.block (w.heap.size + 1) (by rw [HSA.out]; omega)).trans K1.out
    exact ⟨by simp [World.cell?, d0], by simp [World.cell?, d1], by simp [World.cell?, d1], by simp [World.frozen?, d1], by simp [World.frozen?, d1]⟩
  have HWR := hid (fun e W => wrong_any at_ e W)
  unfold hereV at HWR
  by_cases her : er = 0
  · subst her
    rw [if_neg (by simp)] at hrd
    by_cases hbad : n < lo ∨ hi < n
    · rw [if_pos hbad] at hrd
      have HF := hid hrd
      clear hrd
      by_cases hlo : n < lo
      · clear hbad
        go_enter Tryz.func99, Tryz.ntmps99
        go_wp2_with fail
        rw [← hwA]
        refine HG.out.mono ?_
        rintro e w1 ⟨rfl, b1⟩
        obtain ⟨z0, -, -, -, -⟩ := HCEL.out w1 b1
        go_wp2_with fail
        refine (HWR.out 8 w1).mono ?_
        rintro e w2 ⟨rfl, b2⟩
        have b12 : Below wA.heap.size wA w2 := b1.trans (b2.mono b1.size)
        obtain ⟨-, y0, y1, f0, f1⟩ := HCEL.out w2 b12
        have HF2 := hid (HFIN.out w2 b12)
        clear b1 b2 b12 z0
        go_wp2
        exact bodyPost_ret (v := .tuple #[.int .i64 0, .agg #[.int .i64 at_, .int .i64 8]]) (by simp [results, Tryz.results99, go_sem, y0, y1]) rfl ⟨by rw [HF.out], HF2.out _ _⟩
      · have hlo' : decide (n < lo) = false := by simpa using hlo
        have hhi : hi < n := by omega
        clear hbad hlo
        go_enter Tryz.func99, Tryz.ntmps99
        go_wp2_with fail
        rw [← hwA]
        refine HG.out.mono ?_
        rintro e w1 ⟨rfl, b1⟩
        obtain ⟨z0, -, -, -, -⟩ := HCEL.out w1 b1
        go_wp2_with fail
        refine (HWR.out 8 w1).mono ?_
        rintro e w2 ⟨rfl, b2⟩
        have b12 : Below wA.heap.size wA w2 := b1.trans (b2.mono b1.size)
        obtain ⟨-, y0, y1, f0, f1⟩ := HCEL.out w2 b12
        have HF2 := hid (HFIN.out w2 b12)
        clear b1 b2 b12 z0
        go_wp2
        exact bodyPost_ret (v := .tuple #[.int .i64 0, .agg #[.int .i64 at_, .int .i64 8]]) (by simp [results, Tryz.results99, go_sem, y0, y1]) rfl ⟨by rw [HF.out], HF2.out _ _⟩
    · rw [if_neg hbad] at hrd
      have HF := hid hrd
      have hlo' : decide (n < lo) = false := by simp; omega
      have hhi' : decide (hi < n) = false := by simp; omega
      clear hrd hbad
      go_enter Tryz.func99, Tryz.ntmps99
      go_wp2_with fail
      rw [← hwA]
      refine HG.out.mono ?_
      rintro e w1 ⟨rfl, b1⟩
      obtain ⟨-, y0, y1, f0, f1⟩ := HCEL.out w1 b1
      have HF2 := hid (HFIN.out w1 b1)
      clear b1
      go_wp2
      exact bodyPost_ret (v := .tuple #[.int .i64 n, .agg #[.int .i64 nx, .int .i64 0]]) (by simp [results, Tryz.results99, go_sem, y0, y1]) rfl ⟨by rw [HF.out], HF2.out _ _⟩
  · rw [if_pos her] at hrd
    have HF := hid hrd
    have her' : (er != 0) = true := by simpa using her
    clear hrd her
    go_enter Tryz.func99, Tryz.ntmps99
    go_wp2_with fail
    rw [← hwA]
    refine HG.out.mono ?_
    rintro e w1 ⟨rfl, b1⟩
    obtain ⟨z0, -, -, -, -⟩ := HCEL.out w1 b1
    go_wp2_with fail
    refine (HWR.out er w1).mono ?_
    rintro e w2 ⟨rfl, b2⟩
    have b12 : Below wA.heap.size wA w2 := b1.trans (b2.mono b1.size)
    obtain ⟨-, y0, y1, f0, f1⟩ := HCEL.out w2 b12
    have HF2 := hid (HFIN.out w2 b12)
    clear b1 b2 b12 z0
    go_wp2
    exact bodyPost_ret (v := .tuple #[.int .i64 0, .agg #[.int .i64 at_, .int .i64 er]]) (by simp [results, Tryz.results99, go_sem, y0, y1]) rfl ⟨by rw [HF.out], HF2.out _ _⟩
end Go.Proofs.YtffnfjkjlmlonaaGreatDoor
namespace Go.Proofs.YtffnfjkjlmlonaaGreatDoor
open Go.RowKit
/-- A table, read at a place. -/
def rdTb (bs : List Int) (at_ : Int) : List (Int × Int) × Int × Int := if (getT bs at_).2.2 ≠ 0 then ([], at_, (getT bs at_).2.2) else ((getT bs at_).1, (getT bs at_).2.1, 0)
theorem rdTb_wf (bs : List Int) (hx : ∀ j, 0 ≤ bs.getD j 0 ∧ bs.getD j 0 ≤ 255) (at_ : Int) : wfS (rdTb bs at_).1 (-1) 1000 = true := by
  unfold rdTb
  split
  · rfl
  · rename_i h
    have := (getT_inv bs hx at_ (by simpa using h)).2
    unfold wfT at this
    rw [Bool.and_eq_true] at this
    exact this.1
set_option maxHeartbeats 1000000 in
set_option maxRecDepth 100000 in
theorem readTable_any (a : Option Addr) (len cap : Nat) (bs : List Int) (at_ e0 : Int) (w : World) (hr : Rd .u8 w a len cap bs) (hx : ∀ j, 0 ≤ bs.getD j 0 ∧ bs.getD j 0 ≤ 255) :
    Calls Tryz.prog 153 #[.slice a len cap, hereV at_ e0] w fun e w' => ∃ v, e = .returned (.tuple #[v, hereV (rdTb bs at_).2.1 (rdTb bs at_).2.2]) ∧ w'.ownsRow w.heap.size 3 1 v (unroll (rdTb bs at_).1).length (i64s (unroll (rdTb bs at_).1)) ∧ Below w.heap.size w w' := by
  obtain ⟨wA, hwA⟩ : ∃ wA, wA = (w.alloc (Obj.cells #[.int .i64 at_, .int .i64 e0] 135)).alloc (Obj.cells #[.int .i64 0, .int .i64 0] 135) := ⟨_, rfl⟩
  have hbA : Below w.heap.size w wA := by rw [hwA]; exact ((Below.refl _ _).alloc (Nat.le_refl _) _).alloc (by simp) _
  have k0 : wA.heap[w.heap.size]? = some (.cells #[.int .i64 at_, .int .i64 e0] 135 (0, 0)) := by
    rw [hwA, heap_alloc_old _ _ (by simp)]; exact heap_alloc_new _ _
  have k1 : wA.heap[w.heap.size + 1]? = some (.cells #[.int .i64 0, .int .i64 0] 135 (0, 0)) := by
    rw [hwA]
    have := heap_alloc_new (w.alloc (Obj.cells #[.int .i64 at_, .int .i64 e0] 135)) (Obj.cells #[.int .i64 0, .int .i64 0] 135)
    simpa using this
  have hsA : wA.heap.size = w.heap.size + 2 := by rw [hwA]; simp
  have HG := hid (rGetT_any a len cap bs at_ wA (hr.below hbA (Nat.le_refl _)) hx)
  have hwf := rdTb_wf bs hx at_
  obtain ⟨⟨l, nx, er⟩, hn⟩ : ∃ q, getT bs at_ = q := ⟨_, rfl⟩
  have hrd : rdTb bs at_ = if er ≠ 0 then ([], at_, er) else (l, nx, 0) := by unfold rdTb; rw [hn]
  rw [hn] at HG
  simp only at HG
  have HBA := hid hbA
  have K0 := hid k0
  have K1 := hid k1
  have HSA := hid hsA
  unfold hereV
  clear hr hx hn hbA k0 k1 hsA
  have HFIN : Hid (∀ w2, Below wA.heap.size wA w2 → ∀ u v, Below w.heap.size w ((w2.setCell ⟨w.heap.size + 1, 0, none⟩ u).setCell ⟨w.heap.size + 1, 1, none⟩ v)) := fun w2 h2 u v => ((HBA.out.trans (h2.mono HBA.out.size)).setCell (p := ⟨w.heap.size + 1, 0, none⟩) (by simp) _).setCell (p := ⟨w.heap.size + 1, 1, none⟩) (by simp) _
  have HCEL : Hid (∀ w2, Below wA.heap.size wA w2 → w2.cell? ⟨w.heap.size, 0, none⟩ = some (.int .i64 at_) ∧ w2.cell? ⟨w.heap.size + 1, 0, none⟩ = some (.int .i64 0) ∧ w2.cell? ⟨w.heap.size + 1, 1, none⟩ = some (.int .i64 0) ∧ w2.frozen? ⟨w.heap.size + 1, 0, none⟩ = false ∧ w2.frozen? ⟨w.heap.size + 1, 1, none⟩ = false) := by
    intro w2 h2
    have d0 := (h2.block w.heap.size (by rw [HSA.out]; omega)).trans K0.out
    have d1 := (h2.block (w.heap.size + 1) (by rw [HSA.out]; omega)).trans K1.out
    exact ⟨by simp [World.cell?, d0], by simp [World.cell?, d1], by simp [World.cell?, d1], by simp [World.frozen?, d1], by simp [World.frozen?, d1]⟩
  by_cases her : er = 0
  · subst her
    rw [if_neg (by simp)] at hrd
    rw [hrd] at hwf ⊢
    simp only at hwf ⊢
    have HWF := hid hwf
    clear hrd hwf
    go_enter Tryz.func153, Tryz.ntmps153
    go_wp2_with fail
    rw [← hwA]
    refine HG.out.mono ?_
    rintro e w1 ⟨v, rfl, hown, b1⟩
    obtain ⟨la, lcap, rfl, hrs⟩ := rdsOf hown rfl
    have HU := hid (runrolled_any la l.length lcap l w1 hrs HWF.out)
    clear hown hrs
    go_wp2_with fail
    refine HU.out.mono ?_
    rintro e w2 ⟨v2, rfl, hown2, b2⟩
    obtain ⟨va, vc, rfl, -, -⟩ := owns_form hown2
    have b12 : Below wA.heap.size wA w2 := b1.trans (b2.mono b1.size)
    obtain ⟨-, y0, y1, f0, f1⟩ := HCEL.out w2 b12
    have HF2 : Hid (∀ W, W = (w2.setCell ⟨w.heap.size + 1, 0, none⟩ (.int .i64 nx)).setCell ⟨w.heap.size + 1, 1, none⟩ (.int .i64 0) → W.ownsRow w.heap.size 3 1 (.slice va (unroll l).length vc) (unroll l).length (i64s (unroll l)) ∧ Below w.heap.size w W) := by
      rintro W rfl
      have d1 := (b12.block (w.heap.size + 1) (by rw [HSA.out]; omega)).trans K1.out
      have hne : (Value.slice va (unroll l).length vc).ownBlock ≠ some (w.heap.size + 1) := fun e => owns_other hown2 d1 (by decide) e.symm
      exact ⟨owns_low7 (ownsRow_setCell_other (ownsRow_setCell_other hown2 hne _) hne _) (by have := b1.size; have := HSA.out; omega), HFIN.out w2 b12 _ _⟩
    clear hown2 b1 b2 b12
    go_wp2
    exact bodyPost_ret (v := .tuple #[.slice va (unroll l).length vc, .agg #[.int .i64 nx, .int .i64 0]]) (by simp [results, Tryz.results153, go_sem, y0, y1]) rfl ⟨_, rfl, HF2.out _ rfl⟩
  · rw [if_pos her] at hrd
    rw [hrd]
    simp only
    have her' : (er != 0) = true := by simpa using her
    have HWR := hid (fun W => wrong_any at_ er W)
    unfold hereV at HWR
    clear hrd her hwf
    go_enter Tryz.func153, Tryz.ntmps153
    go_wp2_with fail
    rw [← hwA]
    refine HG.out.mono ?_
    rintro e w1 ⟨v, rfl, hown, b1⟩
    obtain ⟨la, lcap, rfl, -, -⟩ := owns_form hown
    obtain ⟨z0, -, -, -, -⟩ := HCEL.out w1 b1
    clear hown
    go_wp2_with fail
    refine (HWR.out w1).mono ?_
    rintro e w2 ⟨rfl, b2⟩
    have b12 : Below wA.heap.size wA w2 := b1.trans (b2.mono b1.size)
    obtain ⟨-, y0, y1, f0, f1⟩ := HCEL.out w2 b12
    have HF2 := hid (HFIN.out w2 b12)
    clear b1 b2 b12 z0
    go_wp2
    exact bodyPost_ret (v := .tuple #[.slice none 0 0, .agg #[.int .i64 at_, .int .i64 er]]) (by simp [results, Tryz.results153, go_sem, y0, y1]) rfl ⟨_, rfl, by simpa [unroll, i64s] using World.ownsRow_nil _ _ _ _, HF2.out _ _⟩
end Go.Proofs.YtffnfjkjlmlonaaGreatDoor
namespace Go.Proofs.YtffnfjkjlmlonaaGreatDoor
open Go.RowKit
/-- A word that is none of others, read at a place. -/
def rdTx (bs : List Int) (at_ : Int) (others : List ByteArray) : ByteArray × Int × Int :=
  if (rdN bs at_ 1 20).2.2 ≠ 0 then (ByteArray.empty, (rdN bs at_ 1 20).2.1, (rdN bs at_ 1 20).2.2) else
  if (bs.length : Int) < (rdN bs at_ 1 20).2.1 + (rdN bs at_ 1 20).1 then (ByteArray.empty, (rdN bs at_ 1 20).2.1, 2) else
  if wordB (strOfNums ((bs.drop (rdN bs at_ 1 20).2.1.toNat).take (rdN bs at_ 1 20).1.toNat)) && others.all (fun x => !eqB x (strOfNums ((bs.drop (rdN bs at_ 1 20).2.1.toNat).take (rdN bs at_ 1 20).1.toNat))) then
    (strOfNums ((bs.drop (rdN bs at_ 1 20).2.1.toNat).take (rdN bs at_ 1 20).1.toNat), (rdN bs at_ 1 20).2.1 + (rdN bs at_ 1 20).1, 0)
  else (ByteArray.empty, (rdN bs at_ 1 20).2.1, 8)
theorem rdN_bd (bs : List Int) (at_ lo hi : Int) : (rdN bs at_ lo hi).2.2 = 0 → lo ≤ (rdN bs at_ lo hi).1 ∧ (rdN bs at_ lo hi).1 ≤ hi ∧ 0 ≤ at_ ∧ at_ + 1 ≤ (rdN bs at_ lo hi).2.1 ∧ (rdN bs at_ lo hi).2.1 ≤ bs.length := by
  unfold rdN
  split
  · intro h; exact absurd h (by assumption)
  · split
    · intro h; simp at h
    · intro _
      have := getN_bd bs at_ (by simp_all)
      simp only
      omega
set_option maxHeartbeats 1000000 in
set_option maxRecDepth 100000 in
theorem readText_any (a : Option Addr) (len cap : Nat) (bs : List Int) (at_ e0 : Int) (oa : Option Addr) (olen ocap : Nat) (others : List ByteArray) (w : World) (hr : Rd .u8 w a len cap bs) (hx : ∀ j, 0 ≤ bs.getD j 0 ∧ bs.getD j 0 ≤ 255) (ho : RdT w oa olen ocap others) (hbig : len ≤ 4611686018427387904) :
    Calls Tryz.prog 150 #[.slice a len cap, hereV at_ e0, .slice oa olen ocap] w fun e w' => e = .returned (.tuple #[.string (rdTx bs at_ others).1, hereV (rdTx bs at_ others).2.1 (rdTx bs at_ others).2.2]) ∧ Below w.heap.size w w' := by
  obtain ⟨wA, hwA⟩ : ∃ wA, wA = (w.alloc (Obj.cells #[.int .i64 at_, .int .i64 e0] 135)).alloc (Obj.cells #[.int .i64 0, .int .i64 0] 135) := ⟨_, rfl⟩
  have hbA : Below w.heap.size w wA := by rw [hwA]; exact ((Below.refl _ _).alloc (Nat.le_refl _) _).alloc (by simp) _
  have k1 : wA.heap[w.heap.size + 1]? = some (.cells #[.int .i64 0, .int .i64 0] 135 (0, 0)) := by
    rw [hwA]
    have := heap_alloc_new (w.alloc (Obj.cells #[.int .i64 at_, .int .i64 e0] 135)) (Obj.cells #[.int .i64 0, .int .i64 0] 135)
    simpa using this
  have hsA : wA.heap.size = w.heap.size + 2 := by rw [hwA]; simp
  have HN := hid (readNumber_any a len cap bs at_ e0 1 20 wA (hr.below hbA (Nat.le_refl _)) hx)
  have hbd := rdN_bd bs at_ 1 20
  obtain ⟨⟨n, nx, er⟩, hn⟩ : ∃ q, rdN bs at_ 1 20 = q := ⟨_, rfl⟩
  have hrd : rdTx bs at_ others = if er ≠ 0 then (ByteArray.empty, nx, er) else if (bs.length : Int) < nx + n then (ByteArray.empty, nx, 2) else
      if wordB (strOfNums ((bs.drop nx.toNat).take n.toNat)) && others.all (fun x => !eqB x (strOfNums ((bs.drop nx.toNat).take n.toNat))) then (strOfNums ((bs.drop nx.toNat).take n.toNat), nx + n, 0) else (ByteArray.empty, nx, 8) := by
    unfold rdTx; rw [hn]
  rw [hn] at HN hbd
  simp only at hbd
  have HBA := hid hbA
  have K1 := hid k1
  have HSA := hid hsA
  unfold hereV at HN ⊢
  clear hn hbA k1 hsA
  have HFIN : Hid (∀ w2, Below wA.heap.size wA w2 → ∀ u v, Below w.heap.size w ((w2.setCell ⟨w.heap.size + 1, 0, none⟩ u).setCell ⟨w.heap.size + 1, 1, none⟩ v)) := fun w2 h2 u v => ((HBA.out.trans (h2.mono HBA.out.size)).setCell (p := ⟨w.heap.size + 1, 0, none⟩) (by simp) _).setCell (p := ⟨w.heap.size + 1, 1, none⟩) (by simp) _
  have HCEL : Hid (∀ w2, Below wA.heap.size wA w2 → w2.cell? ⟨w.heap.size + 1, 0, none⟩ = some (.int .i64 0) ∧ w2.cell? ⟨w.heap.size + 1, 1, none⟩ = some (.int .i64 0) ∧ w2.frozen? ⟨w.heap.size + 1, 0, none⟩ = false ∧ w2.frozen? ⟨w.heap.size + 1, 1, none⟩ = false) := by
    intro w2 h2
    have d1 := (h2.block (w.heap.size + 1) (by rw [HSA.out]; omega)).trans K1.out
    exact ⟨by simp [World.cell?, d1], by simp [World.cell?, d1], by simp [World.frozen?, d1], by simp [World.frozen?, d1]⟩
  by_cases her : er = 0
  · subst her
    obtain ⟨hn1, hn2, hn3, hn4, hn5⟩ := hbd rfl
    rw [if_neg (by simp)] at hrd
    have HL := hid hr.hlen
    have hmax := hr.hmax
    have hcap := hr.hcap
    unfold maxLen at hmax
    rw [HL.out] at hrd hn5
    by_cases hsh : (len : Int) < nx + n
    · rw [if_pos hsh] at hrd
      rw [hrd]
      have HWR := hid (fun W => wrong_any nx 2 W)
      unfold hereV at HWR
      clear hrd hx hr ho hbd
      go_enter Tryz.func150, Tryz.ntmps150
      go_wp2_with fail
      rw [← hwA]
      refine HN.out.mono ?_
      rintro e w1 ⟨rfl, b1⟩
      obtain ⟨wB, hwB⟩ : ∃ wB, wB = w1.alloc (Obj.cells #[.int .i64 nx, .int .i64 0] 135) := ⟨_, rfl⟩
      have bB : Below wA.heap.size wA wB := by rw [hwB]; exact b1.alloc b1.size _
      have HBB := hid bB
      clear bB
      go_wp2_with fail
      rw [← hwB]
      clear hwB
      refine (HWR.out wB).mono ?_
      rintro e w2 ⟨rfl, b2⟩
      have b12 : Below wA.heap.size wA w2 := HBB.out.trans (b2.mono HBB.out.size)
      obtain ⟨y0, y1, f0, f1⟩ := HCEL.out w2 b12
      have HF2 := hid (HFIN.out w2 b12)
      clear b1 b2 b12
      go_wp2
      exact bodyPost_ret (v := .tuple #[.string ⟨#[]⟩, .agg #[.int .i64 nx, .int .i64 2]]) (by simp [results, Tryz.results150, go_sem, y0, y1]) rfl ⟨rfl, HF2.out _ _⟩
    · rw [if_neg hsh] at hrd
      obtain ⟨A, rfl⟩ := Int.eq_ofNat_of_zero_le (show 0 ≤ nx by omega)
      obtain ⟨N, rfl⟩ := Int.eq_ofNat_of_zero_le (show 0 ≤ n by omega)
      have hAN : A + N ≤ len := by omega
      have eA : ((A : Int)).toNat = A := by omega
      have eN : ((N : Int)).toNat = N := by omega
      rw [eA, eN] at hrd
      have hrA := hr.below HBA.out (Nat.le_refl _)
      have hoA := ho.below HBA.out
      obtain ⟨b, off, rfl, -⟩ := hr.open (by omega)
      have HRA := hid hrA
      have HOA := hid hoA
      have HRD := hid hrd
      have hsz : (strOfNums ((bs.drop A).take N)).size = N := by
        rw [strOfNums_size, List.length_take, List.length_drop, HL.out]; omega
      have HX := hid hx
      have hcA : ¬ cap = A := by omega
      clear hrd hx hr ho hbd hrA hoA
      go_enter Tryz.func150, Tryz.ntmps150
      go_wp2_with fail
      rw [← hwA]
      refine HN.out.mono ?_
      rintro e w1 ⟨rfl, b1⟩
      obtain ⟨wB, hwB⟩ : ∃ wB, wB = w1.alloc (Obj.cells #[.int .i64 A, .int .i64 0] 135) := ⟨_, rfl⟩
      have bB : Below wA.heap.size wA wB := by rw [hwB]; exact b1.alloc b1.size _
      have kB : wB.heap[w1.heap.size]? = some (.cells #[.int .i64 A, .int .i64 0] 135 (0, 0)) := by rw [hwB]; exact heap_alloc_new _ _
      have hcell : ∀ i, i < A + N - A → wB.cell? ⟨b, off + A + i, none⟩ = some (.int .u8 (((bs.drop A).take N).getD i 0)) := by
        intro i hi
        obtain ⟨b', off', e, hc⟩ := (HRA.out.below bB (Nat.le_refl _)).open (by omega)
        cases e
        have h2 := hc (A + i) (by omega)
        rw [show off + A + i = off + (A + i) by omega, h2]
        have : bs.getD (A + i) 0 = ((bs.drop A).take N).getD i 0 := by simp [List.getD, show i < N by omega]
        rw [this]
      have hcv := run_convert_bytes_arg (P := Tryz.prog) wB 36 5 Tryz.underlying36 Tryz.underlying5 b (off + A) (A + N - A) (cap - A) ((bs.drop A).take N) (by rw [List.length_take, List.length_drop, HL.out]; omega) hcell 9 Tryz.underlying9
      have hcv2 := hcv
      rw [show A + N - A = N by omega] at hcv2
      generalize strOfNums ((bs.drop A).take N) = str at *
      have HBB := hid bB
      have HKB := hid kB
      have HSB : Hid (wB.heap.size = w1.heap.size + 1) := by rw [hwB]; exact hid (by simp)
      have HWD := hid (word_any str wB (by unfold maxLen; omega))
      clear bB kB hcell
      rw [hwB] at hcv hcv2
      go_wp2_with fail
      rw [← hwB]
      refine HWD.out.mono ?_
      rintro e w2 ⟨rfl, b2⟩
      clear hcv hcv2 HN HWD hwB hwA
      go_wp2
      go_loopw [11, 12] (fun o i wr => ∃ k : Nat, o = .bool (wordB str && (others.take k).all (fun x => !eqB x str)) ∧ i = .int .i64 k ∧ k ≤ olen ∧ Below wB.heap.size wB wr) (fun _ i _ => olen - (intOf i).toNat)
      case atStart => exact ⟨0, by simp, rfl, by omega, b2⟩
      case round =>
        clear b2
        obtain ⟨k, rfl, rfl, hk, b3⟩ := hrel
        have hho := (HOA.out.below HBB.out).below b3
        have HOL := hid hho.1
        have hocap := hho.2.1
        have homax := hho.2.2.1
        unfold maxLen at homax
        by_cases hlt : k < olen
        · obtain ⟨y, hy⟩ : ∃ y, others[k]? = some y := ⟨_, List.getElem?_eq_getElem (by rw [HOL.out]; omega)⟩
          obtain ⟨ob, ooff, rfl, d0, -⟩ := hho.at k y hy
          have hstep : (others.take (k + 1)).all (fun x => !eqB x str) = ((others.take k).all (fun x => !eqB x str) && !eqB y str) := by
            rw [List.take_add_one, hy]; simp
          have HST := hid hstep
          obtain ⟨q, hq⟩ : ∃ q, q = eqB y str := ⟨_, rfl⟩
          have hqq : (y.toList == str.toList) = q := by rw [hq]; rfl
          rw [← hq] at HST
          obtain ⟨q0, hq0⟩ : ∃ q0, q0 = (wordB str && (others.take k).all fun x => !eqB x str) := ⟨_, rfl⟩
          rw [← hq0]
          have HQ0 : Hid ((wordB str && (others.take (k + 1)).all fun x => !eqB x str) = (q0 && !q)) := by
            show _ = _
            rw [HST.out, ← Bool.and_assoc, ← hq0]
          clear hho hy hstep hq hq0 HST
          have HB3 := hid b3
          clear b3
          cases q0 <;> cases q
          all_goals
            go_wp2
            go_roundw
            case rel => exact ⟨k + 1, by rw [HQ0.out]; rfl, by go_num, by omega, HB3.out⟩
            case measure => simp [intOf]; omega
        · have hfull : others.take k = others := List.take_of_length_le (by rw [HOL.out]; omega)
          rw [hfull]
          have HB3 := hid b3
          have b13 : Below wA.heap.size wA wr := HBB.out.trans (b3.mono HBB.out.size)
          have kR := (b3.block w1.heap.size (by rw [HSB.out]; omega)).trans HKB.out
          have g0 : wr.cell? ⟨w1.heap.size, 0, none⟩ = some (.int .i64 A) := by simp [World.cell?, kR]
          obtain ⟨y0, y1, f0, f1⟩ := HCEL.out wr b13
          have HB13 := hid b13
          clear hho hfull b3 kR b13
          obtain ⟨qf, hqf⟩ : ∃ qf, qf = (wordB str && others.all fun x => !eqB x str) := ⟨_, rfl⟩
          rw [← hqf] at HRD ⊢
          clear hqf
          cases qf with
          | false =>
            have HR : Hid (rdTx bs at_ others = (ByteArray.empty, (A : Int), 8)) := by show _ = _; rw [HRD.out]; rfl
            have HWR := hid (fun W => wrong_any A 8 W)
            unfold hereV at HWR
            clear HRD y0 y1 f0 f1
            go_wp2_with fail
            refine (HWR.out wr).mono ?_
            rintro e w4 ⟨rfl, b4⟩
            have b14 : Below wA.heap.size wA w4 := HB13.out.trans (b4.mono HB13.out.size)
            obtain ⟨y0, y1, f0, f1⟩ := HCEL.out w4 b14
            have HF2 := hid (HFIN.out w4 b14)
            clear b4 b14 g0
            go_wp2
            rw [HR.out]
            exact bodyPost_ret (v := .tuple #[.string ⟨#[]⟩, .agg #[.int .i64 A, .int .i64 8]]) (by simp [results, Tryz.results150, go_sem, y0, y1]) rfl ⟨rfl, HF2.out _ _⟩
          | true =>
            have HR : Hid (rdTx bs at_ others = (str, (A : Int) + N, 0)) := by show _ = _; rw [HRD.out]; rfl
            have HF2 := hid (HFIN.out wr HB13.out)
            clear HRD
            go_wp2
            go_region
            all_goals
              go_wp2
              rw [HR.out]
              exact bodyPost_ret (v := .tuple #[.string str, .agg #[.int .i64 ((A : Int) + N), .int .i64 0]]) (by simp [results, Tryz.results150, go_sem, y0, y1]) rfl ⟨rfl, (HF2.out _ _).drew⟩
  · rw [if_pos her] at hrd
    rw [hrd]
    have her' : (er != 0) = true := by simpa using her
    clear hrd her
    go_enter Tryz.func150, Tryz.ntmps150
    go_wp2_with fail
    rw [← hwA]
    refine HN.out.mono ?_
    rintro e w1 ⟨rfl, b1⟩
    obtain ⟨wB, hwB⟩ : ∃ wB, wB = w1.alloc (Obj.cells #[.int .i64 nx, .int .i64 er] 135) := ⟨_, rfl⟩
    have bB : Below wA.heap.size wA wB := by rw [hwB]; exact b1.alloc b1.size _
    obtain ⟨y0, y1, f0, f1⟩ := HCEL.out wB bB
    have kB : wB.heap[w1.heap.size]? = some (.cells #[.int .i64 nx, .int .i64 er] 135 (0, 0)) := by rw [hwB]; exact heap_alloc_new _ _
    have g0 : wB.cell? ⟨w1.heap.size, 0, none⟩ = some (.int .i64 nx) := by simp [World.cell?, kB]
    have g1 : wB.cell? ⟨w1.heap.size, 1, none⟩ = some (.int .i64 er) := by simp [World.cell?, kB]
    have HF2 := hid (HFIN.out wB bB)
    go_wp2_with fail
    rw [← hwB]
    clear bB b1 hwB kB
    go_region
    all_goals
      go_wp2
      exact bodyPost_ret (v := .tuple #[.string ⟨#[]⟩, .agg #[.int .i64 nx, .int .i64 er]]) (by simp [results, Tryz.results150, go_sem, y0, y1]) rfl ⟨rfl, (HF2.out _ _).drew⟩
end Go.Proofs.YtffnfjkjlmlonaaGreatDoor
