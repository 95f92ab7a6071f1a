/- Contracts of the developers' image.shift, pcsMayBe, frameOf and placesOf. -/
import Derived.Test.YtffnfjkjlmlonaaGreatDoorZB15
import Derived.Test.YtffnfjkjlmlonaaGreatDoorZB12
import Derived.Test.YtffnfjkjlmlonaaGreatDoorZB17
namespace Go.Proofs.YtffnfjkjlmlonaaGreatDoor
open Go.RowKit
def shiftD (k : Nat) : Int := if k = 0 then 0 else 1
set_option maxHeartbeats 400000 in
theorem shift_any (k : Nat) (w : World) (hk : k ≤ 1000000) :
    Calls Tryz.prog 167 #[.int .i64 k] w fun e w' => e = .returned (.int .i64 (shiftD k)) ∧ w' = w := by
  by_cases h : k = 0
  · subst h
    go_enter Tryz.func167, Tryz.ntmps167
    go_wp2
    go_ret
    exact ⟨rfl, rfl⟩
  · have h' : decide ((k : Int) = 0) = false := by simp; omega
    have E : Hid (shiftD k = 1) := hid (by unfold shiftD; rw [if_neg h])
    go_enter Tryz.func167, Tryz.ntmps167
    go_wp2
    go_ret
    exact ⟨ret_int E.out.symm, rfl⟩
set_option maxHeartbeats 1000000 in
set_option maxRecDepth 100000 in
theorem frameOf_any (nm fl : ByteArray) (l1 l2 l3 : Option Addr) (n1 n2 n3 c1 c2 c3 : Nat) (line : Int) (w : World) :
    Calls Tryz.prog 211 #[.agg #[.string nm, .string fl, .slice l1 n1 c1, .slice l2 n2 c2, .slice l3 n3 c3], .int .i64 line] w fun e w' => e = .returned (.agg #[.string nm, .string fl, .int .i64 line]) ∧ Below w.heap.size w w' := by
  obtain ⟨wb, hwb⟩ : ∃ v, v = (w.alloc (Obj.cells #[.string nm, .string fl, .slice l1 n1 c1, .slice l2 n2 c2, .slice l3 n3 c3] 115)).alloc (Obj.cells #[.string nm, .string fl, .int .i64 line] 107) := ⟨_, rfl⟩
  have hbb : Below w.heap.size w wb := by rw [hwb]; exact ((Below.refl _ _).alloc (Nat.le_refl _) _).alloc (by simp) _
  go_enter Tryz.func211, Tryz.ntmps211
  go_wp2
  have kF : wb.heap[w.heap.size + 1]? = some (.cells #[.string nm, .string fl, .int .i64 line] 107 (0, 0)) := by rw [hwb]; exact heap_new_at (by simp)
  rw [← hwb]
  have y0 : wb.cell? ⟨w.heap.size + 1, 0, none⟩ = some (.string nm) := by simp [World.cell?, kF]
  have y1 : wb.cell? ⟨w.heap.size + 1, 1, none⟩ = some (.string fl) := by simp [World.cell?, kF]
  have y2 : wb.cell? ⟨w.heap.size + 1, 2, none⟩ = some (.int .i64 line) := by simp [World.cell?, kF]
  exact bodyPost_ret (v := .agg #[.string nm, .string fl, .int .i64 line]) (by simp [results, Tryz.results211, go_sem, y0, y1, y2]) rfl ⟨rfl, hbb⟩
theorem pcsB_take {n : Int} : ∀ (l : List Int) (k0 k : Nat) (pc : Int), l[k]? = some pc → pcsB n l k0 = true → shiftD (k0 + k) ≤ pc ∧ pc < n + shiftD (k0 + k)
  | [], _, _, _, h, _ => by simp at h
  | x :: r, k0, k, pc, h, hb => by
    unfold pcsB at hb
    rw [Bool.and_eq_true] at hb
    cases k with
    | zero =>
      simp at h
      subst h
      have := of_decide_eq_true hb.1
      simpa [shiftD] using this
    | succ k =>
      have := pcsB_take r (k0 + 1) k pc (by simpa using h) hb.2
      rwa [show k0 + 1 + k = k0 + (k + 1) by omega] at this
theorem pcsB_drop (n : Int) : ∀ (l : List Int) (k0 k : Nat), (∀ i pc, i < k → l[i]? = some pc → shiftD (k0 + i) ≤ pc ∧ pc < n + shiftD (k0 + i)) → pcsB n l k0 = pcsB n (l.drop k) (k0 + k)
  | l, _, 0, _ => by simp
  | [], _, k + 1, _ => by simp [pcsB]
  | x :: r, k0, k + 1, h => by
    have h0 := h 0 x (by omega) rfl
    have ih := pcsB_drop n r (k0 + 1) k (fun i pc hi hp => by
      have := h (i + 1) pc (by omega) (by simpa using hp)
      rwa [show k0 + (i + 1) = k0 + 1 + i by omega] at this)
    rw [List.drop_succ_cons, show k0 + (k + 1) = k0 + 1 + k by omega, ← ih]
    show (decide _ && pcsB n r (k0 + 1)) = _
    have : decide ((if k0 = 0 then (0 : Int) else 1) ≤ x ∧ x < n + (if k0 = 0 then (0 : Int) else 1)) = true := decide_eq_true (by simpa [shiftD] using h0)
    rw [this, Bool.true_and]
set_option maxHeartbeats 2000000 in
set_option maxRecDepth 100000 in
theorem pcsMayBe_any (a : Option Addr) (cap : Nat) (l : List Int) (n : Nat) (w : World) (hr : Rd .i64 w a l.length cap l) (hn : n ≤ 1000000) (hl : ∀ x ∈ l, R64 x) :
    Calls Tryz.prog 165 #[.slice a l.length cap, .int .i64 n] w fun e w' => e = .returned (.bool (symB n l)) ∧ Below w.heap.size w w' := by
  have hc1 := hr.hcap
  have hc2 := hr.hmax
  unfold maxLen at hc2
  obtain ⟨ll, hll⟩ : ∃ v, v = l.length := ⟨_, rfl⟩
  have HR := hid hr
  rw [← hll] at HR hc1 ⊢
  have HLL := hid hll
  have HL := hid hl
  by_cases h20 : 20 < l.length
  · have h20' : (20 : Int) < (ll : Int) := by omega
    have E : Hid (symB n l = false) := hid (by unfold symB; rw [decide_eq_false (by omega)]; rfl)
    clear hr hll hl
    go_enter Tryz.func165, Tryz.ntmps165
    go_wp2
    go_ret
    exact ⟨ret_bool E.out.symm, Below.refl _ _⟩
  · have h20' : decide ((20 : Int) < (ll : Int)) = false := by simp; omega
    have h20n : ll ≤ 20 := by omega
    have E : Hid (symB n l = pcsB n l 0) := hid (by unfold symB; rw [decide_eq_true (by omega)]; rfl)
    clear hr hll hl h20
    go_enter Tryz.func165, Tryz.ntmps165
    go_wp2
    go_loopw [5, 6, 12] (fun _ _ i wr => ∃ k : Nat, i = .int .i64 k ∧ k ≤ ll ∧ (∀ i pc, i < k → l[i]? = some pc → shiftD i ≤ pc ∧ pc < n + shiftD i) ∧ Below w.heap.size w wr) (fun _ _ i _ => ll - (intOf i).toNat)
    case atStart => exact ⟨0, rfl, by omega, fun i pc h => by omega, Below.refl _ _⟩
    case round =>
      obtain ⟨k, rfl, hk, hgood, hbel⟩ := hrel
      have hsz := hbel.size
      by_cases hkl : k < ll
      · have hkl' : (k : Int) < (ll : Int) := by omega
        obtain ⟨v, hv⟩ : ∃ v, l[k]? = some v := ⟨_, List.getElem?_eq_getElem (by rw [← HLL.out]; exact hkl)⟩
        obtain ⟨b0, off, rfl, hc⟩ := (HR.out.below hbel (Nat.le_refl _)).open (by omega)
        have c0 := hc k hkl
        have hgd : l.getD k 0 = v := by rw [List.getD, hv]; rfl
        rw [hgd] at c0
        have hb0 : b0 < wr.heap.size := World.block_lt_of_cell? wr _ c0
        have hrv := HL.out v (List.mem_of_getElem? hv)
        obtain ⟨hv1, hv2⟩ := hrv
        have HS := hid (fun W => shift_any k W (by omega))
        obtain ⟨s, hs⟩ : ∃ v, v = shiftD k := ⟨_, rfl⟩
        rw [← hs] at HS
        have hs01 : 0 ≤ s ∧ s ≤ 1 := by rw [hs]; unfold shiftD; split <;> omega
        have HSE := hid hs
        have HV := hid hv
        have HGD := hid hgood
        have HB := hid hbel
        have HDR : Hid (pcsB n l 0 = pcsB n (l.drop k) k) := hid (by have := pcsB_drop n l 0 k (fun i pc hi hp => by rw [Nat.zero_add]; exact hgood i pc hi hp); rwa [Nat.zero_add] at this)
        have HDC : Hid (l.drop k = v :: l.drop (k + 1)) := hid (by
          obtain ⟨h1, h2⟩ := List.getElem?_eq_some_iff.1 hv
          rw [List.drop_eq_getElem_cons h1, h2])
        clear hgood hbel hc hv hgd hs
        by_cases hlo : v < s
        · have hlo' : decide (v < s) = true := by simpa using hlo
          have EF : Hid (symB n l = false) := hid (by
            rw [E.out, HDR.out, HDC.out]
            show (decide _ && _) = false
            rw [show (if k = 0 then (0 : Int) else 1) = s from HSE.out.symm, decide_eq_false (by omega)]
            rfl)
          go_wp2_with (go_at_call 167; refine (HS.out _).mono ?_; rintro e w' ⟨rfl, rfl⟩)
          go_ret
          exact ⟨ret_bool EF.out.symm, HB.out⟩
        · have hlo' : decide (v < s) = false := by simp; omega
          by_cases hhi : v < n + s
          · have hhi' : decide ((n : Int) + s ≤ v) = false := by simp; omega
            go_wp2_with (go_at_call 167; refine (HS.out _).mono ?_; rintro e w' ⟨rfl, rfl⟩)
            go_roundw
            case rel =>
              refine ⟨k + 1, by go_num, by omega, fun i pc hi hp => ?_, HB.out⟩
              rcases Nat.lt_or_ge i k with h | h
              · exact HGD.out i pc h hp
              · obtain rfl : i = k := by omega
                rw [HV.out] at hp
                cases hp
                rw [← HSE.out]
                exact ⟨by omega, hhi⟩
            case measure => simp [intOf]; omega
          · have hhi' : decide ((n : Int) + s ≤ v) = true := by simp; omega
            have EF : Hid (symB n l = false) := hid (by
              rw [E.out, HDR.out, HDC.out]
              show (decide _ && _) = false
              rw [show (if k = 0 then (0 : Int) else 1) = s from HSE.out.symm, decide_eq_false (by omega)]
              rfl)
            go_wp2_with (go_at_call 167; refine (HS.out _).mono ?_; rintro e w' ⟨rfl, rfl⟩)
            go_ret
            exact ⟨ret_bool EF.out.symm, HB.out⟩
      · have hkl' : decide ((k : Int) < (ll : Int)) = false := by simp; omega
        have ET : Hid (symB n l = true) := hid (by
          have h1 := pcsB_drop n l 0 k (fun i pc hi hp => by rw [Nat.zero_add]; exact hgood i pc hi hp)
          rw [E.out, h1, List.drop_of_length_le (by have := HLL.out; omega)]
          rfl)
        have HB := hid hbel
        clear hgood hbel
        go_wp2
        go_ret
        exact ⟨ret_bool ET.out.symm, HB.out⟩
end Go.Proofs.YtffnfjkjlmlonaaGreatDoor
