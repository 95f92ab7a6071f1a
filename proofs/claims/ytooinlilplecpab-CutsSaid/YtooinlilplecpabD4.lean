/- Contracts of the developers' run.argsMayBe and (*run.Run).goesOn. -/
import Derived.Test.YtooinlilplecpabR12
import Derived.Test.YtooinlilplecpabK1a
namespace Go.Proofs.Ytooinlilplecpab
open Go.RowKit

set_option maxHeartbeats 2000000 in
set_option maxRecDepth 100000 in
theorem runArgs_any (p : List FnD) (aa : Option Addr) (acap : Nat) (args : List Int) (w : World) (hr : Rd .i64 w aa args.length acap args) :
    Calls Try.prog 27 #[.slice aa args.length acap, .int .i64 (fnAt p 0).params] w fun r w' => r = .returned (.bool (givenB p args)) ∧ Below w.heap.size w w' := by
  have hgb : givenB p args = (args.all (fun n => withB n 1000) && ((args.length : Int) == (fnAt p 0).params)) := rfl
  obtain ⟨gb, hgb2⟩ : ∃ v, v = givenB p args := ⟨_, rfl⟩
  rw [← hgb2] at hgb ⊢
  obtain ⟨k, hk0⟩ : ∃ v, v = (fnAt p 0).params := ⟨_, rfl⟩
  rw [← hk0] at hgb ⊢
  obtain ⟨na, hna⟩ : ∃ v, v = args.length := ⟨_, rfl⟩
  rw [← hna] at hgb hr ⊢
  have HGB := hid hgb
  have HL := hid hr.hlen
  have hcap := hr.hcap
  have hmax := hr.hmax
  unfold maxLen at hmax
  clear hgb hgb2 hk0 hna
  by_cases hk : (na : Int) = k
  · have hk' : ((na : Int) != k) = false := by simpa using hk
    have HE : Hid (gb = args.all fun n => withB n 1000) := by
      show _ = _
      have : ((na : Int) == k) = true := by simpa using hk
      rw [HGB.out, this, Bool.and_true]
    clear hk HGB
    go_enter Try.func27, Try.ntmps27
    go_wp2
    go_loopw [13] (fun i wr => ∃ j : Nat, i = .int .i64 j ∧ j ≤ na ∧ ((args.take j).all fun n => withB n 1000) = true ∧ Below w.heap.size w wr) (fun i _ => na - (intOf i).toNat)
    case atStart => exact ⟨0, rfl, by omega, rfl, Below.refl _ _⟩
    case round =>
      obtain ⟨j, rfl, hj, hall, hbel⟩ := hrel
      have HA := hid hall
      clear hall
      by_cases hjn : j < na
      · obtain ⟨b, off, rfl, hc⟩ := (hr.below hbel (Nat.le_refl _)).cell j hjn
        have hst := all_take_succ args j (args.getD j 0) (fun n => withB n 1000) (by rw [List.getD_eq_getElem?_getD, List.getElem?_eq_getElem (by rw [HL.out]; exact hjn)]; rfl)
        rw [HA.out, Bool.true_and] at hst
        generalize args.getD j 0 = v at hc hst
        have HIS := hid (fun W => pIsValue_any v W)
        have HST := hid hst
        clear hst hr
        have hjn' : (j : Int) < (na : Int) := by omega
        obtain ⟨t, ht⟩ : ∃ t, t = withB v 1000 := ⟨_, rfl⟩
        rw [← ht] at HIS HST
        clear ht
        cases t with
        | true =>
          go_wp2_with fail
          refine (HIS.out _).mono ?_
          rintro e w2 ⟨rfl, rfl⟩
          go_wp2
          go_roundw
          case rel => exact ⟨j + 1, by go_num, by omega, HST.out, hbel⟩
          case measure => simp [intOf]; omega
        | false =>
          have HF : Hid (gb = false) := by
            show _ = _
            have e1 : args = args.take (j + 1) ++ args.drop (j + 1) := (List.take_append_drop _ _).symm
            rw [HE.out, e1, List.all_append, HST.out, Bool.false_and]
          go_wp2_with fail
          refine (HIS.out _).mono ?_
          rintro e w2 ⟨rfl, rfl⟩
          go_wp2
          go_ret
          exact ⟨ret_bool HF.out.symm, hbel⟩
      · have HF : Hid (gb = true) := by
          show _ = _
          have := HA.out
          rw [List.take_of_length_le (by rw [HL.out]; omega)] at this
          rw [HE.out]
          exact this
        have hjn' : decide ((j : Int) < (na : Int)) = false := by simp; omega
        go_wp2
        go_ret
        exact ⟨ret_bool HF.out.symm, hbel⟩
  · have hk' : ((na : Int) != k) = true := by simpa using hk
    have HF : Hid (gb = false) := by
      show _ = _
      have : ((na : Int) == k) = false := by simpa using hk
      rw [HGB.out, this, Bool.and_false]
    clear hk
    go_enter Try.func27, Try.ntmps27
    go_wp2
    go_ret
    exact ⟨ret_bool HF.out.symm, Below.refl _ _⟩

set_option maxHeartbeats 1000000 in
set_option maxRecDepth 100000 in
theorem goesOn_any (rb : Nat) (fa : Option Addr) (n fcap : Nat) (st : Int) (w : World) (c1 : w.cell? ⟨rb, 1, none⟩ = some (.slice fa n fcap)) (c2 : w.cell? ⟨rb, 2, none⟩ = some (.int .i64 st)) (hn : n ≤ 1000) (hst : st = 0 → 0 < n) :
    Calls Try.prog 30 #[.pointer (some ⟨rb, 0, none⟩)] w fun r w' => r = .returned (.bool (decide (st = 0))) ∧ Below w.heap.size w w' := by
  by_cases h0 : st = 0
  · have hn0 := hst h0
    subst h0
    have hn' : (0 : Int) < (n : Int) := by omega
    go_enter Try.func30, Try.ntmps30
    go_wp2
    go_ret
    exact ⟨rfl, Below.refl _ _⟩
  · have h0' : (st == 0) = false := by simpa using h0
    have HF : Hid (decide (st = 0) = false) := by show _ = _; simpa using h0
    clear h0 hst
    go_enter Try.func30, Try.ntmps30
    go_wp2
    go_ret
    exact ⟨ret_bool HF.out.symm, Below.refl _ _⟩
end Go.Proofs.Ytooinlilplecpab
