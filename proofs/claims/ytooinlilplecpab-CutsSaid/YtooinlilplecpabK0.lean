/- Contracts of the developers' word.mayStand, word.Is: the plain functions isLet and wordB; nothing that was there is written. -/
import Derived.Test.YtooinlilplecpabBC
namespace Go.Proofs.Ytooinlilplecpab
open Go.RowKit

theorem isLet_byte : ∀ n : Nat, n < 256 → isLet (n : Int) = (decide (97 ≤ n ∧ n ≤ 122) || (decide (48 ≤ n ∧ n ≤ 57) || (n == 46 || n == 47))) := by decide +kernel

set_option maxHeartbeats 1000000 in
set_option maxRecDepth 100000 in
theorem mayStand_any (n : Nat) (hn : n < 256) (w : World) :
    Calls Try.prog 47 #[.int .u8 (n : Int)] w fun r w' => r = .returned (.bool (isLet n)) ∧ w' = w := by
  have H := hid (isLet_byte n hn)
  obtain ⟨c, hc⟩ : ∃ c : Int, c = (n : Int) := ⟨_, rfl⟩
  by_cases h1 : 97 ≤ n
  · have g1 : (97 : Int) ≤ c := by omega
    by_cases h2 : n ≤ 122
    · have g2 : c ≤ 122 := by omega
      have HF : Hid (isLet c = true) := by show _ = _; rw [hc, H.out]; simp [h1, h2]
      rw [← hc]
      clear hc H
      go_enter Try.func47, Try.ntmps47
      go_wp2
      go_ret
      exact ⟨ret_bool HF.out.symm, rfl⟩
    · have g2 : decide (c ≤ 122) = false := by simp; omega
      have g3 : (48 : Int) ≤ c := by omega
      have g4 : decide (c ≤ 57) = false := by simp; omega
      have g5 : (c == 46) = false := by simp; omega
      have g6 : (c == 47) = false := by simp; omega
      have HF : Hid (isLet c = false) := by show _ = _; rw [hc, H.out]; simp; omega
      rw [← hc]
      clear hc H
      go_enter Try.func47, Try.ntmps47
      go_wp2
      go_ret
      exact ⟨ret_bool HF.out.symm, rfl⟩
  · have g1 : decide ((97 : Int) ≤ c) = false := by simp; omega
    by_cases h3 : 48 ≤ n
    · have g3 : (48 : Int) ≤ c := by omega
      have g5 : (c == 46) = false := by simp; omega
      have g6 : (c == 47) = false := by simp; omega
      by_cases h4 : n ≤ 57
      · have g4 : c ≤ 57 := by omega
        have HF : Hid (isLet c = true) := by show _ = _; rw [hc, H.out]; simp [h3, h4]
        rw [← hc]
        clear hc H
        go_enter Try.func47, Try.ntmps47
        go_wp2
        go_ret
        exact ⟨ret_bool HF.out.symm, rfl⟩
      · have g4 : decide (c ≤ 57) = false := by simp; omega
        have HF : Hid (isLet c = false) := by show _ = _; rw [hc, H.out]; simp; omega
        rw [← hc]
        clear hc H
        go_enter Try.func47, Try.ntmps47
        go_wp2
        go_ret
        exact ⟨ret_bool HF.out.symm, rfl⟩
    · have g3 : decide ((48 : Int) ≤ c) = false := by simp; omega
      by_cases h5 : n = 46
      · have g5 : (c == 46) = true := by simp; omega
        have HF : Hid (isLet c = true) := by show _ = _; rw [hc, H.out]; simp [h5]
        rw [← hc]
        clear hc H
        go_enter Try.func47, Try.ntmps47
        go_wp2
        go_ret
        exact ⟨ret_bool HF.out.symm, rfl⟩
      · have g5 : (c == 46) = false := by simp; omega
        have HF : Hid (isLet c = (c == 47)) := by
          show _ = _
          rw [hc, H.out]
          by_cases h : n = 47
          · subst h; decide
          · have : ((n : Int) == 47) = false := by simp; omega
            rw [this]; simp; omega
        rw [← hc]
        clear hc H
        go_enter Try.func47, Try.ntmps47
        go_wp2
        go_ret
        exact ⟨ret_bool HF.out.symm, rfl⟩

set_option maxHeartbeats 1000000 in
set_option maxRecDepth 100000 in
theorem isWord_any (s : ByteArray) (w : World) (hs : s.size ≤ maxLen) :
    Calls Try.prog 43 #[.string s] w fun e w' => e = .returned (.bool (wordB s)) ∧ Below w.heap.size w w' := by
  unfold maxLen at hs
  by_cases h1 : s.size < 1
  · have g1 : (s.size : Int) < 1 := by omega
    have HF : Hid (wordB s = false) := by show _ = _; unfold wordB; rw [decide_eq_false (by omega)]; rfl
    go_enter Try.func43, Try.ntmps43
    go_wp2
    go_ret
    exact ⟨ret_bool HF.out.symm, Below.refl _ _⟩
  · have g1 : decide ((s.size : Int) < 1) = false := by simp; omega
    by_cases h2 : 20 < s.size
    · have g2 : (20 : Int) < (s.size : Int) := by omega
      have HF : Hid (wordB s = false) := by show _ = _; unfold wordB; rw [decide_eq_false (by omega)]; rfl
      go_enter Try.func43, Try.ntmps43
      go_wp2
      go_ret
      exact ⟨ret_bool HF.out.symm, Below.refl _ _⟩
    · have g2 : decide ((20 : Int) < (s.size : Int)) = false := by simp; omega
      have HW : Hid (wordB s = (byteL s).all isLet) := by show _ = _; unfold wordB; rw [decide_eq_true (by omega)]; rfl
      go_enter Try.func43, Try.ntmps43
      go_wp2
      go_loopw [3] (fun i wr => ∃ k : Nat, i = .int .i64 k ∧ k ≤ s.size ∧ ((byteL s).take k).all isLet = true ∧ Below w.heap.size w wr) (fun i _ => s.size - (intOf i).toNat)
      case atStart => exact ⟨0, rfl, by omega, rfl, Below.refl _ _⟩
      case round =>
        obtain ⟨k, rfl, hk, hall, hbel⟩ := hrel
        have HA := hid hall
        clear hall
        by_cases hlt : k < s.size
        · have hlt' : (k : Int) < (s.size : Int) := by omega
          have hstep : ((byteL s).take (k + 1)).all isLet = isLet (s[k].toNat : Int) := by
            rw [byteL_take s k hlt, List.all_append, HA.out]; simp
          have HM := hid (fun W => mayStand_any s[k].toNat s[k].toNat_lt W)
          obtain ⟨t, ht⟩ : ∃ t, t = isLet (s[k].toNat : Int) := ⟨_, rfl⟩
          rw [← ht] at hstep HM
          have HS := hid hstep
          clear ht hstep
          cases t with
          | true =>
            go_wp2_with fail
            refine (HM.out _).mono ?_
            rintro e w' ⟨rfl, rfl⟩
            go_wp2
            go_roundw
            case rel => exact ⟨k + 1, by go_num, by omega, HS.out, hbel⟩
            case measure => simp [intOf]; omega
          | false =>
            have HF : Hid (wordB s = false) := by
              show _ = _
              rw [HW.out]
              have h1 : byteL s = (byteL s).take (k + 1) ++ (byteL s).drop (k + 1) := (List.take_append_drop _ _).symm
              rw [h1, List.all_append, HS.out]; rfl
            go_wp2_with fail
            refine (HM.out _).mono ?_
            rintro e w' ⟨rfl, rfl⟩
            go_wp2
            go_ret
            exact ⟨ret_bool HF.out.symm, hbel⟩
        · have hks : k = s.size := by omega
          have HF : Hid (wordB s = true) := by show _ = _; have := HA.out; rw [hks, List.take_of_length_le (by rw [byteL_len]; omega)] at this; rw [HW.out]; exact this
          have hge : decide ((k : Int) < (s.size : Int)) = false := by simp; omega
          clear hks
          go_wp2
          go_ret
          exact ⟨ret_bool HF.out.symm, hbel⟩

end Go.Proofs.Ytooinlilplecpab
