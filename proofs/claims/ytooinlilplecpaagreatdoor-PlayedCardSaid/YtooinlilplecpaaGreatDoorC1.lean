/- Contracts of the reference's Word and within: they give the plain functions wordB and withB; nothing that was there is written. -/
import Derived.Test.YtooinlilplecpaaGreatDoorC0a
import Derived.Deep.QuietTactic
import Derived.BigQuiet
namespace Go.Proofs.YtooinlilplecpaaGreatDoor
open Go.RowKit

set_option maxHeartbeats 400000 in
theorem within_any (n e : Int) (w : World) :
    Calls Tryz.prog 144 #[.int .i64 n, .int .i64 e] w fun r w' => r = .returned (.bool (withB n e)) ∧ w' = w := by
  by_cases h : 0 ≤ n
  · have E : Hid (withB n e = decide (n < e)) := by show _ = _; simp [withB, h]
    go_enter Tryz.func144, Tryz.ntmps144
    go_wp2
    go_ret
    exact ⟨ret_bool E.out.symm, rfl⟩
  · have E : Hid (withB n e = false) := by show _ = _; simp [withB, h]
    have hd : decide (0 ≤ n) = false := by simpa using h
    go_enter Tryz.func144, Tryz.ntmps144
    go_wp2
    go_ret
    exact ⟨ret_bool E.out.symm, rfl⟩

theorem letter_eq : letterL = (#[97, 98, 99, 100, 101, 102, 103, 104, 105, 106, 107, 108, 109, 110, 111, 112, 113, 114, 115, 116, 117, 118, 119, 120, 121, 122, 48, 49, 50, 51, 52, 53, 54, 55, 56, 57, 46, 47] : Array UInt8).toList.map fun c => (c.toNat : Int) := by decide
theorem let_step (m : Nat) (hm : m < 38) (c : Int) (h : false = (letterL.take m).any fun x => x == c) (hh : m < (ByteArray.mk #[97, 98, 99, 100, 101, 102, 103, 104, 105, 106, 107, 108, 109, 110, 111, 112, 113, 114, 115, 116, 117, 118, 119, 120, 121, 122, 48, 49, 50, 51, 52, 53, 54, 55, 56, 57, 46, 47]).size) :
    ((((ByteArray.mk #[97, 98, 99, 100, 101, 102, 103, 104, 105, 106, 107, 108, 109, 110, 111, 112, 113, 114, 115, 116, 117, 118, 119, 120, 121, 122, 48, 49, 50, 51, 52, 53, 54, 55, 56, 57, 46, 47])[m]'hh).toNat : Int) == c) = (letterL.take (m + 1)).any fun x => x == c := by
  have hl : letterL.length = 38 := rfl
  rw [List.take_succ_eq_append_getElem (by omega), List.any_append, ← h, Bool.false_or]
  simp only [List.any_cons, List.any_nil, Bool.or_false]
  have e : letterL[m]? = some ((((ByteArray.mk #[97, 98, 99, 100, 101, 102, 103, 104, 105, 106, 107, 108, 109, 110, 111, 112, 113, 114, 115, 116, 117, 118, 119, 120, 121, 122, 48, 49, 50, 51, 52, 53, 54, 55, 56, 57, 46, 47])[m]'hh).toNat : Int)) := by
    rw [letter_eq, List.getElem?_map, Array.getElem?_toList]
    have : (#[97, 98, 99, 100, 101, 102, 103, 104, 105, 106, 107, 108, 109, 110, 111, 112, 113, 114, 115, 116, 117, 118, 119, 120, 121, 122, 48, 49, 50, 51, 52, 53, 54, 55, 56, 57, 46, 47] : Array UInt8)[m]? = some ((ByteArray.mk #[97, 98, 99, 100, 101, 102, 103, 104, 105, 106, 107, 108, 109, 110, 111, 112, 113, 114, 115, 116, 117, 118, 119, 120, 121, 122, 48, 49, 50, 51, 52, 53, 54, 55, 56, 57, 46, 47])[m]'hh) := Array.getElem?_eq_getElem hh
    rw [this]; rfl
  have e2 : letterL[m]'(by omega) = ((((ByteArray.mk #[97, 98, 99, 100, 101, 102, 103, 104, 105, 106, 107, 108, 109, 110, 111, 112, 113, 114, 115, 116, 117, 118, 119, 120, 121, 122, 48, 49, 50, 51, 52, 53, 54, 55, 56, 57, 46, 47])[m]'hh).toNat : Int)) := by
    have := List.getElem?_eq_getElem (l := letterL) (i := m) (by omega)
    rw [this] at e
    exact Option.some.inj e
  rw [e2]
theorem let_true (m : Nat) (c : Int) (h : true = (letterL.take m).any fun x => x == c) (hm : m < 38) : true = (letterL.take (m + 1)).any fun x => x == c := by
  have hl : letterL.length = 38 := rfl
  rw [List.take_succ_eq_append_getElem (by omega), List.any_append, ← h, Bool.true_or]
set_option maxHeartbeats 1000000 in
set_option maxRecDepth 100000 in
theorem word_any (s : ByteArray) (w : World) (hs : s.size ≤ maxLen) :
    Calls Tryz.prog 112 #[.string s] w fun e w' => e = .returned (.bool (wordB s)) ∧ Below w.heap.size w w' := by
  unfold maxLen at hs
  go_enter Tryz.func112, Tryz.ntmps112
  go_wp2
  go_loopw [3] (fun i wr => ∃ k : Nat, i = .int .i64 k ∧ k ≤ s.size ∧ k ≤ 21 ∧ ((byteL s).take k).all isLet = true ∧ Below w.heap.size w wr) (fun i _ => s.size - (intOf i).toNat)
  case atStart => exact ⟨0, rfl, by omega, by omega, rfl, Below.refl _ _⟩
  case round =>
    obtain ⟨k, rfl, hk, hk21, hall, hbel⟩ := hrel
    have HA := hid hall
    clear hall
    by_cases hgo : k < s.size ∧ k ≤ 20
    · obtain ⟨hlt, h20⟩ := hgo
      have hlt' : (k : Int) < (s.size : Int) := by omega
      go_wp2
      go_loopw [4, 5] (fun t j wr => ∃ (m : Nat), j = .int .i64 m ∧ m ≤ 38 ∧ t = .bool ((letterL.take m).any (· == (s[k].toNat : Int))) ∧ Below w.heap.size w wr) (fun _ j _ => 38 - (intOf j).toNat)
      case atStart => exact ⟨0, rfl, by omega, rfl, hbel⟩
      case round =>
        clear hbel
        obtain ⟨m, rfl, hm, rfl, hbel⟩ := hrel
        by_cases hm38 : m < 38
        · obtain ⟨t, ht⟩ : ∃ t, t = (letterL.take m).any (· == (s[k].toNat : Int)) := ⟨_, rfl⟩
          rw [← ht]
          have HT := hid ht
          clear ht
          cases t with
          | true =>
            go_wp2
            go_quiet (fail)
            go_wp2
            go_roundw
            case rel => exact ⟨m + 1, by go_num, by omega, congrArg Value.bool (let_true m _ HT.out hm38), hbel.trans ⟨rfl, rfl, rfl, Nat.le_refl _, fun _ _ => rfl⟩⟩
            case measure => simp [intOf]; omega
          | false =>
            go_wp2
            go_quiet (fail)
            go_wp2
            go_roundw
            case rel => exact ⟨m + 1, by go_num, by omega, congrArg Value.bool (let_step m hm38 _ HT.out _), hbel.trans ⟨rfl, rfl, rfl, Nat.le_refl _, fun _ _ => rfl⟩⟩
            case measure => simp [intOf]; omega
        · have hm' : m = 38 := by omega
          subst hm'
          have ht0 : letterL.take 38 = letterL := rfl
          rw [ht0]
          have hstep : ((byteL s).take (k + 1)).all isLet = (letterL.any fun x => x == (s[k].toNat : Int)) := by
            rw [byteL_take s k hlt, List.all_append, HA.out]; simp [isLet]
          obtain ⟨t, ht⟩ : ∃ t, t = letterL.any fun x => x == (s[k].toNat : Int) := ⟨_, rfl⟩
          rw [← ht] at hstep ⊢
          have HS := hid hstep
          clear ht hstep
          cases t with
          | true =>
            go_wp2
            go_roundw
            case rel => exact ⟨k + 1, by go_num, by omega, by omega, HS.out, hbel⟩
            case measure => simp [intOf]; omega
          | false =>
            have HF : Hid (wordB s = false) := by
              show _ = _
              unfold wordB
              have : (byteL s).all isLet = false := by
                have h1 : byteL s = (byteL s).take (k + 1) ++ (byteL s).drop (k + 1) := (List.take_append_drop _ _).symm
                rw [h1, List.all_append, HS.out]; rfl
              rw [this]; simp
            go_wp2
            go_ret
            exact ⟨ret_bool HF.out.symm, hbel⟩
    · by_cases hlt : k < s.size
      · have h21 : k = 21 := by omega
        subst h21
        have hlt' : ((21 : Nat) : Int) < (s.size : Int) := by omega
        have HF : Hid (wordB s = false) := by show _ = _; unfold wordB; rw [decide_eq_false (by omega)]; rfl
        have h1 : (1 : Int) ≤ (s.size : Int) := by omega
        have h2 : decide ((s.size : Int) ≤ 20) = false := by simp; omega
        go_wp2
        go_ret
        exact ⟨ret_bool HF.out.symm, hbel⟩
      · have hks : k = s.size := by omega
        have hal : (byteL s).all isLet = true := by have := HA.out; rw [hks, List.take_of_length_le (by rw [byteL_len]; omega)] at this; exact this
        have hge : decide ((k : Int) < (s.size : Int)) = false := by simp; omega
        by_cases h1 : 1 ≤ s.size
        · have HF : Hid (wordB s = decide ((s.size : Int) ≤ 20)) := by
            show _ = _; unfold wordB; rw [hal, Bool.and_true]; exact decide_eq_decide.2 ⟨fun h => by omega, fun h => ⟨h1, by omega⟩⟩
          have h1' : (1 : Int) ≤ (s.size : Int) := by omega
          clear hal hks
          go_wp2
          go_ret
          exact ⟨ret_bool HF.out.symm, hbel⟩
        · have HF : Hid (wordB s = false) := by show _ = _; unfold wordB; rw [decide_eq_false (by omega)]; rfl
          have h1' : decide ((1 : Int) ≤ (s.size : Int)) = false := by simp; omega
          clear hal hks
          go_wp2
          go_ret
          exact ⟨ret_bool HF.out.symm, hbel⟩

end Go.Proofs.YtooinlilplecpaaGreatDoor
