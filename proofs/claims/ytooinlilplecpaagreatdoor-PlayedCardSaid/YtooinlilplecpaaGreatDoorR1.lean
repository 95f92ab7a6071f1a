/- What the reference's counted gives, as a plain function, and its contract. -/
import Derived.Test.YtooinlilplecpaaGreatDoorC4
namespace Go.Proofs.YtooinlilplecpaaGreatDoor
open Go.RowKit

/-- What Add, Sub, Div give, of numbers below 1000. -/
def cnt (code x y : Int) : Int := if code = 3 then x / y else if code = 2 then (x - y) % 1000 else (x + y) % 1000

theorem cnt_div (x y n : Int) (hy : 0 < y) (h1 : n * y ≤ x) (h2 : ¬ (n + 1) * y ≤ x) : cnt 3 x y = n := by
  unfold cnt
  rw [if_pos rfl]
  have a1 : n ≤ x / y := (Int.le_ediv_iff_mul_le hy).2 h1
  have a2 : x / y < n + 1 := (Int.ediv_lt_iff_lt_mul hy).2 (by omega)
  omega

set_option maxHeartbeats 2000000 in
set_option maxRecDepth 100000 in
theorem counted_any (code x y : Int) (w : World) (hx0 : 0 ≤ x) (hx1 : x < 1000) (hy0 : 0 ≤ y) (hy1 : y < 1000) (hd : code = 3 → y ≠ 0) :
    Calls Tryz.prog 180 #[.int .i64 code, .int .i64 x, .int .i64 y] w fun e w' => e = .returned (.int .i64 (cnt code x y)) ∧ w' = w := by
  by_cases h3 : code = 3
  · subst h3
    have hy : 0 < y := by have := hd rfl; omega
    go_enter Tryz.func180, Tryz.ntmps180
    go_wp2
    go_loopw [7] (fun i wr => ∃ n : Nat, i = .int .i64 n ∧ (n : Int) * y ≤ x ∧ wr = w) (fun i _ => x.toNat - (intOf i).toNat)
    case atStart => exact ⟨0, rfl, by simpa using hx0, rfl⟩
    case round =>
      obtain ⟨n, rfl, hn, rfl⟩ := hrel
      have hnx : (n : Int) ≤ x := Int.le_trans (by have := Int.mul_le_mul_of_nonneg_left (show (1 : Int) ≤ y by omega) (show (0 : Int) ≤ n by omega); omega) hn
      have he : ((n : Int) + 1) * y = (n : Int) * y + y := by rw [Int.add_mul, Int.one_mul]
      have hn0 : 0 ≤ (n : Int) * y := Int.mul_nonneg (by omega) hy0
      have hb1 : -9223372036854775808 ≤ ((n : Int) + 1) * y := by rw [he]; omega
      have hb2 : ((n : Int) + 1) * y ≤ 9223372036854775807 := by rw [he]; omega
      by_cases hc : ((n : Int) + 1) * y ≤ x
      · have hlt : (n : Int) + 1 ≤ x := Int.le_trans (by have := Int.mul_le_mul_of_nonneg_left (show (1 : Int) ≤ y by omega) (show (0 : Int) ≤ (n : Int) + 1 by omega); omega) hc
        clear he
        go_wp2
        go_roundw
        case rel => exact ⟨n + 1, by go_num, by simpa using hc, by trivial⟩
        case measure => simp [intOf]; omega
      · have hr := cnt_div x y n hy hn hc
        clear he
        go_wp2
        go_ret
        try rw [hr]
        exact ⟨rfl, rfl⟩
  · by_cases h2 : code = 2
    · subst h2
      by_cases hs : x - y < 0
      · have hr : cnt 2 x y = x - y + 1000 := by unfold cnt; rw [if_neg (by decide), if_pos rfl]; omega
        have q1 : ¬ (x - y + 1000 < 0) := by omega
        have q2 : ¬ (1000 ≤ x - y + 1000) := by omega
        go_enter Tryz.func180, Tryz.ntmps180
        go_wp2
        refine wp_loop_rounds 2 ?_
        rw [rounds_succ]
        go_wp2
        rw [rounds_succ]
        go_wp2
        refine wp_loop_rounds 1 ?_
        rw [rounds_succ]
        go_wp2
        go_ret
        try rw [hr]
        exact ⟨rfl, rfl⟩
      · have hr : cnt 2 x y = x - y := by unfold cnt; rw [if_neg (by decide), if_pos rfl]; omega
        have q2 : ¬ (1000 ≤ x - y) := by omega
        go_enter Tryz.func180, Tryz.ntmps180
        go_wp2
        refine wp_loop_rounds 1 ?_
        rw [rounds_succ]
        go_wp2
        refine wp_loop_rounds 1 ?_
        rw [rounds_succ]
        go_wp2
        go_ret
        try rw [hr]
        exact ⟨rfl, rfl⟩
    · have q0 : ¬ (x + y < 0) := by omega
      by_cases hs : 1000 ≤ x + y
      · have hr : cnt code x y = x + y - 1000 := by unfold cnt; rw [if_neg h3, if_neg h2]; omega
        have q2 : ¬ (1000 ≤ x + y - 1000) := by omega
        go_enter Tryz.func180, Tryz.ntmps180
        go_wp2
        refine wp_loop_rounds 1 ?_
        rw [rounds_succ]
        go_wp2
        refine wp_loop_rounds 2 ?_
        rw [rounds_succ]
        go_wp2
        rw [rounds_succ]
        go_wp2
        go_ret
        try rw [hr]
        exact ⟨rfl, rfl⟩
      · have hr : cnt code x y = x + y := by unfold cnt; rw [if_neg h3, if_neg h2]; omega
        go_enter Tryz.func180, Tryz.ntmps180
        go_wp2
        refine wp_loop_rounds 1 ?_
        rw [rounds_succ]
        go_wp2
        refine wp_loop_rounds 1 ?_
        rw [rounds_succ]
        go_wp2
        go_ret
        try rw [hr]
        exact ⟨rfl, rfl⟩
end Go.Proofs.YtooinlilplecpaaGreatDoor
