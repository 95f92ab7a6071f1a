/- The contract of unfoldkeep.pick: for whatever integer it gives its fold into the numbers below n, the world being left as it was. -/
import Derived.Test.YtooinlilplecpabBW
namespace Go.Proofs.Ytooinlilplecpab
open Go.RowKit

def pickI (c n : Int) : Int := (if c < 0 then -(c + 1) else c) % n

set_option maxHeartbeats 400000 in
theorem pick_any (c n : Int) (w : World) (h1 : -9223372036854775808 ≤ c) (h2 : c ≤ 9223372036854775807) (h3 : 0 < n) (h4 : n ≤ 1000000) :
    Calls Try.prog 6 #[.int .i64 c, .int .i64 n] w fun e w' => e = .returned (.int .i64 (pickI c n)) ∧ w' = w := by
  by_cases h : c < 0
  · obtain ⟨m, hm⟩ : ∃ m : Int, m = -(c + 1) := ⟨_, rfl⟩
    have hc : c = -(m + 1) := by omega
    clear hm
    subst hc
    have hm0 : 0 ≤ m := by omega
    have e1 : pickI (-(m + 1)) n = m % n := by unfold pickI; rw [if_pos h]; congr 1; omega
    have e2 : -(-(m + 1) + 1) = m := by omega
    rw [e1]
    go_enter Try.func6, Try.ntmps6
    go_wp2
    go_ret
    exact ⟨rfl, rfl⟩
  · have e1 : pickI c n = c % n := by unfold pickI; rw [if_neg h]
    have h0 : 0 ≤ c := by omega
    go_enter Try.func6, Try.ntmps6
    go_wp2
    go_ret
    exact ⟨rfl, rfl⟩

end Go.Proofs.Ytooinlilplecpab
