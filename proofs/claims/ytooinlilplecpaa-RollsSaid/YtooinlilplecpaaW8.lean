/- Contracts of unfold.PutTable, unfold.GetTable and unfold.At: they hand on what table.Put, table.Get and table.At give. -/
import Derived.Test.YtooinlilplecpaaW7
namespace Go.Proofs.Ytooinlilplecpaa
open Go.RowKit

set_option maxHeartbeats 400000 in
theorem PutTable_any (a : Option Addr) (len cap : Nat) (l : List (Int × Int)) (w : World) (hr : RdS w a len cap l) :
    Calls Try.prog 6 #[.slice a len cap] w fun e w' => ∃ v, e = .returned (.tuple #[v, .int .i64 (putT l).2]) ∧
      w'.ownsRow w.heap.size 5 1 v (putT l).1.length (u8s (putT l).1) ∧ Below w.heap.size w w' := by
  have HC := hid (put_any a len cap l w hr)
  go_enter Try.func6, Try.ntmps6
  go_wp2_with (go_at_call 9; refine HC.out.mono ?_; rintro e w1 ⟨v, rfl, ho, hb⟩)
  go_ret2
  exact ⟨_, rfl, ho, hb⟩

set_option maxHeartbeats 400000 in
theorem GetTable_any (a : Option Addr) (len cap : Nat) (bs : List Int) (at0 : Int) (w : World) (hr : Rd .u8 w a len cap bs) (hx : ∀ j, 0 ≤ bs.getD j 0 ∧ bs.getD j 0 ≤ 255) :
    Calls Try.prog 7 #[.slice a len cap, .int .i64 at0] w fun e w' =>
      ∃ v, e = .returned (.tuple #[v, .int .i64 (getT bs at0).2.1, .int .i64 (getT bs at0).2.2]) ∧
        w'.ownsRow w.heap.size 33 2 v (getT bs at0).1.length (flat (getT bs at0).1) ∧ Below w.heap.size w w' := by
  have HC := hid (tget_any a len cap bs at0 w hr hx)
  go_enter Try.func7, Try.ntmps7
  go_wp2_with (go_at_call 10; refine HC.out.mono ?_; rintro e w1 ⟨v, rfl, ho, hb⟩)
  go_ret3
  exact ⟨_, rfl, ho, hb⟩

set_option maxHeartbeats 400000 in
theorem At_any (a : Option Addr) (len cap : Nat) (l : List (Int × Int)) (pc : Int) (w : World) (hr : RdS w a len cap l) (hpc : pc ≤ 9223372036854775807) :
    Calls Try.prog 11 #[.slice a len cap, .int .i64 pc] w fun e w' => e = .returned (.tuple #[.int .i64 (atT l pc).1, .int .i64 (atT l pc).2]) ∧ Below w.heap.size w w' := by
  have HC := hid (at_any a len cap l pc w hr hpc)
  go_enter Try.func11, Try.ntmps11
  go_wp2_with (go_at_call 16; refine HC.out.mono ?_; rintro e w1 ⟨rfl, hb⟩)
  go_ret2
  exact ⟨rfl, hb⟩

end Go.Proofs.Ytooinlilplecpaa
