/- Contracts of the small functions of numbers and tables that only compute: what each gives back for whatever integers in its range, the world being left as it was. -/
import Derived.Test.YtooinlilplecpaaGreatDoorRows
import Derived.WalkKit
import Derived.WalkSpells
import Derived.WalkLawsBesides
namespace Go.Proofs.YtooinlilplecpaaGreatDoor
open Go.RowKit

theorem hid {p : Prop} (h : p) : Hid p := h
theorem ret_int {k : IntKind} {a b : Int} (h : a = b) : Ending.returned (.int k a) = .returned (.int k b) := by rw [h]
theorem ret_bool {a b : Bool} (h : a = b) : Ending.returned (.bool a) = .returned (.bool b) := by rw [h]

def isV (v : Int) : Bool := decide (0 ≤ v ∧ v ≤ 9999)

set_option maxHeartbeats 400000 in
theorem isValue_any (v : Int) (w : World) :
    Calls Tryz.prog 188 #[.int .i64 v] w fun e w' => e = .returned (.bool (isV v)) ∧ w' = w := by
  by_cases h : 0 ≤ v
  · have e1 : isV v = decide (v ≤ 9999) := by simp [isV, h]
    have E : Hid (isV v = decide (v ≤ 9999)) := e1
    clear e1
    go_enter Tryz.func188, Tryz.ntmps188
    go_wp2
    go_ret
    exact ⟨ret_bool E.out.symm, rfl⟩
  · have e1 : isV v = false := by simp [isV, h]
    have E : Hid (isV v = false) := e1
    have hf : decide (0 ≤ v) = false := by simpa using h
    clear e1
    go_enter Tryz.func188, Tryz.ntmps188
    go_wp2
    go_ret
    exact ⟨ret_bool E.out.symm, rfl⟩

def zig (d : Int) : Int := if 0 ≤ d then 2 * d else -2 * d - 1
def zag (n : Int) : Int := if n % 2 = 0 then n / 2 else -(n / 2) - 1

set_option maxHeartbeats 400000 in
theorem fromSigned_any (d : Int) (w : World) (h1 : -100000 ≤ d) (h2 : d ≤ 100000) :
    Calls Tryz.prog 189 #[.int .i64 d] w fun e w' => e = .returned (.int .i64 (zig d)) ∧ w' = w := by
  by_cases h : 0 ≤ d
  · have E : Hid (zig d = 2 * d) := by unfold zig; exact if_pos h
    go_enter Tryz.func189, Tryz.ntmps189
    go_wp2
    go_ret
    exact ⟨ret_int E.out.symm, rfl⟩
  · have E : Hid (zig d = -2 * d - 1) := by unfold zig; exact if_neg h
    go_enter Tryz.func189, Tryz.ntmps189
    go_wp2
    go_ret
    exact ⟨ret_int E.out.symm, rfl⟩

set_option maxHeartbeats 400000 in
theorem toSigned_any (n : Int) (w : World) (h1 : 0 ≤ n) (h2 : n ≤ 1099511627776) :
    Calls Tryz.prog 190 #[.int .i64 n] w fun e w' => e = .returned (.int .i64 (zag n)) ∧ w' = w := by
  by_cases h : n % 2 = 0
  · have E : Hid (zag n = n / 2) := by unfold zag; exact if_pos h
    have hb : (n % 2 == 0) = true := by simp [h]
    clear h
    go_enter Tryz.func190, Tryz.ntmps190
    go_wp2
    go_ret
    exact ⟨ret_int E.out.symm, rfl⟩
  · have E : Hid (zag n = -(n / 2) - 1) := by unfold zag; exact if_neg h
    have hb : (n % 2 == 0) = false := by simp [h]
    clear h
    go_enter Tryz.func190, Tryz.ntmps190
    go_wp2
    go_ret
    exact ⟨ret_int E.out.symm, rfl⟩
end Go.Proofs.YtooinlilplecpaaGreatDoor
