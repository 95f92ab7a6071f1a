/- Contracts of table.At and table.Put: they give what the plain functions give; what comes out lies in a row of the call's own; nothing that was there is written. -/
import Derived.Test.YtooinlilplecpaaW7a
namespace Go.Proofs.Ytooinlilplecpaa
open Go.RowKit

/-- The relation of table.At's loop. -/
def RelA (w : World) (l : List (Int × Int)) (pc0 : Int) (pc i : Value) (wr : World) : Prop :=
  ∃ (k : Nat) (q : Int), pc = .int .i64 q ∧ i = .int .i64 k ∧ k ≤ l.length ∧ 0 ≤ q ∧ q ≤ 9223372036854775807 ∧ atS l pc0 = atS (l.drop k) q ∧ Below w.heap.size w wr

set_option maxHeartbeats 1000000 in
set_option maxRecDepth 100000 in
theorem at_any (a : Option Addr) (len cap : Nat) (l : List (Int × Int)) (pc : Int) (w : World) (hr : RdS w a len cap l) (hpc : pc ≤ 9223372036854775807) :
    Calls Try.prog 16 #[.slice a len cap, .int .i64 pc] w fun e w' => e = .returned (.tuple #[.int .i64 (atT l pc).1, .int .i64 (atT l pc).2]) ∧ Below w.heap.size w w' := by
  have HL := hid hr.hlen
  have hmax := hr.hmax
  have hcap := hr.hcap
  unfold maxLen at hmax
  have hw0 := wellFormed_any a len cap l w hr
  by_cases hwf : wfT l = false
  · have HF : Hid (atT l pc = (0, 4)) := by show _ = _; unfold atT; rw [if_pos hwf]
    rw [hwf] at hw0
    have HW := hid hw0
    clear hw0 hwf
    go_enter Try.func16, Try.ntmps16
    go_wp2_with (go_at_call 12; refine HW.out.mono ?_; rintro e w1 ⟨rfl, hb⟩)
    go_ret2
    exact ⟨ret_two HF.out, hb⟩
  · have hwt : wfT l = true := by simpa using hwf
    rw [hwt] at hw0
    have HW := hid hw0
    by_cases hp : pc < 0
    · have HF : Hid (atT l pc = (0, 1)) := by show _ = _; unfold atT; rw [if_neg hwf, if_pos hp]
      clear hw0 hwf hwt
      go_enter Try.func16, Try.ntmps16
      go_wp2_with (go_at_call 12; refine HW.out.mono ?_; rintro e w1 ⟨rfl, hb⟩)
      go_ret2
      exact ⟨ret_two HF.out, hb⟩
    · have HF : Hid (atT l pc = atS l pc) := by show _ = _; unfold atT; rw [if_neg hwf, if_neg hp]
      have hws : wfS l (-1) 1000 = true := by unfold wfT at hwt; rw [Bool.and_eq_true] at hwt; exact hwt.1
      have HWS := hid hws
      have hp' : 0 ≤ pc := by omega
      clear hw0 hwf hwt hws hp
      go_enter Try.func16, Try.ntmps16
      go_wp2_with (go_at_call 12; refine HW.out.mono ?_; rintro e w1 ⟨rfl, hb⟩)
      clear HW
      go_loopw [1, 15] (fun q i wr => RelA w l pc q i wr) (fun _ i _ => len - (intOf i).toNat)
      case atStart => exact ⟨0, pc, rfl, rfl, by omega, hp', hpc, rfl, hb⟩
      case round =>
        clear hb
        obtain ⟨k, q, rfl, rfl, hk, hq0, hq1, hA, hbel⟩ := hrel
        rw [HL.out] at hk
        have hsz := hbel.size
        by_cases hlt : k < len
        · obtain ⟨b0, off, rfl, hc⟩ := (hr.below hbel (Nat.le_refl _)).open (by omega)
          obtain ⟨hc1, hc2⟩ := hc k hlt
          have hlt' : k < l.length := by rw [HL.out]; exact hlt
          have hb0 := World.block_lt_of_cell? wr _ hc1
          have hat := wfS_at l (-1) 1000 k HWS.out (by omega) hlt'
          have e : atS (l.drop k) q = if q < (l.getD k (0, 0)).2 then ((l.getD k (0, 0)).1, 0) else atS (l.drop (k + 1)) (q - (l.getD k (0, 0)).2) := by
            rw [drop_getD l k (0, 0) hlt']; rfl
          obtain ⟨⟨v, n⟩, hp⟩ : ∃ p, l.getD k (0, 0) = p := ⟨_, rfl⟩
          rw [hp] at hc1 hc2 e hat
          simp only at hc1 hc2 e hb0 hat
          obtain ⟨d1, d2, d3, d4⟩ := hat
          clear hr hc hp
          by_cases hqn : q < n
          · have HF2 : Hid (atT l pc = (v, 0)) := by show _ = _; rw [HF.out, hA, e, if_pos hqn]
            clear e hA HF
            go_wp2
            go_ret2
            exact ⟨ret_two HF2.out, hbel.alloc hsz _⟩
          · rw [if_neg hqn] at e
            have HA := hid (hA.trans e)
            clear e hA
            go_wp2
            go_roundw
            case rel => exact ⟨k + 1, q - n, rfl, by go_num, by omega, by omega, by omega, HA.out, hbel.alloc hsz _⟩
            case measure => simp [intOf]; omega
        · have HF2 : Hid (atT l pc = (0, 1)) := by show _ = _; rw [HF.out, hA, List.drop_of_length_le (by rw [HL.out]; omega)]; rfl
          clear hA HF
          go_wp2
          go_ret2
          exact ⟨ret_two HF2.out, hbel⟩

set_option maxHeartbeats 1000000 in
set_option maxRecDepth 100000 in
theorem put_any (a : Option Addr) (len cap : Nat) (l : List (Int × Int)) (w : World) (hr : RdS w a len cap l) :
    Calls Try.prog 9 #[.slice a len cap] w fun e w' => ∃ v, e = .returned (.tuple #[v, .int .i64 (putT l).2]) ∧
      w'.ownsRow w.heap.size 5 1 v (putT l).1.length (u8s (putT l).1) ∧ Below w.heap.size w w' := by
  have hw0 := wellFormed_any a len cap l w hr
  by_cases hwf : wfT l = false
  · have HF : Hid (putT l = ([], 4)) := by show _ = _; unfold putT; rw [if_pos hwf]
    rw [hwf] at hw0
    have HW := hid hw0
    clear hw0 hwf
    go_enter Try.func9, Try.ntmps9
    go_wp2_with (go_at_call 12; refine HW.out.mono ?_; rintro e w1 ⟨rfl, hb⟩)
    go_ret2
    rw [HF.out]
    exact ⟨_, rfl, World.ownsRow_nil _ _ _ _, hb⟩
  · have hwt : wfT l = true := by simpa using hwf
    rw [hwt] at hw0
    have HW := hid hw0
    have HF : Hid (putT l = (putS l (-1), 0)) := by show _ = _; unfold putT; rw [if_neg hwf]
    have HB := hid (fun (W : World) (h : Below w.heap.size w W) => tbytes_any a len cap l W (hr.below h (Nat.le_refl _)) hwt)
    clear hw0 hwf hwt hr
    go_enter Try.func9, Try.ntmps9
    go_wp2_with (go_at_call 12; refine HW.out.mono ?_; rintro e w1 ⟨rfl, hb⟩)
    go_wp2_with (go_at_call 13; refine (HB.out _ hb).mono ?_; rintro e w2 ⟨v, rfl, ho, hb2⟩)
    go_ret2
    rw [HF.out]
    exact ⟨_, rfl, owns_low7 ho hb.size, hb.trans (hb2.mono hb.size)⟩
end Go.Proofs.Ytooinlilplecpaa
