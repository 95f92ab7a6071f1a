/- The contract of the law's own function looked: where a table tells just these values, it returns true; nothing that was there is written. -/
import Derived.Test.YtooinlilplecpaaM2
import Derived.Deep.QuietTactic
import Derived.BigQuiet
namespace Go.Proofs.Ytooinlilplecpaa
open Go.RowKit

set_option maxHeartbeats 1000000 in
set_option maxRecDepth 100000 in
theorem looked_any (a : Option Addr) (len cap : Nat) (l : List (Int × Int)) (a2 : Option Addr) (len2 cap2 : Nat) (vs : List Int) (w : World) (hr : RdS w a len cap l) (hr2 : Rd .i64 w a2 len2 cap2 vs)
    (h1 : ∀ k : Nat, k < len2 → atT l (k : Int) = (vs.getD k 0, 0)) (h2 : atT l (-1) = (0, 1)) (h3 : atT l (len2 : Int) = (0, 1)) :
    Calls Try.prog 8 #[.slice a len cap, .slice a2 len2 cap2] w fun e w' => e = .returned (.bool true) ∧ Below w.heap.size w w' := by
  have hmax := hr2.hmax
  have hcap := hr2.hcap
  unfold maxLen at hmax
  have HH1 := hid h1
  have HH2 := hid h2
  have HH3 := hid h3
  clear h1 h2 h3
  have HAT : Hid (∀ (W : World) (pc : Int), Below w.heap.size w W → pc ≤ 9223372036854775807 → Calls Try.prog 11 #[.slice a len cap, .int .i64 pc] W fun e w' => e = .returned (.tuple #[.int .i64 (atT l pc).1, .int .i64 (atT l pc).2]) ∧ Below W.heap.size W w') :=
    fun W pc hb hpc => At_any a len cap l pc W (hr.below hb (Nat.le_refl _)) hpc
  go_enter Try.func8, Try.ntmps8
  go_wp2
  go_loopw [5] (fun i wr => ∃ k : Nat, i = .int .i64 k ∧ k ≤ len2 ∧ Below w.heap.size w wr) (fun i _ => len2 - (intOf i).toNat)
  case atStart => exact ⟨0, rfl, by omega, Below.refl _ _⟩
  case round =>
    obtain ⟨k, rfl, hk, hbel⟩ := hrel
    have hsz := hbel.size
    by_cases hlt : k < len2
    · have hat := HAT.out wr (k : Int) hbel (by omega)
      rw [HH1.out k hlt] at hat
      obtain ⟨x, hx⟩ : ∃ x, x = vs.getD k 0 := ⟨_, rfl⟩
      rw [← hx] at hat
      have HA := hid hat
      obtain ⟨b0, off, rfl, hc⟩ := hr2.open (by omega)
      have hck0 := hc k hlt
      rw [← hx] at hck0
      have hb0 := World.block_lt_of_cell? w _ hck0
      have hck1 := (hbel.cell (p := ⟨b0, off + k, none⟩) hb0).trans hck0
      have HC := hid hck1
      clear hat hx hc hck0 hck1 HAT HH1 HH2 HH3 hr hr2
      simp only at hb0
      go_wp2_with fail
      refine HA.out.mono ?_
      rintro e w1 ⟨rfl, hb1⟩
      have hck : w1.cell? ⟨b0, off + k, none⟩ = some (.int .i64 x) := (hb1.cell (p := ⟨b0, off + k, none⟩) (by exact Nat.lt_of_lt_of_le hb0 hsz)).trans HC.out
      go_wp2
      go_roundw
      case rel => exact ⟨k + 1, by go_num, by omega, hbel.trans (hb1.mono hsz)⟩
      case measure => simp [intOf]; omega
    · have hk' : k = len2 := by omega
      subst hk'
      have hat1 := HAT.out wr (-1) hbel (by omega)
      rw [HH2.out] at hat1
      have HA1 := hid hat1
      have HA2 : Hid (∀ W, Below w.heap.size w W → Calls Try.prog 11 #[.slice a len cap, .int .i64 (k : Int)] W fun e w' => e = .returned (.tuple #[.int .i64 0, .int .i64 1]) ∧ Below W.heap.size W w') := by
        intro W hb
        have := HAT.out W (k : Int) hb (by omega)
        rw [HH3.out] at this
        exact this
      clear hat1 HAT HH1 HH2 HH3 hr hr2
      go_wp2_with fail
      refine HA1.out.mono ?_
      rintro e w1 ⟨rfl, hb1⟩
      go_wp2_with fail
      refine (HA2.out w1 (hbel.trans (hb1.mono hsz))).mono ?_
      rintro e w2 ⟨rfl, hb2⟩
      go_wp2
      go_ret
      exact ⟨rfl, (hbel.trans (hb1.mono hsz)).trans (hb2.mono (Nat.le_trans hsz hb1.size))⟩

theorem add0 (g j : Nat) : (⟨g, 0, none⟩ : Addr).add j = ⟨g, 0 + j, none⟩ := by unfold Addr.add; split <;> simp_all
theorem rd_of_owns {k : IntKind} {w : World} {base : Nat} {e : TypeId} {v : Value} {n : Nat} {xs : List Int} (h : w.ownsRow base e 1 v n (xs.map (Value.int k))) : ∃ a cap, v = .slice a n cap ∧ Rd k w a n cap xs := by
  have hl : xs.length = n := by have := h.1; simpa using this
  have hc := fun g hg => h.cells (g := g) hg
  rcases h.2 with ⟨rfl, rfl⟩ | ⟨g, cap, cur, rfl, _, hh, h1, h2, _⟩
  · exact ⟨none, 0, rfl, hl, Nat.le_refl _, by unfold maxLen; omega, fun i hi => by omega⟩
  · refine ⟨_, cap, rfl, hl, h1, h2, fun i hi => ⟨g, 0, rfl, ?_⟩⟩
    have := hc g rfl i (.int k (xs.getD i 0)) (by simp [List.getD, hl, hi])
    rw [add0] at this
    exact this

theorem flat_get : ∀ (l : List (Int × Int)) (i : Nat), i < l.length → (flat l)[i * 2]? = some (.int .i64 (l.getD i (0, 0)).1) ∧ (flat l)[i * 2 + 1]? = some (.int .i64 (l.getD i (0, 0)).2)
  | [], i, h => by simp at h
  | p :: t, 0, _ => by simp [flat]
  | p :: t, i + 1, h => by
    have := flat_get t i (by simpa using h)
    have e : flat (p :: t) = Value.int .i64 p.1 :: Value.int .i64 p.2 :: flat t := by simp [flat]
    have e1 : (i + 1) * 2 = i * 2 + 1 + 1 := by omega
    rw [e, e1]
    simpa using this

theorem rds_of_owns {w : World} {base : Nat} {e : TypeId} {v : Value} {n : Nat} {l : List (Int × Int)} (h : w.ownsRow base e 2 v n (flat l)) : ∃ a cap, v = .slice a n cap ∧ RdS w a n cap l := by
  have hl : l.length = n := by have := h.1; rw [flat_len] at this; omega
  have hc := fun g hg => h.cells (g := g) hg
  rcases h.2 with ⟨rfl, rfl⟩ | ⟨g, cap, cur, rfl, _, hh, h1, h2, _⟩
  · exact ⟨none, 0, rfl, hl, Nat.le_refl _, by unfold maxLen; omega, fun i hi => by omega⟩
  · refine ⟨_, cap, rfl, hl, h1, h2, fun i hi => ⟨g, 0, rfl, ?_, ?_⟩⟩
    · have := hc g rfl (i * 2) _ (flat_get l i (by omega)).1
      rw [add0] at this
      exact this
    · have := hc g rfl (i * 2 + 1) _ (flat_get l i (by omega)).2
      rw [add0, ← Nat.add_assoc] at this
      exact this
end Go.Proofs.Ytooinlilplecpaa
