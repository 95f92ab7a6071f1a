/- Contract of the statement's own sameFrames. -/
import Derived.Test.YtooinlilplecpaaGreatDoorR3
import Derived.Test.YtooinlilplecpaaGreatDoorH4
namespace Go.Proofs.YtooinlilplecpaaGreatDoor
open Go.RowKit

/-- A frame that is told. -/
structure FrameD where
  func : ByteArray
  file : ByteArray
  line : Int
def frCells (x : FrameD) : List Value := [.string x.func, .string x.file, .int .i64 x.line]
def RdFrame (_ : World) (cs : List Value) (x : FrameD) : Prop := cs = frCells x

theorem RdL.frameAt {w : World} {a : Option Addr} {n cap : Nat} {l : List FrameD} (h : RdL 3 RdFrame w a n cap l) (i : Nat) (x : FrameD) (hx : l[i]? = some x) :
    ∃ b off, a = some ⟨b, off, none⟩ ∧ w.cell? ⟨b, off + i * 3, none⟩ = some (.string x.func) ∧ w.cell? ⟨b, off + i * 3 + 1, none⟩ = some (.string x.file) ∧ w.cell? ⟨b, off + i * 3 + 2, none⟩ = some (.int .i64 x.line) := by
  obtain ⟨b, off, cs, e, _, hc, rfl⟩ := h.2.2.2 i x hx
  exact ⟨b, off, e, hc 0 _ rfl, hc 1 _ rfl, hc 2 _ rfl⟩

set_option maxHeartbeats 2000000 in
set_option maxRecDepth 100000 in
theorem sameFrames_any (a : Option Addr) (n cap : Nat) (l : List FrameD) (a2 : Option Addr) (cap2 : Nat) (w : World) (hr : RdL 3 RdFrame w a n cap l) (hr2 : RdL 3 RdFrame w a2 n cap2 l) :
    Calls Tryz.prog 52 #[.slice a n cap, .slice a2 n cap2] w fun e w' => e = .returned (.bool true) ∧ Below w.heap.size w w' := by
  have HL := hid hr.1
  have h1 := hr.2.1
  have h2 := hr.2.2.1
  have h3 := hr2.2.1
  have h4 := hr2.2.2.1
  unfold maxLen at h2 h4
  have HR := hid hr
  have HR2 := hid hr2
  clear hr hr2
  go_enter Tryz.func52, Tryz.ntmps52
  go_wp2
  go_loopw [5] (fun i wr => ∃ j : Nat, i = .int .i64 j ∧ j ≤ n ∧ Below w.heap.size w wr) (fun i _ => n - (intOf i).toNat)
  case atStart => exact ⟨0, rfl, by omega, Below.refl _ _⟩
  case round =>
    obtain ⟨j, rfl, hj, hb2⟩ := hrel
    by_cases hlt2 : j < n
    · obtain ⟨x, hx⟩ : ∃ x, l[j]? = some x := ⟨_, List.getElem?_eq_getElem (by rw [HL.out]; exact hlt2)⟩
      obtain ⟨xb, xoff, rfl, c0, c1, c2⟩ := (HR.out.below hb2 (fun _ _ h => h)).frameAt j x hx
      obtain ⟨yb, yoff, rfl, d0, d1, d2⟩ := (HR2.out.below hb2 (fun _ _ h => h)).frameAt j x hx
      have hjn : (j : Int) < (n : Int) := by omega
      clear hx
      obtain ⟨s1, s2, i3⟩ := x
      simp only at c0 c1 c2 d0 d1 d2
      go_wp2
      go_quiet (fail)
      go_wp2
      go_roundw
      case rel => exact ⟨j + 1, by go_num, by omega, below_drawn hb2 nq⟩
      case measure => simp [intOf]; omega
    · go_wp2
      go_ret
      exact ⟨rfl, hb2⟩
end Go.Proofs.YtooinlilplecpaaGreatDoor
