/- Contract of the statement's own sameFrames. -/
import Derived.Test.YtooinlilplecpabR3
import Derived.Test.YtooinlilplecpabH4
namespace Go.Proofs.Ytooinlilplecpab
open Go.RowKit

/-- A frame that is told. -/
structure FrameD where
  func : ByteArray
  file : ByteArray
  line : Int
def frCells (x : FrameD) : List Value := [.string x.func, .string x.file, .int .i64 x.line]
def RdFrame (_ : World) (cs : List Value) (x : FrameD) : Prop := cs = frCells x

theorem RdL.frameAt {w : World} {a : Option Addr} {n cap : Nat} {l : List FrameD} (h : RdL 3 RdFrame w a n cap l) (i : Nat) (x : FrameD) (hx : l[i]? = some x) :
    ∃ b off, a = some ⟨b, off, none⟩ ∧ w.cell? ⟨b, off + i * 3, none⟩ = some (.string x.func) ∧ w.cell? ⟨b, off + i * 3 + 1, none⟩ = some (.string x.file) ∧ w.cell? ⟨b, off + i * 3 + 2, none⟩ = some (.int .i64 x.line) := by
  obtain ⟨b, off, cs, e, _, hc, rfl⟩ := h.2.2.2 i x hx
  exact ⟨b, off, e, hc 0 _ rfl, hc 1 _ rfl, hc 2 _ rfl⟩

end Go.Proofs.Ytooinlilplecpab
