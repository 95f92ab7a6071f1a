/- Contract of unfoldref.Begun. -/
import Derived.Test.YtooinlilplecpabR3
namespace Go.Proofs.Ytooinlilplecpab
open Go.RowKit

/-- How a run stands. -/
structure StandD where
  status : Int
  value : Int
  live : List LiveD
def RdStand (w : World) (cs : List Value) (s : StandD) : Prop :=
  ∃ a cap, cs = [.int .i64 s.status, .int .i64 s.value, .slice a s.live.length cap] ∧ RdL 3 RdLive w a s.live.length cap s.live
theorem RdStand.below {w w' : World} {cs : List Value} {s : StandD} (h : RdStand w cs s) (hb : Below w.heap.size w w') : RdStand w' cs s := by
  obtain ⟨a, cap, e, hr⟩ := h
  exact ⟨a, cap, e, hr.below hb (fun _ _ h => h.below hb)⟩

end Go.Proofs.Ytooinlilplecpab
