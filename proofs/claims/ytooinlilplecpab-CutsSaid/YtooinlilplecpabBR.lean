/- Contract of unfoldref.entered: a Call. Contract of unfoldref.left: a Ret. Contract of unfoldref.Next: one step. Contract of unfoldref.After: so many steps. -/
import Derived.Test.YtooinlilplecpabR7
import Derived.Deep.AppendLies
import Derived.Deep.RegionLaw
import Derived.Deep.RegionHeld
namespace Go.Proofs.Ytooinlilplecpab
open Go.RowKit

end Go.Proofs.Ytooinlilplecpab
namespace Go.Proofs.Ytooinlilplecpab
open Go.RowKit

end Go.Proofs.Ytooinlilplecpab
namespace Go.Proofs.Ytooinlilplecpab
open Go.RowKit

theorem set_self_loc {l : List Int} {k : Nat} {v : Int} (h : v = (l[k]?).getD 0) : l.set k v = l := by
  by_cases hk : k < l.length
  · rw [h, List.getElem?_eq_getElem hk]
    simp
  · exact List.set_eq_of_length_le (by omega)

end Go.Proofs.Ytooinlilplecpab
namespace Go.Proofs.Ytooinlilplecpab
open Go.RowKit

end Go.Proofs.Ytooinlilplecpab
