/- What the reference's counted gives, as a plain function, and its contract. -/
import Derived.Test.YtooinlilplecpabBC
namespace Go.Proofs.Ytooinlilplecpab
open Go.RowKit

/-- What Add, Sub, Div give, of numbers below 1000. -/
def cnt (code x y : Int) : Int := if code = 3 then x / y else if code = 2 then (x - y) % 1000 else (x + y) % 1000

theorem cnt_div (x y n : Int) (hy : 0 < y) (h1 : n * y ≤ x) (h2 : ¬ (n + 1) * y ≤ x) : cnt 3 x y = n := by
  unfold cnt
  rw [if_pos rfl]
  have a1 : n ≤ x / y := (Int.le_ediv_iff_mul_le hy).2 h1
  have a2 : x / y < n + 1 := (Int.ediv_lt_iff_lt_mul hy).2 (by omega)
  omega

end Go.Proofs.Ytooinlilplecpab
