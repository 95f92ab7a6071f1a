/- Plain lemmas on the bytes of texts; nothing is claimed of the program here. -/
import Derived.Test.YtooinlilplecpaaGreatDoorC0
import Derived.Deep.QuietTactic
import Derived.BigQuiet
namespace Go.Proofs.YtooinlilplecpaaGreatDoor
open Go.RowKit

theorem byteL_len (s : ByteArray) : (byteL s).length = s.size := by unfold byteL; rw [List.length_map, Array.length_toList]; rfl
theorem byteL_take (s : ByteArray) (k : Nat) (h : k < s.size) : (byteL s).take (k + 1) = (byteL s).take k ++ [(s[k].toNat : Int)] := by
  have hl := byteL_len s
  rw [List.take_succ_eq_append_getElem (by omega)]
  congr 1
  simp [byteL]
  rfl

theorem below_drawn {B : Nat} {a w : World} (h : Below B a w) (n : Nat) : Below B a (w.drewN n) := h.trans ⟨rfl, rfl, rfl, Nat.le_refl _, fun _ _ => rfl⟩
end Go.Proofs.YtooinlilplecpaaGreatDoor
