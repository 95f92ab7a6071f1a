/- The statement's world where lists of frames have come out, each written full of its number; contracts of marked and looks there: the look answers true. Contract of the statement's own World.frames: a list of frames that has come out anew is written full of its number, and kept. Contracts of the statement's own write and source at a Run, where lists of frames have come out, out of a contract of unfold.Run that is taken as a premise. -/
import Derived.Test.YtooinlilplecpabBH
import Derived.Test.YtooinlilplecpabR7
import Derived.Test.YtooinlilplecpabR4
import Derived.Test.YtooinlilplecpabR12
import Derived.Test.YtooinlilplecpabR13
namespace Go.Proofs.Ytooinlilplecpab
open Go.RowKit

def mkB : ByteArray := ⟨#[109, 97, 114, 107]⟩
def markD (i : Nat) : FrameD := ⟨mkB, mkB, (i : Int)⟩
def fsW (v : Value) : Array Value := #[.slice none 0 0, .slice none 0 0, .slice none 0 0, .slice none 0 0, .slice none 0 0, v, .slice none 0 0, .slice none 0 0, .slice none 0 0]
theorem ownsRow_form {w : World} {base : Nat} {e : TypeId} {size : Nat} {v : Value} {n : Nat} {xs : List Value} (h : w.ownsRow base e size v n xs) : ∃ a cap, v = .slice a n cap ∧ n ≤ cap ∧ cap ≤ maxLen ∧ (0 < n → ∃ gv, a = some ⟨gv, 0, none⟩) := by
  rcases h.2 with ⟨rfl, rfl⟩ | ⟨g, cap, cur, rfl, _, _, h1, h2, _⟩
  · exact ⟨none, 0, rfl, Nat.le_refl _, by unfold maxLen; omega, fun h => by omega⟩
  · exact ⟨_, cap, rfl, h1, h2, fun _ => ⟨g, rfl⟩⟩

end Go.Proofs.Ytooinlilplecpab
namespace Go.Proofs.Ytooinlilplecpab
open Go.RowKit

theorem Try.infoFrames : (Try.prog.info? 32).map (fun i => (i.zero, i.size, i.bytes)) = some (some (.slice none 0 0), 1, 24) := by kernel_rfl

theorem set3 (L R : List Value) (x0 x1 x2 a b c : Value) (k : Nat) (hk : L.length = k) : (((L ++ x0 :: x1 :: x2 :: R).set k a).set (k + 1) b).set (k + 2) c = L ++ a :: b :: c :: R := by
  subst hk
  simp
theorem drop3 (l : List Value) (k : Nat) (h : k + 3 ≤ l.length) : ∃ x0 x1 x2, l.drop k = x0 :: x1 :: x2 :: l.drop (k + 3) := by
  refine ⟨l[k]'(by omega), l[k + 1]'(by omega), l[k + 2]'(by omega), ?_⟩
  rw [List.drop_eq_getElem_cons (by omega), List.drop_eq_getElem_cons (i := k + 1) (by omega), List.drop_eq_getElem_cons (i := k + 1 + 1) (by omega)]

end Go.Proofs.Ytooinlilplecpab
namespace Go.Proofs.Ytooinlilplecpab
open Go.RowKit

/-- What is asked of unfold.Run: the plain answer, its frames in a list of their own; nothing that was there is written. -/
def RunGives : Prop := ∀ (pa : Option Addr) (pcap : Nat) (p : List FnD) (aa : Option Addr) (acap : Nat) (args : List Int) (n : Int) (w : World), RdP w pa p.length pcap p → Rd .i64 w aa args.length acap args → R64 n →
  Calls Try.prog 8 #[.agg #[.slice pa p.length pcap], .slice aa args.length acap, .int .i64 n] w fun e w' =>
    ∃ a cap, e = .returned (.tuple #[.agg #[.int .i64 (runS p args n).status, .int .i64 (runS p args n).value, .slice a (toldD p (runS p args n)).length cap], .int .i64 (runE p args n)]) ∧
      w'.ownsRow w.heap.size 47 3 (.slice a (toldD p (runS p args n)).length cap) (toldD p (runS p args n)).length ((toldD p (runS p args n)).map frCells).flatten ∧ Below w.heap.size w w'

end Go.Proofs.Ytooinlilplecpab
