/- Contracts of unfoldref.Told and unfoldref.Given: the frames that are told; whether a run may begin. -/
import Derived.Test.YtooinlilplecpabR7
import Derived.Deep.RegionLaw
import Derived.Deep.AppendLies
namespace Go.Proofs.Ytooinlilplecpab
open Go.RowKit

def givenB (p : List FnD) (args : List Int) : Bool := args.all (fun n => withB n 1000) && ((args.length : Int) == (fnAt p 0).params)

theorem three_new (w : World) (a b c : Value) (t : TypeId) : ∀ j u, [a, b, c][j]? = some u → (w.alloc (.cells #[a, b, c] t)).cell? ((⟨w.heap.size, 0, none⟩ : Addr).add j) = some u := by
  intro i u hu
  match i, hu with
  | 0, hu => simp at hu; subst hu; simp [Addr.add]
  | 1, hu => simp at hu; subst hu; simp [Addr.add]
  | 2, hu => simp at hu; subst hu; simp [Addr.add]
theorem three_one_sf (a b : ByteArray) (n : Int) : ∀ u ∈ [Value.string a, .string b, .int .i64 n], u.oneCell' = true := by
  intro u hu; simp at hu; rcases hu with rfl | rfl | rfl <;> rfl

theorem Try.infoFrame : (Try.prog.info? 47).map (fun i => (i.zero, i.size, i.bytes)) = some (some (.agg #[.string ⟨#[]⟩, .string ⟨#[]⟩, .int .i64 0]), 3, 40) := by kernel_rfl
def tellD (p : List FnD) (x : LiveD) : FrameD := ⟨(fnOf p x).name, (fnOf p x).file, (opOf p x).line⟩

end Go.Proofs.Ytooinlilplecpab
