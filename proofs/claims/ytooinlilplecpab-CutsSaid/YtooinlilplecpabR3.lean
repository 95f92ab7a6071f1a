/- Contract of unfoldref.under: frames written anew. -/
import Derived.Test.YtooinlilplecpabR2
import Derived.Test.YtooinlilplecpabH2
namespace Go.Proofs.Ytooinlilplecpab
open Go.RowKit

theorem add0' (g j : Nat) : (⟨g, 0, none⟩ : Addr).add j = ⟨g, 0 + j, none⟩ := by unfold Addr.add; split <;> simp_all
theorem RdL_of_owns {α : Type} {size : Nat} {R : World → List Value → α → Prop} {w : World} {base : Nat} {e : TypeId} {v : Value} {n : Nat} {css : List (List Value)} {ls : List α} (h : w.ownsRow base e size v n css.flatten) (hk : ∀ c ∈ css, c.length = size) (hl : css.length = n) (hls : ls.length = n)
    (hR : ∀ (i : Nat) (x : α) (cs : List Value), ls[i]? = some x → css[i]? = some cs → R w cs x) : ∃ a cap, v = .slice a n cap ∧ RdL size R w a n cap ls := by
  have hc := fun g hg => h.cells (g := g) hg
  rcases h.2 with ⟨rfl, rfl⟩ | ⟨g, cap, cur, rfl, _, hh, h1, h2, _⟩
  · exact ⟨none, 0, rfl, hls, Nat.le_refl _, by unfold maxLen; omega, fun i x hx => by
      have := (List.getElem?_eq_some_iff.1 hx).1
      omega⟩
  · refine ⟨_, cap, rfl, hls, h1, h2, fun i x hx => ?_⟩
    have hi : i < css.length := by
      have := (List.getElem?_eq_some_iff.1 hx).1
      omega
    have hcs : css[i]? = some (css.getD i []) := by simp [List.getD, hi]
    have hlen := hk _ (List.mem_of_getElem? hcs)
    refine ⟨g, 0, css.getD i [], rfl, hlen, fun j v hj => ?_, hR i x _ hx hcs⟩
    have hj' : j < size := by
      have := (List.getElem?_eq_some_iff.1 hj).1
      omega
    have := hc g rfl (i * size + j) v (by rw [flatten_get size css i j hk hi hj']; exact hj)
    rw [add0'] at this
    rw [Nat.add_assoc]
    exact this

end Go.Proofs.Ytooinlilplecpab
