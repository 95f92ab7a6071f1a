/- Contracts of unfoldref.but and unfoldref.fresh: a frame written anew. -/
import Derived.Test.YtooinlilplecpabH1
import Derived.Test.YtooinlilplecpabR1
namespace Go.Proofs.Ytooinlilplecpab
open Go.RowKit

/-- A frame. -/
structure LiveD where
  fn : Int
  next : Int
  locals : List Int

def RdLive (w : World) (cs : List Value) (x : LiveD) : Prop :=
  ∃ a cap, cs = [.int .i64 x.fn, .int .i64 x.next, .slice a x.locals.length cap] ∧ Rd .i64 w a x.locals.length cap x.locals

theorem RdLive.below {w w' : World} {cs : List Value} {x : LiveD} (h : RdLive w cs x) (hb : Below w.heap.size w w') : RdLive w' cs x := by
  obtain ⟨a, cap, e, hr⟩ := h
  exact ⟨a, cap, e, hr.below hb (Nat.le_refl _)⟩

theorem rd_of_ints {w : World} {base g n : Nat} {l : List Int} (h : w.ownsRow base 3 1 (.slice (some ⟨g, 0, none⟩) n n) n (ints l)) (hl : l.length = n) (hm : n ≤ maxLen) : Rd .i64 w (some ⟨g, 0, none⟩) n n l := by
  refine ⟨hl, Nat.le_refl _, hm, fun i hi => ⟨g, 0, rfl, ?_⟩⟩
  have := h.cellAt i (by omega)
  rw [ints_get l i (by omega)] at this
  rw [Nat.zero_add]
  exact this

theorem Rd.setOther {w : World} {g off len cap : Nat} {l : List Int} (h : Rd .i64 w (some ⟨g, off, none⟩) len cap l) {b : Nat} (hb : g ≠ b) (j : Nat) (u : Value) : Rd .i64 (w.setCell ⟨b, j, none⟩ u) (some ⟨g, off, none⟩) len cap l := by
  refine ⟨h.hlen, h.hcap, h.hmax, fun i hi => ?_⟩
  obtain ⟨b', o', e, hc⟩ := h.cell i hi
  cases e
  refine ⟨g, off, rfl, ?_⟩
  rw [← hc]
  simp only [World.cell?]
  rw [Below.heap_setCell _ _ _ _ (by exact hb)]

/-- The locals of a frame that begins: the arguments, and noughts. -/
def fillI (args : List Int) (n j : Nat) : List Int := args.take j ++ List.replicate (n - j) 0

theorem fillI_len (args : List Int) (n j : Nat) (h : j ≤ args.length) (hn : args.length ≤ n) : (fillI args n j).length = n := by
  simp [fillI]; omega
theorem fillI_set (args : List Int) (n j : Nat) (h : j < args.length) (hn : args.length ≤ n) : (fillI args n j).set j (args.getD j 0) = fillI args n (j + 1) := by
  unfold fillI
  rw [List.set_append_right _ _ (by simp; omega)]
  have e : j - (args.take j).length = 0 := by simp; omega
  have e2 : n - j = (n - (j + 1)) + 1 := by omega
  rw [e, e2, List.replicate_succ, List.set_cons_zero, List.take_succ_eq_append_getElem h, List.append_assoc]
  simp [List.getD, h]

end Go.Proofs.Ytooinlilplecpab
