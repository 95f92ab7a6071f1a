/- How a run of the reference lies in memory, and which blocks it lies in; nothing is claimed of the program here. -/
import Derived.Test.YtooinlilplecpabR6
namespace Go.Proofs.Ytooinlilplecpab
open Go.RowKit

theorem heap_new_at {w : World} {a : Array Value} {t : TypeId} {n : Nat} (h : w.heap.size = n) : (w.alloc (.cells a t)).heap[n]? = some (.cells a t (0, 0)) := by subst h; exact heap_alloc_new _ _
theorem heap_at1 {w : World} {o : Obj} {n : Nat} {v : Option Obj} (h : n < w.heap.size) (e : w.heap[n]? = v) : (w.alloc o).heap[n]? = v := (heap_alloc_old _ _ h).trans e

theorem lt_alloc_drew (w : World) (o : Obj) : w.heap.size < (w.alloc o).drew.heap.size := by
  have h : (w.alloc o).heap.size = w.heap.size + 1 := by simp
  show w.heap.size < (w.alloc o).heap.size
  rw [h]
  exact Nat.lt_succ_self _
theorem alloc_drew_new (w : World) (a : Array Value) (t : TypeId) : (w.alloc (.cells a t)).drew.heap[w.heap.size]? = some (.cells a t (0, 0)) := heap_new_at (w := w) rfl

theorem ownsRow_below {w w' : World} {base : Nat} {e : TypeId} {size : Nat} {v : Value} {n : Nat} {xs : List Value} (h : w.ownsRow base e size v n xs) (hb : Below w.heap.size w w') : w'.ownsRow base e size v n xs := by
  refine ⟨h.1, ?_⟩
  rcases h.2 with h2 | ⟨g, cap, cur, h1, h2, h3, h4⟩
  · exact .inl h2
  · exact .inr ⟨g, cap, cur, h1, h2, (hb.block g (Array.getElem?_eq_some_iff.1 h3).1).trans h3, h4⟩

/-- A fact that is found out on the way: one goal for all orders of evaluation. -/
structure Kept (P : Prop) : Prop where
  out : P
theorem cutB {P G : Prop} (h : P) (k : Kept P → G) : G := k ⟨h⟩

/-- Blocks of the one kind, or new ones. -/
def OrNew (U : Nat → Prop) (n : Nat) (b : Nat) : Prop := U b ∨ n ≤ b
def InU (U : Nat → Prop) (a : Option Addr) (n : Nat) : Prop := 0 < n → ∀ q, a = some q → U q.block
/-- The worlds agree on the blocks of U that the first one has. -/
def Keeps (U : Nat → Prop) (w w' : World) : Prop := ∀ b, U b → b < w.heap.size → w'.heap[b]? = w.heap[b]?

theorem Keeps.below {U : Nat → Prop} {w w' : World} (h : Below w.heap.size w w') : Keeps U w w' := fun b _ hb => h.block b hb
theorem Keeps.setCell {U : Nat → Prop} {w : World} {p : Addr} (h : ¬ U p.block) (v : Value) : Keeps U w (w.setCell p v) := fun b hb _ => Below.heap_setCell _ _ _ _ (by rintro rfl; exact h hb)

theorem keeps_cell {U : Nat → Prop} {w w' : World} (h : Keeps U w w') {p : Addr} (hU : U p.block) {v : Value} (hc : w.cell? p = some v) : w'.cell? p = some v := by
  have hb := World.block_lt_of_cell? w _ hc
  rw [← hc]
  unfold World.cell?
  rw [h p.block hU hb]

theorem Rd.keeps {k : IntKind} {U : Nat → Prop} {w w' : World} {a : Option Addr} {len cap : Nat} {l : List Int} (h : Rd k w a len cap l) (hU : InU U a len) (hk : Keeps U w w') : Rd k w' a len cap l := by
  refine ⟨h.hlen, h.hcap, h.hmax, fun i hi => ?_⟩
  obtain ⟨b, off, rfl, hc⟩ := h.cell i hi
  exact ⟨b, off, rfl, keeps_cell hk (p := ⟨b, off + i, none⟩) (hU (by omega) ⟨b, off, none⟩ rfl) hc⟩
theorem RdL.keeps {α : Type} {size : Nat} {R R' : World → List Value → α → Prop} {U : Nat → Prop} {w w' : World} {a : Option Addr} {len cap : Nat} {l : List α} (h : RdL size R w a len cap l) (hU : InU U a len) (hk : Keeps U w w')
    (hR : ∀ cs x, R w cs x → R' w' cs x) : RdL size R' w' a len cap l := by
  obtain ⟨h1, h2, h3, h4⟩ := h
  refine ⟨h1, h2, h3, fun i x hx => ?_⟩
  obtain ⟨b, off, cs, e, hl, hc, hr⟩ := h4 i x hx
  refine ⟨b, off, cs, e, hl, fun j v hj => keeps_cell hk (p := ⟨b, off + i * size + j, none⟩) (hU (by have := (List.getElem?_eq_some_iff.1 hx).1; omega) ⟨b, off, none⟩ e) (hc j v hj), hR cs x hr⟩

def RdLiveU (U : Nat → Prop) (w : World) (cs : List Value) (x : LiveD) : Prop :=
  ∃ a cap, cs = [.int .i64 x.fn, .int .i64 x.next, .slice a x.locals.length cap] ∧ Rd .i64 w a x.locals.length cap x.locals ∧ InU U a x.locals.length
def RdStandU (U : Nat → Prop) (w : World) (cs : List Value) (s : StandD) : Prop :=
  ∃ a cap, cs = [.int .i64 s.status, .int .i64 s.value, .slice a s.live.length cap] ∧ RdL 3 (RdLiveU U) w a s.live.length cap s.live ∧ InU U a s.live.length

theorem RdLiveU.shape {U : Nat → Prop} {w : World} (cs : List Value) (x : LiveD) (h : RdLiveU U w cs x) : ∃ la lcap, cs = [.int .i64 x.fn, .int .i64 x.next, .slice la x.locals.length lcap] := by
  obtain ⟨a, cap, e, _⟩ := h
  exact ⟨a, cap, e⟩
theorem RdLiveU.keeps {U V : Nat → Prop} {w w' : World} {cs : List Value} {x : LiveD} (h : RdLiveU U w cs x) (hk : Keeps U w w') (hV : ∀ b, U b → V b) : RdLiveU V w' cs x := by
  obtain ⟨a, cap, e, hr, hU⟩ := h
  exact ⟨a, cap, e, hr.keeps hU hk, fun h0 q hq => hV _ (hU h0 q hq)⟩
theorem RdStandU.keeps {U V : Nat → Prop} {w w' : World} {cs : List Value} {s : StandD} (h : RdStandU U w cs s) (hk : Keeps U w w') (hV : ∀ b, U b → V b) : RdStandU V w' cs s := by
  obtain ⟨a, cap, e, hr, hU⟩ := h
  exact ⟨a, cap, e, hr.keeps hU hk (fun _ _ h => h.keeps hk hV), fun h0 q hq => hV _ (hU h0 q hq)⟩
theorem RdStandU.below {U : Nat → Prop} {w w' : World} {cs : List Value} {s : StandD} (h : RdStandU U w cs s) (hb : Below w.heap.size w w') : RdStandU U w' cs s := h.keeps (Keeps.below hb) (fun _ h => h)
theorem RdLiveU.below {U : Nat → Prop} {w w' : World} {cs : List Value} {x : LiveD} (h : RdLiveU U w cs x) (hb : Below w.heap.size w w') : RdLiveU U w' cs x := h.keeps (Keeps.below hb) (fun _ h => h)

/-- What lies there lies in blocks that are there. -/
def Old (U : Nat → Prop) (w : World) (b : Nat) : Prop := U b ∧ b < w.heap.size
theorem RdLiveU.old {U : Nat → Prop} {w : World} {cs : List Value} {x : LiveD} (h : RdLiveU U w cs x) : RdLiveU (Old U w) w cs x := by
  obtain ⟨a, cap, e, hr, hU⟩ := h
  refine ⟨a, cap, e, hr, fun h0 q hq => ⟨hU h0 q hq, ?_⟩⟩
  obtain ⟨b, off, e2, hc⟩ := hr.cell 0 h0
  rw [hq] at e2
  cases e2
  exact World.block_lt_of_cell? w _ hc
theorem rdL_old {U : Nat → Prop} {w : World} {a : Option Addr} {n cap : Nat} {l : List LiveD} (h : RdL 3 (RdLiveU U) w a n cap l) (hU : InU U a n) : RdL 3 (RdLiveU (Old U w)) w a n cap l ∧ InU (Old U w) a n := by
  refine ⟨⟨h.1, h.2.1, h.2.2.1, fun i x hx => ?_⟩, fun h0 q hq => ⟨hU h0 q hq, ?_⟩⟩
  · obtain ⟨b, off, cs, e, hl, hc, hr⟩ := h.2.2.2 i x hx
    exact ⟨b, off, cs, e, hl, hc, hr.old⟩
  · obtain ⟨x, hx⟩ : ∃ x, l[0]? = some x := ⟨_, List.getElem?_eq_getElem (by rw [h.1]; exact h0)⟩
    obtain ⟨b, off, cs, e, hl, hc, hr⟩ := h.2.2.2 0 x hx
    rw [hq] at e
    cases e
    have hc0 := hc 0 _ (List.getElem?_eq_getElem (by omega))
    exact World.block_lt_of_cell? w _ hc0

theorem rdI_of_owns {w : World} {base n : Nat} {v : Value} {l : List Int} (h : w.ownsRow base 3 1 v n (ints l)) (hl : l.length = n) : ∃ a cap, v = .slice a n cap ∧ Rd .i64 w a n cap l := by
  have hc := fun g hg => h.cells (g := g) hg
  rcases h.2 with ⟨rfl, rfl⟩ | ⟨g, cap, cur, rfl, _, hh, h1, h2, _⟩
  · exact ⟨none, 0, rfl, hl, Nat.le_refl _, by unfold maxLen; omega, fun i hi => by omega⟩
  · refine ⟨_, cap, rfl, hl, h1, h2, fun i hi => ⟨g, 0, rfl, ?_⟩⟩
    have := hc g rfl i (.int .i64 (l.getD i 0)) (by simp [ints, List.getD, hl, hi])
    rw [add0'] at this
    exact this

/-- A frame that was made anew. -/
theorem liveU_new {w : World} {B : Nat} {cs : List Value} {x : LiveD} (h : RdLive w cs x) (hn : ∃ g n c, B ≤ g ∧ cs[2]? = some (.slice (some ⟨g, 0, none⟩) n c)) : RdLiveU (fun b => B ≤ b) w cs x := by
  obtain ⟨a, cap, rfl, hr⟩ := h
  obtain ⟨g, n, c, hg, e⟩ := hn
  simp at e
  obtain ⟨rfl, _, _⟩ := e
  exact ⟨_, cap, rfl, hr, fun _ q hq => by cases hq; exact hg⟩

/-- A run that is laid into the box of a result. -/
theorem stand_boxed {U : Nat → Prop} {w w3 : World} {n2 bx : Nat} {cs : List Value} {s : StandD} (h : RdStandU (OrNew (Old U w) n2) w3 cs s) (h1 : w.heap.size ≤ bx) (h2 : bx < n2) (u0 u1 u2 : Value) :
    RdStandU (OrNew U w.heap.size) (((w3.setCell ⟨bx, 0, none⟩ u0).setCell ⟨bx, 1, none⟩ u1).setCell ⟨bx, 2, none⟩ u2) cs s := by
  have hnb : ∀ j : Nat, ¬ OrNew (Old U w) n2 (⟨bx, j, none⟩ : Addr).block := fun j h => by
    rcases h with h | h
    · have h' : bx < w.heap.size := h.2
      omega
    · have h' : n2 ≤ bx := h
      omega
  exact ((h.keeps (Keeps.setCell (hnb 0) _) (fun _ h => h)).keeps (Keeps.setCell (hnb 1) _) (fun _ h => h)).keeps (Keeps.setCell (hnb 2) _) (fun b h => by
    rcases h with h | h
    · exact .inl h.1
    · exact .inr (by omega))
theorem below_boxed {w w3 : World} {B bx : Nat} (h : Below B w w3) (h1 : B ≤ bx) (u0 u1 u2 : Value) : Below B w (((w3.setCell ⟨bx, 0, none⟩ u0).setCell ⟨bx, 1, none⟩ u1).setCell ⟨bx, 2, none⟩ u2) :=
  ((h.setCell (p := ⟨bx, 0, none⟩) h1 u0).setCell (p := ⟨bx, 1, none⟩) h1 u1).setCell (p := ⟨bx, 2, none⟩) h1 u2
end Go.Proofs.Ytooinlilplecpab
