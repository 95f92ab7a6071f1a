/- How many places a code has: the developers' way of counting and the reference's come to the same; nothing is claimed of the program here. How a run of the reference lies in memory, and which blocks it lies in; nothing is claimed of the program here. Contracts of the reference's Inlined and more. -/
import Derived.Test.YtffnfjkjlmlonaaGreatDoorZ7
import Derived.Deep.AppendLies
namespace Go.Proofs.YtffnfjkjlmlonaaGreatDoor
open Go.RowKit

/-- So many places, however many they are. -/
def sizB (rec : Int → List Int → Nat) (p : List FnD) (bud : Int) (ar : List Int) : List OpD → Nat
  | [] => 0
  | o :: r => 1 + (if inlB p bud ar o = true then rec o.b ar else 0) + sizB rec p bud ar r
def sizI (p : List FnD) (bud : Int) : Nat → Int → List Int → Nat
  | 0, _, _ => 0
  | f + 1, fn, ar => sizB (sizI p bud f) p bud (fn :: ar) (fnAt p fn).body

/-- The reference's count: how many there are, and whether there are too many. -/
def rlB (rec : Int → List Int → Nat × Bool → Nat × Bool) (p : List FnD) (bud : Int) (ar : List Int) : List OpD → Nat × Bool → Nat × Bool
  | [], s => s
  | o :: r, s => if s.1 = 1000 ∨ s.2 = true then (s.1, true) else if inlB p bud ar o = true then rlB rec p bud ar r (rec o.b ar (s.1 + 1, false)) else rlB rec p bud ar r (s.1 + 1, false)
def rlI (p : List FnD) (bud : Int) : Nat → Int → List Int → Nat × Bool → Nat × Bool
  | 0, _, _, s => s
  | f + 1, fn, ar, s => rlB (rlI p bud f) p bud (fn :: ar) (fnAt p fn).body s
def rlAll (p : List FnD) (bud : Int) : Nat → Nat → Nat → Bool
  | 0, _, _ => true
  | n + 1, fn, all => if (rlI p bud 12 fn [] (0, false)).2 = true ∨ 1000 < all + (rlI p bud 12 fn [] (0, false)).1 then false else rlAll p bud n (fn + 1) (all + (rlI p bud 12 fn [] (0, false)).1)

theorem layB_neg {rec : Int → List Int → LyD → LyD} {p : List FnD} {bud fn : Int} {ar : List Int} {k : Int} : ∀ (l : List OpD) (i : Nat) (s : LyD), s.room < 0 → (layB rec p bud fn ar k l i s).room < 0
  | [], _, _, h => h
  | o :: r, i, s, h => by
    unfold layB
    rw [if_pos (by omega)]
    show s.room - 1 < 0
    omega

def RoomOk (rec : Int → List Int → LyD → LyD) (siz : Int → List Int → Nat) : Prop := ∀ fn ar s, 0 ≤ s.room → ((siz fn ar : Int) ≤ s.room → (rec fn ar s).room = s.room - siz fn ar ∧ (rec fn ar s).places.length = s.places.length + siz fn ar) ∧ (s.room < siz fn ar → (rec fn ar s).room < 0)

theorem layB_room {rec : Int → List Int → LyD → LyD} {siz : Int → List Int → Nat} (hr : RoomOk rec siz) {p : List FnD} {bud fn : Int} {ar : List Int} {k : Int} : ∀ (l : List OpD) (i : Nat) (s : LyD), 0 ≤ s.room →
    ((sizB siz p bud ar l : Int) ≤ s.room → (layB rec p bud fn ar k l i s).room = s.room - sizB siz p bud ar l ∧ (layB rec p bud fn ar k l i s).places.length = s.places.length + sizB siz p bud ar l) ∧ (s.room < sizB siz p bud ar l → (layB rec p bud fn ar k l i s).room < 0)
  | [], _, s, h => by
    refine ⟨fun _ => ⟨?_, ?_⟩, fun h2 => ?_⟩
    · show s.room = s.room - ((0 : Nat) : Int); omega
    · show s.places.length = s.places.length + 0; omega
    · have : s.room < ((0 : Nat) : Int) := h2
      omega
  | o :: r, i, s, h => by
    unfold layB sizB
    by_cases h0 : s.room - 1 < 0
    · rw [if_pos h0]
      refine ⟨fun h2 => ?_, fun _ => h0⟩
      split at h2 <;> omega
    · rw [if_neg h0]
      by_cases hi : inlB p bud ar o = true
      · rw [if_pos hi, if_pos hi]
        obtain ⟨h1, h2⟩ := hr o.b ar ⟨s.room - 1, s.places ++ [⟨fn, i, k⟩], s.tree ++ [(o.b, (s.places.length : Int))]⟩ (by show 0 ≤ s.room - 1; omega)
        generalize rec o.b ar ⟨s.room - 1, s.places ++ [⟨fn, i, k⟩], s.tree ++ [(o.b, (s.places.length : Int))]⟩ = t at *
        dsimp only at h1 h2
        simp only [List.length_append, List.length_cons, List.length_nil] at h1
        by_cases hle : (siz o.b ar : Int) ≤ s.room - 1
        · obtain ⟨e1, e2⟩ := h1 hle
          obtain ⟨g1, g2⟩ := layB_room hr (p := p) (bud := bud) (fn := fn) (ar := ar) (k := k) r (i + 1) t (by omega)
          refine ⟨fun h3 => ?_, fun h3 => g2 (by omega)⟩
          obtain ⟨a1, a2⟩ := g1 (by omega)
          rw [a1, a2]
          constructor <;> omega
        · refine ⟨fun h3 => by omega, fun _ => layB_neg r (i + 1) t (h2 (by omega))⟩
      · rw [if_neg hi, if_neg hi]
        obtain ⟨g1, g2⟩ := layB_room hr (p := p) (bud := bud) (fn := fn) (ar := ar) (k := k) r (i + 1) ⟨s.room - 1, s.places ++ [⟨fn, i, k⟩], s.tree⟩ (by show 0 ≤ s.room - 1; omega)
        dsimp only at g1 g2
        simp only [List.length_append, List.length_cons, List.length_nil] at g1
        refine ⟨fun h3 => ?_, fun h3 => g2 (by omega)⟩
        obtain ⟨a1, a2⟩ := g1 (by omega)
        rw [a1, a2]
        constructor <;> omega

theorem layI_room (p : List FnD) (bud : Int) : ∀ f, RoomOk (layI p bud f) (sizI p bud f)
  | 0 => fun fn ar s h => ⟨fun _ => ⟨by show s.room = s.room - ((0 : Nat) : Int); omega, by show s.places.length = s.places.length + 0; omega⟩, fun h2 => by have : s.room < ((0 : Nat) : Int) := h2; omega⟩
  | f + 1 => fun fn ar s h => layB_room (layI_room p bud f) _ _ _ h

def CntOk (rec : Int → List Int → Nat × Bool → Nat × Bool) (siz : Int → List Int → Nat) : Prop := ∀ fn ar n, n ≤ 1000 → (n + siz fn ar ≤ 1000 → rec fn ar (n, false) = (n + siz fn ar, false)) ∧ (1000 < n + siz fn ar → (rec fn ar (n, false)).2 = true ∧ (rec fn ar (n, false)).1 ≤ 1000)

theorem rlB_true {rec : Int → List Int → Nat × Bool → Nat × Bool} {p : List FnD} {bud : Int} {ar : List Int} : ∀ (l : List OpD) (s : Nat × Bool), s.2 = true → s.1 ≤ 1000 → (rlB rec p bud ar l s).2 = true ∧ (rlB rec p bud ar l s).1 ≤ 1000
  | [], _, h, h1 => ⟨h, h1⟩
  | o :: r, s, h, h1 => by
    unfold rlB
    rw [if_pos (.inr h)]
    exact ⟨rfl, h1⟩

theorem rlB_cnt {rec : Int → List Int → Nat × Bool → Nat × Bool} {siz : Int → List Int → Nat} (hr : CntOk rec siz) {p : List FnD} {bud : Int} {ar : List Int} : ∀ (l : List OpD) (n : Nat), n ≤ 1000 →
    (n + sizB siz p bud ar l ≤ 1000 → rlB rec p bud ar l (n, false) = (n + sizB siz p bud ar l, false)) ∧ (1000 < n + sizB siz p bud ar l → (rlB rec p bud ar l (n, false)).2 = true ∧ (rlB rec p bud ar l (n, false)).1 ≤ 1000)
  | [], n, h => ⟨fun _ => rfl, fun h2 => by have : 1000 < n + 0 := h2; omega⟩
  | o :: r, n, h => by
    have es : sizB siz p bud ar (o :: r) = 1 + (if inlB p bud ar o = true then siz o.b ar else 0) + sizB siz p bud ar r := rfl
    rw [es]
    by_cases h0 : n = 1000
    · have e : rlB rec p bud ar (o :: r) (n, false) = (n, true) := by unfold rlB; exact if_pos (Or.inl h0)
      rw [e]
      exact ⟨fun h2 => by omega, fun _ => ⟨rfl, h⟩⟩
    · by_cases hi : inlB p bud ar o = true
      · have e : rlB rec p bud ar (o :: r) (n, false) = rlB rec p bud ar r (rec o.b ar (n + 1, false)) := by
          conv => lhs; unfold rlB
          rw [if_neg (by rintro (h1 | h1); exact h0 h1; cases h1), if_pos hi]
        rw [e, if_pos hi]
        obtain ⟨h1, h2⟩ := hr o.b ar (n + 1) (by omega)
        by_cases hle : n + 1 + siz o.b ar ≤ 1000
        · rw [h1 hle]
          obtain ⟨g1, g2⟩ := rlB_cnt hr (p := p) (bud := bud) (ar := ar) r (n + 1 + siz o.b ar) hle
          refine ⟨fun h3 => ?_, fun h3 => g2 (by omega)⟩
          rw [g1 (by omega)]
          congr 1
          omega
        · refine ⟨fun h3 => by omega, fun _ => rlB_true r _ (h2 (by omega)).1 (h2 (by omega)).2⟩
      · have e : rlB rec p bud ar (o :: r) (n, false) = rlB rec p bud ar r (n + 1, false) := by
          conv => lhs; unfold rlB
          rw [if_neg (by rintro (h1 | h1); exact h0 h1; cases h1), if_neg hi]
        rw [e, if_neg hi]
        obtain ⟨g1, g2⟩ := rlB_cnt hr (p := p) (bud := bud) (ar := ar) r (n + 1) (by omega)
        refine ⟨fun h3 => ?_, fun h3 => g2 (by omega)⟩
        rw [g1 (by omega)]
        congr 1
        omega

theorem rlI_cnt (p : List FnD) (bud : Int) : ∀ f, CntOk (rlI p bud f) (sizI p bud f)
  | 0 => fun fn ar n h => ⟨fun _ => rfl, fun h2 => by have : 1000 < n + 0 := h2; omega⟩
  | f + 1 => fun fn ar n h => rlB_cnt (rlI_cnt p bud f) _ _ h

theorem layAll_fits (p : List FnD) (bud : Int) : ∀ (n fn : Nat) (room : Int) (l : List CodeD), 0 ≤ room → room ≤ 1000 → (layAll p bud n fn room l).isSome = rlAll p bud n fn (1000 - room).toNat
  | 0, _, _, _, _, _ => rfl
  | n + 1, fn, room, l, h0, h1 => by
    unfold layAll rlAll
    obtain ⟨a1, a2⟩ := layI_room p bud 12 fn [] ⟨room, [], []⟩ h0
    obtain ⟨b1, b2⟩ := rlI_cnt p bud 12 fn [] 0 (by omega)
    dsimp only at a1 a2
    by_cases hle : (sizI p bud 12 fn [] : Int) ≤ room
    · obtain ⟨e1, -⟩ := a1 hle
      rw [e1, b1 (by omega), if_neg (by omega), if_neg (by simp; omega)]
      rw [layAll_fits p bud n (fn + 1) _ _ (by omega) (by omega)]
      congr 1
      simp
      omega
    · rw [if_pos (a2 (by omega))]
      by_cases hb : 1000 < 0 + sizI p bud 12 fn []
      · rw [if_pos (.inl (b2 hb).1)]; rfl
      · rw [b1 (by omega), if_pos (.inr (by simp; omega))]; rfl

theorem codesD_fits (p : List FnD) (bud : Int) : (codesD p bud).isSome = rlAll p bud p.length 0 0 := layAll_fits p bud p.length 0 1000 [] (by decide) (by decide)
end Go.Proofs.YtffnfjkjlmlonaaGreatDoor
namespace Go.Proofs.YtffnfjkjlmlonaaGreatDoor
open Go.RowKit

theorem heap_new_at {w : World} {a : Array Value} {t : TypeId} {n : Nat} (h : w.heap.size = n) : (w.alloc (.cells a t)).heap[n]? = some (.cells a t (0, 0)) := by subst h; exact heap_alloc_new _ _
theorem heap_at1 {w : World} {o : Obj} {n : Nat} {v : Option Obj} (h : n < w.heap.size) (e : w.heap[n]? = v) : (w.alloc o).heap[n]? = v := (heap_alloc_old _ _ h).trans e

theorem lt_alloc_drew (w : World) (o : Obj) : w.heap.size < (w.alloc o).drew.heap.size := by
  have h : (w.alloc o).heap.size = w.heap.size + 1 := by simp
  show w.heap.size < (w.alloc o).heap.size
  rw [h]
  exact Nat.lt_succ_self _
theorem alloc_drew_new (w : World) (a : Array Value) (t : TypeId) : (w.alloc (.cells a t)).drew.heap[w.heap.size]? = some (.cells a t (0, 0)) := heap_new_at (w := w) rfl

theorem ownsRow_below {w w' : World} {base : Nat} {e : TypeId} {size : Nat} {v : Value} {n : Nat} {xs : List Value} (h : w.ownsRow base e size v n xs) (hb : Below w.heap.size w w') : w'.ownsRow base e size v n xs := by
  refine ⟨h.1, ?_⟩
  rcases h.2 with h2 | ⟨g, cap, cur, h1, h2, h3, h4⟩
  · exact .inl h2
  · exact .inr ⟨g, cap, cur, h1, h2, (hb.block g (Array.getElem?_eq_some_iff.1 h3).1).trans h3, h4⟩

/-- A fact that is found out on the way: one goal for all orders of evaluation. -/
structure Kept (P : Prop) : Prop where
  out : P
theorem cutB {P G : Prop} (h : P) (k : Kept P → G) : G := k ⟨h⟩

/-- Blocks of the one kind, or new ones. -/
def OrNew (U : Nat → Prop) (n : Nat) (b : Nat) : Prop := U b ∨ n ≤ b
def InU (U : Nat → Prop) (a : Option Addr) (n : Nat) : Prop := 0 < n → ∀ q, a = some q → U q.block
/-- The worlds agree on the blocks of U that the first one has. -/
def Keeps (U : Nat → Prop) (w w' : World) : Prop := ∀ b, U b → b < w.heap.size → w'.heap[b]? = w.heap[b]?

theorem Keeps.below {U : Nat → Prop} {w w' : World} (h : Below w.heap.size w w') : Keeps U w w' := fun b _ hb => h.block b hb
theorem Keeps.setCell {U : Nat → Prop} {w : World} {p : Addr} (h : ¬ U p.block) (v : Value) : Keeps U w (w.setCell p v) := fun b hb _ => Below.heap_setCell _ _ _ _ (by rintro rfl; exact h hb)

theorem keeps_cell {U : Nat → Prop} {w w' : World} (h : Keeps U w w') {p : Addr} (hU : U p.block) {v : Value} (hc : w.cell? p = some v) : w'.cell? p = some v := by
  have hb := World.block_lt_of_cell? w _ hc
  rw [← hc]
  unfold World.cell?
  rw [h p.block hU hb]

theorem Rd.keeps {k : IntKind} {U : Nat → Prop} {w w' : World} {a : Option Addr} {len cap : Nat} {l : List Int} (h : Rd k w a len cap l) (hU : InU U a len) (hk : Keeps U w w') : Rd k w' a len cap l := by
  refine ⟨h.hlen, h.hcap, h.hmax, fun i hi => ?_⟩
  obtain ⟨b, off, rfl, hc⟩ := h.cell i hi
  exact ⟨b, off, rfl, keeps_cell hk (p := ⟨b, off + i, none⟩) (hU (by omega) ⟨b, off, none⟩ rfl) hc⟩
theorem RdL.keeps {α : Type} {size : Nat} {R R' : World → List Value → α → Prop} {U : Nat → Prop} {w w' : World} {a : Option Addr} {len cap : Nat} {l : List α} (h : RdL size R w a len cap l) (hU : InU U a len) (hk : Keeps U w w')
    (hR : ∀ cs x, R w cs x → R' w' cs x) : RdL size R' w' a len cap l := by
  obtain ⟨h1, h2, h3, h4⟩ := h
  refine ⟨h1, h2, h3, fun i x hx => ?_⟩
  obtain ⟨b, off, cs, e, hl, hc, hr⟩ := h4 i x hx
  refine ⟨b, off, cs, e, hl, fun j v hj => keeps_cell hk (p := ⟨b, off + i * size + j, none⟩) (hU (by have := (List.getElem?_eq_some_iff.1 hx).1; omega) ⟨b, off, none⟩ e) (hc j v hj), hR cs x hr⟩

def RdLiveU (U : Nat → Prop) (w : World) (cs : List Value) (x : LiveD) : Prop :=
  ∃ a cap, cs = [.int .i64 x.fn, .int .i64 x.next, .slice a x.locals.length cap] ∧ Rd .i64 w a x.locals.length cap x.locals ∧ InU U a x.locals.length
def RdStandU (U : Nat → Prop) (w : World) (cs : List Value) (s : StandD) : Prop :=
  ∃ a cap, cs = [.int .i64 s.status, .int .i64 s.value, .slice a s.live.length cap] ∧ RdL 3 (RdLiveU U) w a s.live.length cap s.live ∧ InU U a s.live.length

theorem RdLiveU.shape {U : Nat → Prop} {w : World} (cs : List Value) (x : LiveD) (h : RdLiveU U w cs x) : ∃ la lcap, cs = [.int .i64 x.fn, .int .i64 x.next, .slice la x.locals.length lcap] := by
  obtain ⟨a, cap, e, _⟩ := h
  exact ⟨a, cap, e⟩
theorem RdLiveU.keeps {U V : Nat → Prop} {w w' : World} {cs : List Value} {x : LiveD} (h : RdLiveU U w cs x) (hk : Keeps U w w') (hV : ∀ b, U b → V b) : RdLiveU V w' cs x := by
  obtain ⟨a, cap, e, hr, hU⟩ := h
  exact ⟨a, cap, e, hr.keeps hU hk, fun h0 q hq => hV _ (hU h0 q hq)⟩
theorem RdStandU.keeps {U V : Nat → Prop} {w w' : World} {cs : List Value} {s : StandD} (h : RdStandU U w cs s) (hk : Keeps U w w') (hV : ∀ b, U b → V b) : RdStandU V w' cs s := by
  obtain ⟨a, cap, e, hr, hU⟩ := h
  exact ⟨a, cap, e, hr.keeps hU hk (fun _ _ h => h.keeps hk hV), fun h0 q hq => hV _ (hU h0 q hq)⟩
theorem RdStandU.below {U : Nat → Prop} {w w' : World} {cs : List Value} {s : StandD} (h : RdStandU U w cs s) (hb : Below w.heap.size w w') : RdStandU U w' cs s := h.keeps (Keeps.below hb) (fun _ h => h)
theorem RdLiveU.below {U : Nat → Prop} {w w' : World} {cs : List Value} {x : LiveD} (h : RdLiveU U w cs x) (hb : Below w.heap.size w w') : RdLiveU U w' cs x := h.keeps (Keeps.below hb) (fun _ h => h)

/-- What lies there lies in blocks that are there. -/
def Old (U : Nat → Prop) (w : World) (b : Nat) : Prop := U b ∧ b < w.heap.size
theorem RdLiveU.old {U : Nat → Prop} {w : World} {cs : List Value} {x : LiveD} (h : RdLiveU U w cs x) : RdLiveU (Old U w) w cs x := by
  obtain ⟨a, cap, e, hr, hU⟩ := h
  refine ⟨a, cap, e, hr, fun h0 q hq => ⟨hU h0 q hq, ?_⟩⟩
  obtain ⟨b, off, e2, hc⟩ := hr.cell 0 h0
  rw [hq] at e2
  cases e2
  exact World.block_lt_of_cell? w _ hc
theorem rdL_old {U : Nat → Prop} {w : World} {a : Option Addr} {n cap : Nat} {l : List LiveD} (h : RdL 3 (RdLiveU U) w a n cap l) (hU : InU U a n) : RdL 3 (RdLiveU (Old U w)) w a n cap l ∧ InU (Old U w) a n := by
  refine ⟨⟨h.1, h.2.1, h.2.2.1, fun i x hx => ?_⟩, fun h0 q hq => ⟨hU h0 q hq, ?_⟩⟩
  · obtain ⟨b, off, cs, e, hl, hc, hr⟩ := h.2.2.2 i x hx
    exact ⟨b, off, cs, e, hl, hc, hr.old⟩
  · obtain ⟨x, hx⟩ : ∃ x, l[0]? = some x := ⟨_, List.getElem?_eq_getElem (by rw [h.1]; exact h0)⟩
    obtain ⟨b, off, cs, e, hl, hc, hr⟩ := h.2.2.2 0 x hx
    rw [hq] at e
    cases e
    have hc0 := hc 0 _ (List.getElem?_eq_getElem (by omega))
    exact World.block_lt_of_cell? w _ hc0

theorem rdI_of_owns {w : World} {base n : Nat} {v : Value} {l : List Int} (h : w.ownsRow base 3 1 v n (ints l)) (hl : l.length = n) : ∃ a cap, v = .slice a n cap ∧ Rd .i64 w a n cap l := by
  have hc := fun g hg => h.cells (g := g) hg
  rcases h.2 with ⟨rfl, rfl⟩ | ⟨g, cap, cur, rfl, _, hh, h1, h2, _⟩
  · exact ⟨none, 0, rfl, hl, Nat.le_refl _, by unfold maxLen; omega, fun i hi => by omega⟩
  · refine ⟨_, cap, rfl, hl, h1, h2, fun i hi => ⟨g, 0, rfl, ?_⟩⟩
    have := hc g rfl i (.int .i64 (l.getD i 0)) (by simp [ints, List.getD, hl, hi])
    rw [add0'] at this
    exact this

/-- A frame that was made anew. -/
theorem liveU_new {w : World} {B : Nat} {cs : List Value} {x : LiveD} (h : RdLive w cs x) (hn : ∃ g n c, B ≤ g ∧ cs[2]? = some (.slice (some ⟨g, 0, none⟩) n c)) : RdLiveU (fun b => B ≤ b) w cs x := by
  obtain ⟨a, cap, rfl, hr⟩ := h
  obtain ⟨g, n, c, hg, e⟩ := hn
  simp at e
  obtain ⟨rfl, _, _⟩ := e
  exact ⟨_, cap, rfl, hr, fun _ q hq => by cases hq; exact hg⟩

/-- A list that was made anew, of frames. -/
theorem ownsU {U : Nat → Prop} {w : World} {B n : Nat} {v : Value} {css : List (List Value)} {ls : List LiveD} {R : World → List Value → LiveD → Prop} (h : w.ownsRow B 172 3 v n css.flatten) (hk : ∀ c ∈ css, c.length = 3) (hl : css.length = n) (hls : ls.length = n)
    (hR : ∀ (i : Nat) (x : LiveD) (cs : List Value), ls[i]? = some x → css[i]? = some cs → R w cs x) (hU : ∀ b, B ≤ b → U b) : ∃ a cap, v = .slice a n cap ∧ RdL 3 R w a n cap ls ∧ InU U a n := by
  obtain ⟨a, cap, e, hr⟩ := RdL_of_owns h hk hl hls hR
  refine ⟨a, cap, e, hr, fun _ q hq => ?_⟩
  subst hq
  rcases h.2 with ⟨h1, _⟩ | ⟨g, c, cur, h1, hb, _⟩
  · rw [h1] at e; simp at e
  · rw [h1] at e; simp at e; obtain ⟨h2, _⟩ := e; subst h2; exact hU _ hb

/-- A run whose list of frames was made anew, one frame more behind the others. -/
theorem stand_snoc {V : Nat → Prop} {w : World} {B m g cap : Nat} {css : List (List Value)} {ycs : List Value} {ls : List LiveD} {y : LiveD} (st v : Int) (h : w.ownsRow B 172 3 (.slice (some ⟨g, 0, none⟩) (m + 1) cap) (m + 1) (css.flatten ++ ycs)) (hc3 : ∀ c ∈ css, c.length = 3) (hcl : css.length = m) (hls : ls.length = m)
    (hR : ∀ (i : Nat) (x : LiveD) (cs : List Value), ls[i]? = some x → css[i]? = some cs → RdLiveU V w cs x) (hy : RdLiveU V w ycs y) (hV : ∀ b, B ≤ b → V b) : RdStandU V w [.int .i64 st, .int .i64 v, .slice (some ⟨g, 0, none⟩) (m + 1) cap] ⟨st, v, ls ++ [y]⟩ := by
  have hy3 : ycs.length = 3 := by obtain ⟨_, _, rfl, _⟩ := hy; rfl
  have hfl : css.flatten ++ ycs = (css ++ [ycs]).flatten := by simp
  rw [hfl] at h
  obtain ⟨a, c, e, hr, hU⟩ := ownsU (U := V) (ls := ls ++ [y]) (R := RdLiveU V) h (fun c hc => by
    rcases List.mem_append.1 hc with h | h
    · exact hc3 c h
    · rw [List.mem_singleton.1 h]; exact hy3) (by simp [hcl]) (by simp [hls]) (fun i x cs hx hcs => by
    by_cases hi : i < m
    · rw [List.getElem?_append_left (by omega)] at hx hcs
      exact hR i x cs hx hcs
    · have hi2 : i < (ls ++ [y]).length := (List.getElem?_eq_some_iff.1 hx).1
      simp at hi2
      have hie : i = m := by omega
      subst hie
      rw [List.getElem?_append_right (by omega)] at hx hcs
      have e1 : i - ls.length = 0 := by omega
      have e2 : i - css.length = 0 := by omega
      rw [e1] at hx
      rw [e2] at hcs
      simp at hx hcs
      subst hx hcs
      exact hy) hV
  simp at e
  obtain ⟨rfl, rfl⟩ := e
  have hl : (ls ++ [y]).length = m + 1 := by simp [hls]
  exact ⟨some ⟨g, 0, none⟩, cap, by simp [hls], by simp only [hl]; exact hr, by simp only [hl]; exact hU⟩

/-- A run that is laid into the box of a result. -/
theorem stand_boxed {U : Nat → Prop} {w w3 : World} {n2 bx : Nat} {cs : List Value} {s : StandD} (h : RdStandU (OrNew (Old U w) n2) w3 cs s) (h1 : w.heap.size ≤ bx) (h2 : bx < n2) (u0 u1 u2 : Value) :
    RdStandU (OrNew U w.heap.size) (((w3.setCell ⟨bx, 0, none⟩ u0).setCell ⟨bx, 1, none⟩ u1).setCell ⟨bx, 2, none⟩ u2) cs s := by
  have hnb : ∀ j : Nat, ¬ OrNew (Old U w) n2 (⟨bx, j, none⟩ : Addr).block := fun j h => by
    rcases h with h | h
    · have h' : bx < w.heap.size := h.2
      omega
    · have h' : n2 ≤ bx := h
      omega
  exact ((h.keeps (Keeps.setCell (hnb 0) _) (fun _ h => h)).keeps (Keeps.setCell (hnb 1) _) (fun _ h => h)).keeps (Keeps.setCell (hnb 2) _) (fun b h => by
    rcases h with h | h
    · exact .inl h.1
    · exact .inr (by omega))
theorem below_boxed {w w3 : World} {B bx : Nat} (h : Below B w w3) (h1 : B ≤ bx) (u0 u1 u2 : Value) : Below B w (((w3.setCell ⟨bx, 0, none⟩ u0).setCell ⟨bx, 1, none⟩ u1).setCell ⟨bx, 2, none⟩ u2) :=
  ((h.setCell (p := ⟨bx, 0, none⟩) h1 u0).setCell (p := ⟨bx, 1, none⟩) h1 u1).setCell (p := ⟨bx, 2, none⟩) h1 u2
end Go.Proofs.YtffnfjkjlmlonaaGreatDoor
namespace Go.Proofs.YtffnfjkjlmlonaaGreatDoor
open Go.RowKit

theorem rdI_own3 {w : World} {base n : Nat} {v : Value} {l : List Int} (h : w.ownsRow base 3 1 v n (ints l)) : ∃ a cap, v = .slice a n cap ∧ Rd .i64 w a n cap l := by
  have hl : l.length = n := by have := h.1; simpa [ints] using this
  rcases h.2 with ⟨rfl, rfl⟩ | ⟨g, cap, cur, rfl, hg, hh, h1, h2, h3, h4⟩
  · exact ⟨none, 0, rfl, ⟨hl, Nat.le_refl _, by unfold maxLen; omega, fun i hi => by omega⟩⟩
  · refine ⟨some ⟨g, 0, none⟩, cap, rfl, ⟨hl, h1, h2, fun i hi => ⟨g, 0, rfl, ?_⟩⟩⟩
    have hc := World.ownsRow.cellAt (w := w) ⟨h.1, .inr ⟨g, cap, cur, rfl, hg, hh, h1, h2, h3, h4⟩⟩ i (by omega)
    rw [Nat.zero_add, hc]
    simp [ints, List.getD, show i < l.length by omega]

set_option maxHeartbeats 2000000 in
set_option maxRecDepth 100000 in
theorem rInl_any (pa : Option Addr) (pcap : Nat) (p : List FnD) (bud : Int) (ra : Option Addr) (rl rcap : Nat) (ar : List Int) (g : Nat) (w : World) (hp : RdP w pa p.length pcap p) (hr : Rd .i64 w ra rl rcap ar) (hg : g < p.length) :
    Calls Tryz.prog 126 #[.agg #[.slice pa p.length pcap], .int .i64 bud, .slice ra rl rcap, .int .i64 g] w fun e w' => e = .returned (.bool (!(ar.contains (g : Int)) && decide (((fnAt p g).body.length : Int) ≤ bud))) ∧ Below w.heap.size w w' := by
  have hfs : p[g]? = some (fnAt p g) := by
    have := fnAt_some (p := p) (n := (g : Int)) ⟨by omega, by omega⟩
    simpa using this
  obtain ⟨wb, hwb⟩ : ∃ v, v = w.alloc (Obj.cells #[.slice pa p.length pcap] 44) := ⟨_, rfl⟩
  have hbb : Below w.heap.size w wb := by rw [hwb]; exact (Below.refl _ _).alloc (Nat.le_refl _) _
  have hbs : wb.heap.size = w.heap.size + 1 := by rw [hwb]; simp
  have kb : wb.heap[w.heap.size]? = some (.cells #[.slice pa p.length pcap] 44 (0, 0)) := by rw [hwb]; exact heap_new_at rfl
  have c0 : wb.cell? ⟨w.heap.size, 0, none⟩ = some (.slice pa p.length pcap) := by simp [World.cell?, kb]
  obtain ⟨pb, poff, ba, bcap, rfl, -, -, -, -, -, c4, hrb, -, -⟩ := (hp.below hbb).at g _ hfs
  have hbl1 := hrb.2.1
  have hbl2 := hrb.2.2.1
  have hpc1 := hp.2.1
  have hpc2 := hp.2.2.1
  unfold maxLen at hbl2 hpc2
  have lt1 := World.block_lt_of_cell? wb _ c4
  simp only at lt1
  have hr' := hr.below hbb (Nat.le_refl _)
  have hrc1 := hr.hcap
  have hrc2 := hr.hmax
  unfold maxLen at hrc2
  have HLEN := hid hr.hlen
  have HR := hid hr'
  have HB := hid hbb
  generalize (fnAt p g).body.length = bl at *
  generalize p.length = pl at *
  clear hp hr hr' hfs hrb hbb kb
  have hgp : (g : Int) < (pl : Int) := by omega
  go_enter Tryz.func126, Tryz.ntmps126
  go_wp2
  rw [← hwb]
  clear hwb
  go_loopw [9] (fun i wr => ∃ k : Nat, i = .int .i64 k ∧ k ≤ rl ∧ (ar.take k).contains (g : Int) = false ∧ wr = wb) (fun i _ => rl - (intOf i).toNat)
  case atStart => exact ⟨0, rfl, by omega, rfl, rfl⟩
  case round =>
    obtain ⟨k, rfl, hk, hno, rfl⟩ := hrel
    by_cases hkl : k < rl
    · have hkl' : (k : Int) < (rl : Int) := by omega
      obtain ⟨rb, roff, rfl, hc⟩ := HR.out.cell k hkl
      have ltr := World.block_lt_of_cell? wr _ hc
      simp only at ltr
      have htk : (ar.take (k + 1)).contains (g : Int) = ((ar.take k).contains (g : Int) || ar.getD k 0 == (g : Int)) := by
        have hlt : k < ar.length := by rw [HLEN.out]; exact hkl
        rw [List.take_succ_eq_append_getElem hlt]
        have hgd : ar.getD k 0 = ar[k] := by simp [List.getD, List.getElem?_eq_getElem hlt]
        rw [Bool.eq_iff_iff, Bool.or_eq_true, List.contains_iff_mem, List.contains_iff_mem, List.mem_append, List.mem_singleton, beq_iff_eq, hgd]
        exact ⟨fun h => h.imp id Eq.symm, fun h => h.imp id Eq.symm⟩
      rw [hno, Bool.false_or] at htk
      by_cases he : ar.getD k 0 = (g : Int)
      · have hin : ar.contains (g : Int) = true := by
          have hlt : k < ar.length := by rw [HLEN.out]; exact hkl
          rw [List.contains_iff_mem, ← he, List.getD, List.getElem?_eq_getElem hlt]
          exact List.getElem_mem hlt
        rw [he] at hc
        have HIN := hid hin
        clear htk hno he HR HLEN hin
        go_wp2
        go_ret
        exact ⟨by rw [HIN.out]; rfl, HB.out⟩
      · have he' : (ar.getD k 0 == (g : Int)) = false := by simpa using he
        rw [he'] at htk
        generalize ar.getD k 0 = x at *
        have HTK := hid htk
        clear htk hno
        go_wp2
        go_roundw
        case rel => exact ⟨k + 1, by go_num, by omega, HTK.out, trivial⟩
        case measure => simp [intOf]; omega
    · have hke : decide ((k : Int) < (rl : Int)) = false := by simp; omega
      have hnn : ar.contains (g : Int) = false := by
        rw [List.take_of_length_le (by have := HLEN.out; omega)] at hno
        exact hno
      have HNN := hid hnn
      clear hno hnn HR HLEN
      go_wp2
      go_ret
      exact ⟨by rw [HNN.out]; rfl, HB.out⟩

set_option maxHeartbeats 2000000 in
set_option maxRecDepth 100000 in
theorem rMore_any (a : Option Addr) (len cap : Nat) (l : List Int) (n : Int) (w : World) (hr : Rd .i64 w a len cap l) (hn : (a = none ∧ len = 0 ∧ cap = 0) ∨ 0 < len) (hl : len ≤ 1000) :
    Calls Tryz.prog 127 #[.slice a len cap, .int .i64 n] w fun e w' => Below w.heap.size w w' ∧ ∃ g c, e = .returned (.slice (some ⟨g, 0, none⟩) (len + 1) c) ∧ w'.ownsRow w.heap.size 3 1 (.slice (some ⟨g, 0, none⟩) (len + 1) c) (len + 1) (ints (l ++ [n])) := by
  obtain ⟨i0, hi, hz0, hz1, hz2⟩ := info_parts Tryz.infoInt
  have hcp := hr.hcap
  have hmx := hr.hmax
  unfold maxLen at hmx
  have HLEN := hid hr.hlen
  rcases hn with ⟨rfl, rfl, rfl⟩ | hpos
  · have hl0 : l = [] := List.length_eq_zero_iff.1 HLEN.out
    subst hl0
    clear hr HLEN
    go_enter Tryz.func127, Tryz.ntmps127
    go_wp2_with (at_builtin; refine wpList_append_lies _ rfl (.tmp 9) (.tmp 11) 35 rfl w.heap.size 3 i0 (.int .i64 0) 1 8 Tryz.underlying35 hi hz0 hz1 hz2 rfl (by decide) _ _ _ rfl (World.ownsRow_nil _ _ _ _) ⟨w.heap.size, 0, none⟩ 1 1 [.int .i64 n] rfl rfl (cell_one_new _ _ _) (fun u hu => by rw [List.mem_singleton.1 hu]; rfl) (by decide) (by unfold maxLen; omega) (by omega) (by simp) _ rfl ?_)
    intro g c w5 hown5 hgrow5 hat5 hlt5
    have HF : Hid (Below w.heap.size w w5) := hid (((Below.refl _ _).alloc (Nat.le_refl _) _).grown hgrow5 (by simp) (fun k hk => by cases hk))
    have HO := hid hown5
    clear hown5 hgrow5 hat5
    go_wp2
    go_ret
    exact ⟨HF.out, g, c, rfl, HO.out⟩
  · obtain ⟨b0, off0, rfl, _⟩ := hr.cell 0 hpos
    have HSRC : Hid (∀ j u, (ints l)[j]? = some u → w.cell? ((⟨b0, off0, none⟩ : Addr).add j) = some u) := hid (fun j u hu => by
      have hj : j < l.length := by
        have := (List.getElem?_eq_some_iff.1 hu).1
        rwa [ints_len] at this
      rw [ints_get l j hj] at hu
      obtain ⟨b, off, e, hc⟩ := hr.cell j (by rw [← HLEN.out]; exact hj)
      cases e
      have : (⟨b0, off0, none⟩ : Addr).add j = ⟨b0, off0 + j, none⟩ := by unfold Addr.add; split <;> simp_all
      rw [this, hc]
      exact hu)
    clear hr
    go_enter Tryz.func127, Tryz.ntmps127
    go_wp2_with (at_builtin; refine wpList_append_lies _ rfl (.tmp 6) (.tmp 7) 35 rfl w.heap.size 3 i0 (.int .i64 0) 1 8 Tryz.underlying35 hi hz0 hz1 hz2 rfl (by decide) _ _ _ rfl (World.ownsRow_nil _ _ _ _) ⟨b0, off0, none⟩ len cap (ints l) rfl (by rw [ints_len, HLEN.out, Nat.mul_one]) HSRC.out (ints_one l) (by omega) (by unfold maxLen; omega) (by omega) (by simp) _ rfl ?_)
    intro g c w5 hown5 hgrow5 hat5 hlt5
    have hb5 : Below w.heap.size w w5 := (Below.refl _ _).grown hgrow5 (Nat.le_refl _) (fun k hk => by cases hk)
    have HB5 := hid hb5
    have HO5 := hid hown5
    have hs5 := hb5.size
    clear hown5 hgrow5 hat5 hb5 HSRC
    go_wp2_with (at_builtin; refine wpList_append_lies _ rfl (.tmp 9) (.tmp 11) 35 rfl w.heap.size 3 i0 (.int .i64 0) 1 8 Tryz.underlying35 hi hz0 hz1 hz2 rfl (by decide) _ _ _ rfl (HO5.out.alloc _) ⟨w5.heap.size, 0, none⟩ 1 1 [.int .i64 n] rfl rfl (cell_one_new _ _ _) (fun u hu => by rw [List.mem_singleton.1 hu]; rfl) (by decide) (by unfold maxLen; omega) (by omega) (by simp; omega) _ rfl ?_)
    intro g2 c2 w6 hown6 hgrow6 hat6 hlt6
    have HF : Hid (Below w.heap.size w w6) := hid ((HB5.out.alloc hs5 _).grown hgrow6 (by simp; omega) (fun k hk => (HO5.out.lt k hk).1))
    have HO : Hid (w6.ownsRow w.heap.size 3 1 (.slice (some ⟨g2, 0, none⟩) (len + 1) c2) (len + 1) (ints (l ++ [n]))) := hid (by
      have e : ints (l ++ [n]) = ints l ++ [.int .i64 n] := by simp [ints]
      rw [e]
      exact hown6)
    clear hown6 hgrow6 hat6
    go_wp2
    go_ret
    exact ⟨HF.out, g2, c2, rfl, HO.out⟩
end Go.Proofs.YtffnfjkjlmlonaaGreatDoor
