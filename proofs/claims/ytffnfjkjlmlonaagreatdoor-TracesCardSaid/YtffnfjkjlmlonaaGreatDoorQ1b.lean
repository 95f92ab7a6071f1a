/- The developers' writer in memory, and how it changes; bounds of what is laid. -/
import Derived.Test.YtffnfjkjlmlonaaGreatDoorZ10
import Derived.Deep.AppendLies
import Derived.Deep.RegionLaw
namespace Go.Proofs.YtffnfjkjlmlonaaGreatDoor
open Go.RowKit

/-- The room is not far below 0, and there are no more places than there was room. -/
def BndL (f : Nat) (s : LyD) : Prop := -(f : Int) ≤ s.room ∧ (s.places.length : Int) + s.room ≤ 1000 ∧ s.tree.length ≤ s.places.length
theorem layB_bnd {rec : Int → List Int → LyD → LyD} {f : Nat} {p : List FnD} {bud fn : Int} {ar : List Int} {k : Int} (hr : ∀ b s, BndL 0 s → BndL f (rec b ar s)) : ∀ (l : List OpD) (i : Nat) (s : LyD), BndL f s → BndL (f + 1) (layB rec p bud fn ar k l i s)
  | [], _, s, h => ⟨by have := h.1; show -((f + 1 : Nat) : Int) ≤ s.room; omega, h.2⟩
  | o :: r, i, s, h => by
    unfold layB
    obtain ⟨h1, h2, h3⟩ := h
    by_cases h0 : s.room - 1 < 0
    · rw [if_pos h0]
      exact ⟨by dsimp only; omega, by dsimp only; omega, h3⟩
    · rw [if_neg h0]
      by_cases hi : inlB p bud ar o = true
      · rw [if_pos hi]
        refine layB_bnd hr r (i + 1) _ (hr o.b _ ⟨by dsimp only; omega, ?_, ?_⟩)
        · simp only [List.length_append, List.length_cons, List.length_nil]; omega
        · simp only [List.length_append, List.length_cons, List.length_nil]; omega
      · rw [if_neg hi]
        refine layB_bnd hr r (i + 1) _ ⟨by dsimp only; omega, ?_, ?_⟩
        · simp only [List.length_append, List.length_cons, List.length_nil]; omega
        · simp only [List.length_append, List.length_cons, List.length_nil]; omega
theorem layI_bnd (p : List FnD) (bud : Int) : ∀ (f : Nat) (fn : Int) (ar : List Int) (s : LyD), BndL 0 s → BndL f (layI p bud f fn ar s)
  | 0, _, _, _, h => h
  | f + 1, fn, ar, s, h => layB_bnd (fun b s hs => layI_bnd p bud f b (fn :: ar) s hs) _ _ _ ⟨by have := h.1; omega, h.2⟩

def plCells (x : PlD) : List Value := [.int .i64 x.fn, .int .i64 x.op, .int .i64 x.inst]
def ndCells (x : Int × Int) : List Value := [.int .i64 x.1, .int .i64 x.2]
/-- Blocks that the writer does not write. -/
def KeptW (K : Nat → Option Obj) (wb : Nat) (w : World) (pl tr : Value) : Prop := ∀ b o, K b = some o → w.heap[b]? = some o ∧ b ≠ wb ∧ pl.ownBlock ≠ some b ∧ tr.ownBlock ≠ some b
/-- The writer's parts: its box, and the two rows that it owns; w0 is the world in which the program is read. -/
structure WrIn (K : Nat → Option Obj) (w0 : World) (p : List FnD) (bud first : Int) (wb : Nat) (pa : Option Addr) (pcap : Nat) (pl tr : Value) (w : World) (s : LyD) : Prop where
  box : w.heap[wb]? = some (.cells #[.slice pa p.length pcap, .int .i64 bud, .int .i64 s.room, .int .i64 first, pl, tr] 266 (0, 0))
  prog : RdP w0 pa p.length pcap p
  old : Below w0.heap.size w0 w
  le : w0.heap.size ≤ wb
  pls : w.ownsRow (wb + 1) 270 3 pl s.places.length (s.places.map plCells).flatten
  trs : w.ownsRow (wb + 1) 112 2 tr s.tree.length (s.tree.map ndCells).flatten
  ne : ∀ b, pl.ownBlock = some b → tr.ownBlock ≠ some b
  kept : KeptW K wb w pl tr
def WrAt (K : Nat → Option Obj) (w0 : World) (p : List FnD) (bud first : Int) (wb : Nat) (w : World) (s : LyD) : Prop := ∃ pa pcap pl tr, WrIn K w0 p bud first wb pa pcap pl tr w s

theorem WrIn.lt {K : Nat → Option Obj} {w0 : World} {p : List FnD} {bud first : Int} {wb : Nat} {pa : Option Addr} {pcap : Nat} {pl tr : Value} {w : World} {s : LyD} (h : WrIn K w0 p bud first wb pa pcap pl tr w s) : wb < w.heap.size := (Array.getElem?_eq_some_iff.1 h.box).1
theorem WrIn.below {K : Nat → Option Obj} {w0 : World} {p : List FnD} {bud first : Int} {wb : Nat} {pa : Option Addr} {pcap : Nat} {pl tr : Value} {w w' : World} {s : LyD} (h : WrIn K w0 p bud first wb pa pcap pl tr w s) (hb : Below w.heap.size w w') : WrIn K w0 p bud first wb pa pcap pl tr w' s where
  box := (hb.block wb h.lt).trans h.box
  prog := h.prog
  old := h.old.trans (hb.mono h.old.size)
  le := h.le
  pls := ownsRow_below h.pls hb
  trs := ownsRow_below h.trs hb
  ne := h.ne
  kept := fun b o hk => by
    obtain ⟨h1, h2⟩ := h.kept b o hk
    exact ⟨(hb.block b (Array.getElem?_eq_some_iff.1 h1).1).trans h1, h2⟩
theorem WrAt.below {K : Nat → Option Obj} {w0 : World} {p : List FnD} {bud first : Int} {wb : Nat} {w w' : World} {s : LyD} (h : WrAt K w0 p bud first wb w s) (hb : Below w.heap.size w w') : WrAt K w0 p bud first wb w' s := by
  obtain ⟨pa, pcap, pl, tr, h⟩ := h
  exact ⟨pa, pcap, pl, tr, h.below hb⟩
theorem own_ne {w : World} {base : Nat} {e : TypeId} {size : Nat} {v : Value} {n : Nat} {xs : List Value} (h : w.ownsRow base e size v n xs) {b : Nat} (hb : b < base) : v.ownBlock ≠ some b := fun e => by have := (h.lt b e).1; omega
theorem WrIn.cell {K : Nat → Option Obj} {w0 : World} {p : List FnD} {bud first : Int} {wb : Nat} {pa : Option Addr} {pcap : Nat} {pl tr : Value} {w : World} {s : LyD} (h : WrIn K w0 p bud first wb pa pcap pl tr w s) :
    w.cell? ⟨wb, 0, none⟩ = some (.slice pa p.length pcap) ∧ w.cell? ⟨wb, 1, none⟩ = some (.int .i64 bud) ∧ w.cell? ⟨wb, 2, none⟩ = some (.int .i64 s.room) ∧ w.cell? ⟨wb, 3, none⟩ = some (.int .i64 first) ∧ w.cell? ⟨wb, 4, none⟩ = some pl ∧ w.cell? ⟨wb, 5, none⟩ = some tr ∧ (∀ j, w.frozen? ⟨wb, j, none⟩ = false) := by
  have hk := h.box
  refine ⟨by simp [World.cell?, hk], by simp [World.cell?, hk], by simp [World.cell?, hk], by simp [World.cell?, hk], by simp [World.cell?, hk], by simp [World.cell?, hk], fun j => by simp [World.frozen?, hk]⟩

theorem WrIn.room {K : Nat → Option Obj} {w0 : World} {p : List FnD} {bud first : Int} {wb : Nat} {pa : Option Addr} {pcap : Nat} {pl tr : Value} {w : World} {s : LyD} (h : WrIn K w0 p bud first wb pa pcap pl tr w s) (r : Int) :
    WrIn K w0 p bud first wb pa pcap pl tr (w.setCell ⟨wb, 2, none⟩ (.int .i64 r)) ⟨r, s.places, s.tree⟩ where
  box := by rw [heap_setCell_same w wb 2 _ _ _ h.box]; rfl
  prog := h.prog
  old := h.old.setCell (p := ⟨wb, 2, none⟩) h.le _
  le := h.le
  pls := ownsRow_setCell_other h.pls (own_ne h.pls (Nat.lt_succ_self _)) _
  trs := ownsRow_setCell_other h.trs (own_ne h.trs (Nat.lt_succ_self _)) _
  ne := h.ne
  kept := fun b o hk => by
    obtain ⟨h1, h2, h3⟩ := h.kept b o hk
    exact ⟨(heap_setCell_other w ⟨wb, 2, none⟩ b _ h2).trans h1, h2, h3⟩

theorem owns_grown {w w' : World} {row : Option Nat} {base : Nat} {e : TypeId} {size : Nat} {v : Value} {n : Nat} {xs : List Value} (h : w.ownsRow base e size v n xs) (hg : w.grownBy w' row) (hne : ∀ b, v.ownBlock = some b → row ≠ some b) : w'.ownsRow base e size v n xs := by
  refine ⟨h.1, ?_⟩
  rcases h.2 with h2 | ⟨g, cap, cur, h1, h2, h3, h4⟩
  · exact .inl h2
  · exact .inr ⟨g, cap, cur, h1, h2, (hg.block g (Array.getElem?_eq_some_iff.1 h3).1 (fun e => hne g (by rw [h1]; rfl) e.symm)).trans h3, h4⟩

/-- A place more: what an append of it leaves, stored. -/
theorem WrIn.addPl {K : Nat → Option Obj} {w0 : World} {p : List FnD} {bud first : Int} {wb : Nat} {pa : Option Addr} {pcap : Nat} {pl tr : Value} {w w' : World} {s : LyD} (h : WrIn K w0 p bud first wb pa pcap pl tr w s) (x : PlD) {g c : Nat}
    (hg : w.grownBy w' pl.ownBlock) (hat : pl.ownBlock = some g ∨ g = w.heap.size) (ho : w'.ownsRow (wb + 1) 270 3 (.slice (some ⟨g, 0, none⟩) (s.places.length + 1) c) (s.places.length + 1) ((s.places.map plCells).flatten ++ plCells x)) :
    WrIn K w0 p bud first wb pa pcap (.slice (some ⟨g, 0, none⟩) (s.places.length + 1) c) tr (w'.setCell ⟨wb, 4, none⟩ (.slice (some ⟨g, 0, none⟩) (s.places.length + 1) c)) ⟨s.room, s.places ++ [x], s.tree⟩ where
  box := by
    rw [heap_setCell_same w' wb 4 _ _ _ ((hg.block wb h.lt (fun e => own_ne h.pls (Nat.lt_succ_self _) e.symm)).trans h.box)]; rfl
  prog := h.prog
  old := (h.old.grown hg h.old.size (fun k hk => by have := (h.pls.lt k hk).1; have := h.le; omega)).setCell (p := ⟨wb, 4, none⟩) h.le _
  le := h.le
  pls := by
    have hl : (s.places ++ [x]).length = s.places.length + 1 := by simp
    have hc : ((s.places ++ [x]).map plCells).flatten = (s.places.map plCells).flatten ++ plCells x := by simp
    show World.ownsRow _ _ _ _ _ (s.places ++ [x]).length ((s.places ++ [x]).map plCells).flatten
    rw [hl, hc]
    exact ownsRow_setCell_other ho (own_ne ho (Nat.lt_succ_self _)) _
  trs := ownsRow_setCell_other (owns_grown h.trs hg (fun b hb e => h.ne b e hb)) (own_ne h.trs (Nat.lt_succ_self _)) _
  ne := fun b hb e => by
    simp [Value.ownBlock] at hb
    subst hb
    rcases hat with h1 | h1
    · exact h.ne g h1 e
    · have := (h.trs.lt g e).2; omega
  kept := fun b o hk => by
    obtain ⟨h1, h2, h3, h4⟩ := h.kept b o hk
    have hlt := (Array.getElem?_eq_some_iff.1 h1).1
    refine ⟨(heap_setCell_other w' ⟨wb, 4, none⟩ b _ h2).trans ((hg.block b hlt (fun e => h3 e.symm)).trans h1), h2, fun e => ?_, h4⟩
    simp [Value.ownBlock] at e
    subst e
    rcases hat with h5 | h5
    · exact h3 h5
    · omega

/-- A node more. -/
theorem WrIn.addNd {K : Nat → Option Obj} {w0 : World} {p : List FnD} {bud first : Int} {wb : Nat} {pa : Option Addr} {pcap : Nat} {pl tr : Value} {w w' : World} {s : LyD} (h : WrIn K w0 p bud first wb pa pcap pl tr w s) (x : Int × Int) {g c : Nat}
    (hg : w.grownBy w' tr.ownBlock) (hat : tr.ownBlock = some g ∨ g = w.heap.size) (ho : w'.ownsRow (wb + 1) 112 2 (.slice (some ⟨g, 0, none⟩) (s.tree.length + 1) c) (s.tree.length + 1) ((s.tree.map ndCells).flatten ++ ndCells x)) :
    WrIn K w0 p bud first wb pa pcap pl (.slice (some ⟨g, 0, none⟩) (s.tree.length + 1) c) (w'.setCell ⟨wb, 5, none⟩ (.slice (some ⟨g, 0, none⟩) (s.tree.length + 1) c)) ⟨s.room, s.places, s.tree ++ [x]⟩ where
  box := by
    rw [heap_setCell_same w' wb 5 _ _ _ ((hg.block wb h.lt (fun e => own_ne h.trs (Nat.lt_succ_self _) e.symm)).trans h.box)]; rfl
  prog := h.prog
  old := (h.old.grown hg h.old.size (fun k hk => by have := (h.trs.lt k hk).1; have := h.le; omega)).setCell (p := ⟨wb, 5, none⟩) h.le _
  le := h.le
  pls := ownsRow_setCell_other (owns_grown h.pls hg (fun b hb e => h.ne b hb e)) (own_ne h.pls (Nat.lt_succ_self _)) _
  trs := by
    have hl : (s.tree ++ [x]).length = s.tree.length + 1 := by simp
    have hc : ((s.tree ++ [x]).map ndCells).flatten = (s.tree.map ndCells).flatten ++ ndCells x := by simp
    show World.ownsRow _ _ _ _ _ (s.tree ++ [x]).length ((s.tree ++ [x]).map ndCells).flatten
    rw [hl, hc]
    exact ownsRow_setCell_other ho (own_ne ho (Nat.lt_succ_self _)) _
  ne := fun b hb e => by
    simp [Value.ownBlock] at e
    subst e
    rcases hat with h1 | h1
    · exact h.ne g hb h1
    · have := (h.pls.lt g hb).2; omega
  kept := fun b o hk => by
    obtain ⟨h1, h2, h3, h4⟩ := h.kept b o hk
    have hlt := (Array.getElem?_eq_some_iff.1 h1).1
    refine ⟨(heap_setCell_other w' ⟨wb, 5, none⟩ b _ h2).trans ((hg.block b hlt (fun e => h4 e.symm)).trans h1), h2, h3, fun e => ?_⟩
    simp [Value.ownBlock] at e
    subst e
    rcases hat with h5 | h5
    · exact h4 h5
    · omega

theorem Tryz.infoPlace : (Tryz.prog.info? 270).map (fun i => (i.zero, i.size, i.bytes)) = some (some (.agg #[.int .i64 0, .int .i64 0, .int .i64 0]), 3, 24) := by kernel_rfl
theorem Tryz.infoNodeQ : (Tryz.prog.info? 112).map (fun i => (i.zero, i.size, i.bytes)) = some (some (.agg #[.int .i64 0, .int .i64 0]), 2, 16) := by kernel_rfl
theorem new3_at {w : World} {n : Nat} (h : w.heap.size = n) (a b c : Value) (t : TypeId) : ∀ j u, [a, b, c][j]? = some u → (w.alloc (.cells #[a, b, c] t)).cell? ((⟨n, 0, none⟩ : Addr).add j) = some u := by
  subst h
  intro j u hu
  match j, hu with
  | 0, hu => simp at hu; subst hu; simp [Addr.add]
  | 1, hu => simp at hu; subst hu; simp [Addr.add]
  | 2, hu => simp at hu; subst hu; simp [Addr.add]
theorem new2_at {w : World} {n : Nat} (h : w.heap.size = n) (a b : Value) (t : TypeId) : ∀ j u, [a, b][j]? = some u → (w.alloc (.cells #[a, b] t)).cell? ((⟨n, 0, none⟩ : Addr).add j) = some u := by
  subst h
  intro j u hu
  match j, hu with
  | 0, hu => simp at hu; subst hu; simp [Addr.add]
  | 1, hu => simp at hu; subst hu; simp [Addr.add]
theorem one3 (a b c : Int) : ∀ u ∈ [Value.int .i64 a, .int .i64 b, .int .i64 c], u.oneCell' = true := by
  intro u hu; simp at hu; rcases hu with rfl | rfl | rfl <;> rfl
theorem one2 (a b : Int) : ∀ u ∈ [Value.int .i64 a, .int .i64 b], u.oneCell' = true := by
  intro u hu; simp at hu; rcases hu with rfl | rfl <;> rfl

/-- A box that is kept beside the rest. -/
def withK (K : Nat → Option Obj) (b : Nat) (o : Obj) : Nat → Option Obj := fun x => if x = b then some o else K x
theorem WrIn.keep {K : Nat → Option Obj} {w0 : World} {p : List FnD} {bud first : Int} {wb : Nat} {pa : Option Addr} {pcap : Nat} {pl tr : Value} {w : World} {s : LyD} (h : WrIn K w0 p bud first wb pa pcap pl tr w s) {b : Nat} {o : Obj} (hb : w.heap[b]? = some o) (h1 : b ≠ wb) (h2 : pl.ownBlock ≠ some b) (h3 : tr.ownBlock ≠ some b) : WrIn (withK K b o) w0 p bud first wb pa pcap pl tr w s :=
  ⟨h.box, h.prog, h.old, h.le, h.pls, h.trs, h.ne, fun x y hk => by
    unfold withK at hk
    split at hk
    · next e => subst e; cases hk; exact ⟨hb, h1, h2, h3⟩
    · exact h.kept x y hk⟩
theorem WrIn.drop {K : Nat → Option Obj} {w0 : World} {p : List FnD} {bud first : Int} {wb : Nat} {pa : Option Addr} {pcap : Nat} {pl tr : Value} {w : World} {s : LyD} {b : Nat} {o : Obj} (h : WrIn (withK K b o) w0 p bud first wb pa pcap pl tr w s) (hK : K b = none) : WrIn K w0 p bud first wb pa pcap pl tr w s ∧ w.heap[b]? = some o :=
  ⟨⟨h.box, h.prog, h.old, h.le, h.pls, h.trs, h.ne, fun x y hk => h.kept x y (by unfold withK; rw [if_neg (fun e => by subst e; rw [hK] at hk; cases hk)]; exact hk)⟩, (h.kept b o (by unfold withK; rw [if_pos rfl])).1⟩
end Go.Proofs.YtffnfjkjlmlonaaGreatDoor
