/- The contract of the developers' reader's method entry. -/
import Derived.Test.YtooinlilplecpaaDoorI6
namespace Go.Proofs.YtooinlilplecpaaDoor
open Go.RowKit

theorem KeepT.owns {w w' : World} {base : Nat} {e : TypeId} {size : Nat} {v : Value} {n : Nat} {xs : List Value} (hk : KeepT w w') (h : w.ownsRow base e size v n xs) (he : kT e = true) : w'.ownsRow base e size v n xs := by
  refine ⟨h.1, ?_⟩
  rcases h.2 with hn | ⟨g, cap, cur, rfl, hg, hh, r⟩
  · exact .inl hn
  · exact .inr ⟨g, cap, cur, rfl, hg, hk.block g _ _ _ hh he, r⟩
theorem KeepT.setNew {a w : World} {eb : Nat} (h : KeepT a w) (he : a.heap.size ≤ eb) (j : Nat) (u : Value) : KeepT a (w.setCell ⟨eb, j, none⟩ u) :=
  ⟨by rw [show (w.setCell ⟨eb, j, none⟩ u).heap.size = w.heap.size by simp [World.setCell]]; exact h.size, fun b cs t fz hb ht => (Below.heap_setCell _ _ _ _ (fun e => by have := (Array.getElem?_eq_some_iff.1 hb).1; simp at e; omega)).trans (h.block b cs t fz hb ht)⟩

theorem rdsOf {w : World} {base n : Nat} {e : TypeId} {v : Value} {l : List (Int × Int)} (h : w.ownsRow base e 2 v n (flat l)) (hl : l.length = n) : ∃ a cap, v = .slice a n cap ∧ RdS w a n cap l := by
  rcases h.2 with ⟨rfl, rfl⟩ | ⟨g, cap, cur, rfl, hg, hh, h1, h2, h3, h4⟩
  · exact ⟨none, 0, rfl, hl, Nat.le_refl _, by unfold maxLen; omega, fun i hi => by omega⟩
  · have hw : w.ownsRow base e 2 (.slice (some ⟨g, 0, none⟩) n cap) n (flat l) := ⟨h.1, .inr ⟨g, cap, cur, rfl, hg, hh, h1, h2, h3, h4⟩⟩
    have fget : ∀ (l : List (Int × Int)) (i : Nat), i < l.length → (flat l)[i * 2]? = some (.int .i64 (l.getD i (0, 0)).1) ∧ (flat l)[i * 2 + 1]? = some (.int .i64 (l.getD i (0, 0)).2) := by
      intro l
      induction l with
      | nil => intro i hi; simp at hi
      | cons p t ih =>
        intro i hi
        cases i with
        | zero => simp [flat]
        | succ i =>
          have := ih i (by simpa using hi)
          have e1 : (i + 1) * 2 = i * 2 + 2 := by omega
          have e2 : flat (p :: t) = [.int .i64 p.1, .int .i64 p.2] ++ flat t := by simp [flat]
          rw [e1, e2, List.getElem?_append_right (by simp), List.getElem?_append_right (by simp)]
          simpa using this
    refine ⟨some ⟨g, 0, none⟩, cap, rfl, hl, h1, h2, fun i hi => ⟨g, 0, rfl, ?_, ?_⟩⟩
    · rw [Nat.zero_add, hw.cellAt (i * 2) (by omega)]; exact (fget l i (by omega)).1
    · rw [Nat.zero_add, hw.cellAt (i * 2 + 1) (by omega)]; exact (fget l i (by omega)).2

theorem RdrAt.box {w0 : World} {b : Value} {rb : Nat} {w : World} {s : RsD} (h : RdrAt w0 b rb w s) : ∃ nv fv, w.heap[rb]? = some (.cells (rdA b s nv fv) 34 (0, 0)) := by
  obtain ⟨nv, fv, hk, _⟩ := h
  exact ⟨nv, fv, hk⟩
theorem RdrAt.lt {w0 : World} {b : Value} {rb : Nat} {w : World} {s : RsD} (h : RdrAt w0 b rb w s) : rb < w.heap.size := by
  obtain ⟨nv, fv, hk, _⟩ := h
  exact OnlyR.lt hk
theorem RdrAt.rb {w0 : World} {b : Value} {rb : Nat} {w : World} {s : RsD} (h : RdrAt w0 b rb w s) : w0.heap.size ≤ rb := by
  obtain ⟨nv, fv, hk, _, h1, _⟩ := h
  exact h1
theorem RdrAt.since {w0 : World} {b : Value} {rb : Nat} {w : World} {s : RsD} (h : RdrAt w0 b rb w s) : Below w0.heap.size w0 w := by
  obtain ⟨nv, fv, hk, h1, _⟩ := h
  exact h1
theorem RdrAt.below {w0 : World} {b : Value} {rb : Nat} {w w' : World} {s : RsD} (h : RdrAt w0 b rb w s) (hb : Below w.heap.size w w') : RdrAt w0 b rb w' s := by
  obtain ⟨nv, fv, hk, h1, h2, h3, h4, h5⟩ := h
  exact ⟨nv, fv, (hb.block rb (OnlyR.lt hk)).trans hk, h1.trans (hb.mono h1.size), h2, ownsRow_block h3 (fun k _ hk2 => hb.block k hk2), ownsRow_block h4 (fun k _ hk2 => hb.block k hk2), h5⟩
/-- A store into a block of another kind. -/
theorem RdrAt.setOther {w0 : World} {b : Value} {rb eb : Nat} {w : World} {s : RsD} {cs : Array Value} {fz : Nat × Nat} (h : RdrAt w0 b rb w s) (he : w.heap[eb]? = some (.cells cs 41 fz)) (h0 : w0.heap.size ≤ eb) (j : Nat) (u : Value) : RdrAt w0 b rb (w.setCell ⟨eb, j, none⟩ u) s := by
  obtain ⟨nv, fv, hk, h1, h2, h3, h4, h5⟩ := h
  have hne : rb ≠ eb := fun e => by subst e; rw [hk] at he; cases he
  refine ⟨nv, fv, (Below.heap_setCell _ _ _ _ hne).trans hk, h1.setCell (p := ⟨eb, j, none⟩) h0 _, h2, ?_, ?_, h5⟩
  · exact ownsRow_setCell_other h3 (fun e => owns_other h3 he (by decide) e.symm) _
  · exact ownsRow_setCell_other h4 (fun e => owns_other h4 he (by decide) e.symm) _

/-- A method that writes the reader's box alone. -/
theorem RdrAt.next {w0 : World} {b : Value} {rb : Nat} {w w' : World} {s s' : RsD} (h : RdrAt w0 b rb w s) (ho : OnlyR rb w w') (hk : ∀ nv fv, w.heap[rb]? = some (.cells (rdA b s nv fv) 34 (0, 0)) → w'.heap[rb]? = some (.cells (rdA b s' nv fv) 34 (0, 0))) (e1 : s'.names = s.names) (e2 : s'.files = s.files) : RdrAt w0 b rb w' s' ∧ KeepT w w' := by
  obtain ⟨nv, fv, hk0, h1, h2, h3, h4, h5, h6, h7⟩ := h
  exact ⟨RdrAt.only hk0 h1 h2 h3 h4 h5 h6 h7 ho (hk nv fv hk0) e1 e2, KeepT.only ho hk0⟩

section
variable (w0 : World) (ba : Option Addr) (blen bcap : Nat) (bs : List Int) (rb : Nat) (s : RsD) (w : World)

theorem take_at (hR : RdrAt w0 (.slice ba blen bcap) rb w s) (m : Bool) :
    Calls Tryd.prog 11 #[.pointer (some ⟨rb, 0, none⟩), .bool m] w fun e w' => e = .returned (.tuple #[]) ∧ RdrAt w0 (.slice ba blen bcap) rb w' (rTake s m) ∧ KeepT w w' := by
  obtain ⟨nv, fv, hk⟩ := hR.box
  refine (take_any rb (.slice ba blen bcap) nv fv s m w hk).mono fun e w' ⟨he, ho, hk'⟩ => ⟨he, ?_⟩
  exact hR.next ho (fun nv' fv' h => by rw [hk] at h; cases h; exact hk') (rTake_nf s m).1 (rTake_nf s m).2.1

theorem rtable_at (hR : RdrAt w0 (.slice ba blen bcap) rb w s) (hb0 : Rd .u8 w0 ba blen bcap bs) (hx : ∀ j, 0 ≤ bs.getD j 0 ∧ bs.getD j 0 ≤ 255) :
    Calls Tryd.prog 22 #[.pointer (some ⟨rb, 0, none⟩)] w fun e w' => ∃ v, e = .returned v ∧ RdrAt w0 (.slice ba blen bcap) rb w' (rTab bs s).2 ∧ KeepT w w' ∧ w'.ownsRow w.heap.size 72 2 v (rTab bs s).1.length (flat (rTab bs s).1) := by
  obtain ⟨nv, fv, hk⟩ := hR.box
  refine (rtable_any rb ba blen bcap bs nv fv s w hk (hb0.below hR.since (Nat.le_refl _)) hx).mono fun e w' ⟨v, he, ho, hk', hown⟩ => ⟨v, he, ?_⟩
  have := hR.next ho (fun nv' fv' h => by rw [hk] at h; cases h; exact hk') (rTab_nf bs s).1 (rTab_nf bs s).2.1
  exact ⟨this.1, this.2, hown⟩

theorem rTreeF_nf (inst : List Int) (funcs last : Int) : ∀ (f : Nat) (k before : Int) (l : List (Int × Int)) (s : RsD), (rTreeF bs inst funcs last f k before l s).2.names = s.names ∧ (rTreeF bs inst funcs last f k before l s).2.files = s.files ∧ (rTreeF bs inst funcs last f k before l s).2.room = s.room
  | 0, _, _, _, _ => ⟨rfl, rfl, rfl⟩
  | f + 1, k, before, l, s => by
    rw [rTreeF_succ]
    split
    · have := rTreeF_nf inst funcs last f (k + 1) (rNode bs s inst funcs k before).1.2 (l ++ [(rNode bs s inst funcs k before).1]) (rNode bs s inst funcs k before).2
      have h1 : (rNode bs s inst funcs k before).2.names = s.names ∧ (rNode bs s inst funcs k before).2.files = s.files ∧ (rNode bs s inst funcs k before).2.room = s.room := by
        unfold rNode
        simp only
        refine ⟨?_, ?_, ?_⟩
        · rw [(rTake_nf _ _).1, (rNum_nf _ _).1, (rTake_nf _ _).1, (rNum_nf _ _).1]
        · rw [(rTake_nf _ _).2.1, (rNum_nf _ _).2.1, (rTake_nf _ _).2.1, (rNum_nf _ _).2.1]
        · rw [(rTake_nf _ _).2.2, (rNum_nf _ _).2.2, (rTake_nf _ _).2.2, (rNum_nf _ _).2.2]
      exact ⟨this.1.trans h1.1, this.2.1.trans h1.2.1, this.2.2.trans h1.2.2⟩
    · exact ⟨rfl, rfl, rfl⟩

theorem rtree_at (hR : RdrAt w0 (.slice ba blen bcap) rb w s) (hb0 : Rd .u8 w0 ba blen bcap bs) (hne : ∀ q, ba = some q → q.block < w0.heap.size) (hx : ∀ j, 0 ≤ bs.getD j 0 ∧ bs.getD j 0 ≤ 255) (hi : InvR bs s)
    (xa : Option Addr) (xlen xcap : Nat) (index : List (Int × Int)) (funcs : Int) (hr : RdS w xa xlen xcap index) (hwf : wfS index (-1) 1000 = true) :
    Calls Tryd.prog 25 #[.pointer (some ⟨rb, 0, none⟩), .slice xa xlen xcap, .int .i64 funcs] w fun e w' => ∃ v, e = .returned v ∧ RdrAt w0 (.slice ba blen bcap) rb w' (rTree bs s index funcs).2 ∧ KeepT w w' ∧ w'.ownsRow w.heap.size 64 2 v (rTree bs s index funcs).1.length (flat (rTree bs s index funcs).1) := by
  obtain ⟨nv, fv, hk⟩ := hR.box
  have hrb := hR.rb
  refine (rtree_any rb ba blen bcap bs nv fv s xa xlen xcap index funcs w hk (hb0.below hR.since (Nat.le_refl _)) (fun q hq => by have := hne q hq; omega) hx hi hr hwf).mono fun e w' ⟨v, he, ho, hk', hown⟩ => ⟨v, he, ?_⟩
  have hnf := rTreeF_nf bs (unroll index) funcs (mostT index) (mostT index).toNat 1 (-1) [] s
  have := hR.next ho (fun nv' fv' h => by rw [hk] at h; cases h; exact hk') hnf.1 hnf.2.1
  exact ⟨this.1, this.2, hown⟩
end

theorem wfS_of_getT (bs : List Int) (hx : ∀ j, 0 ≤ bs.getD j 0 ∧ bs.getD j 0 ≤ 255) (s : RsD) : wfS (rTab bs s).1 (-1) 1000 = true := by
  unfold rTab
  split
  · rfl
  · simp only
    by_cases h : (getT bs s.at_).2.2 = 0
    · have := (getT_inv bs hx s.at_ h).2
      unfold wfT at this
      rw [Bool.and_eq_true] at this
      exact this.1
    · have he : (getT bs s.at_).1 = [] := by
        unfold getT at h ⊢
        split
        · rfl
        · rename_i h0
          rw [if_neg h0] at h
          have : ∀ (f : Nat) (acc : List (Int × Int)) (at_ b r : Int), (getTF bs f acc at_ b r).2.2 ≠ 0 → (getTF bs f acc at_ b r).1 = [] := by
            intro f
            induction f with
            | zero => intro acc at_ b r _; rfl
            | succ f ih =>
              intro acc at_ b r hh
              rw [getTF_succ] at hh ⊢
              split
              · rename_i h1; rw [if_pos h1] at hh; simp at hh
              · rename_i h1
                rw [if_neg h1] at hh
                split
                · rfl
                · rename_i h2
                  rw [if_neg h2] at hh
                  exact ih _ _ _ _ hh
          exact this _ _ _ _ _ h
      rw [he]; rfl
end Go.Proofs.YtooinlilplecpaaDoor
