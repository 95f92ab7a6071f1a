/- Contracts of the developers' reader's methods head and end. The contract of the developers' image.Decode: what the plain reader reads of the bytes, in memory of the call's own; nothing that was there is written. -/
import Derived.Test.YtffnfjkjlmlonaaGreatDoorI8
namespace Go.Proofs.YtffnfjkjlmlonaaGreatDoor
open Go.RowKit
/-- The package-level table of the head reads as the program's text lays it. -/
def HeadAt (w : World) : Prop := w.cell? ⟨0, 0, none⟩ = some (.int .u8 85) ∧ w.cell? ⟨0, 1, none⟩ = some (.int .u8 70) ∧ w.cell? ⟨0, 2, none⟩ = some (.int .u8 1)
theorem HeadAt.below {w w' : World} {B : Nat} (h : HeadAt w) (hb : Below B w w') (hB : w.heap.size ≤ B) : HeadAt w' := by
  have hlt := World.block_lt_of_cell? w _ h.1
  exact ⟨(hb.cell (p := ⟨0, 0, none⟩) (by simp at hlt ⊢; omega)).trans h.1, (hb.cell (p := ⟨0, 1, none⟩) (by simp at hlt ⊢; omega)).trans h.2.1, (hb.cell (p := ⟨0, 2, none⟩) (by simp at hlt ⊢; omega)).trans h.2.2⟩
theorem HeadAt.lt {w : World} (h : HeadAt w) : 0 < w.heap.size := World.block_lt_of_cell? w _ h.1
theorem head_index (k : Nat) (hk : k < 3) : ∃ c : Int, [(85 : Int), 70, 1].drop k = c :: [(85 : Int), 70, 1].drop (k + 1) ∧ ∀ W, (Instr.index 191 (.agg #[.int .u8 85, .int .u8 70, .int .u8 1]) (.int .i64 (k : Int))).run Tryz.prog W = .ok (.int .u8 c) W := by
  match k, hk with
  | 0, _ => exact ⟨85, rfl, fun _ => by kernel_rfl⟩
  | 1, _ => exact ⟨70, rfl, fun _ => by kernel_rfl⟩
  | 2, _ => exact ⟨1, rfl, fun _ => by kernel_rfl⟩
set_option maxHeartbeats 1000000 in
set_option maxRecDepth 100000 in
theorem rhead_any (rb : Nat) (ba : Option Addr) (blen bcap : Nat) (bs : List Int) (nv fv : Value) (s : RsD) (w : World) (hk : w.heap[rb]? = some (.cells (rdA (.slice ba blen bcap) s nv fv) 206 (0, 0))) (hb : Rd .u8 w ba blen bcap bs) (hH : HeadAt w) :
    Calls Tryz.prog 156 #[.pointer (some ⟨rb, 0, none⟩)] w fun e w' => e = .returned (.tuple #[]) ∧ OnlyR rb w w' ∧ w'.heap[rb]? = some (.cells (rdA (.slice ba blen bcap) (rHead bs s) nv fv) 206 (0, 0)) := by
  unfold rdA at hk
  have HL := hid hb.hlen
  have hmax := hb.hmax
  have hcap := hb.hcap
  unfold maxLen at hmax
  have c0 : w.cell? ⟨rb, 0, none⟩ = some (.slice ba blen bcap) := by simp [World.cell?, hk]
  have c1 : w.cell? ⟨rb, 1, none⟩ = some (.int .i64 s.at_) := by simp [World.cell?, hk]
  have c3 : w.cell? ⟨rb, 3, none⟩ = some (.int .i64 s.e) := by simp [World.cell?, hk]
  have f1 : w.frozen? ⟨rb, 1, none⟩ = false := by simp [World.frozen?, hk]
  have f3 : w.frozen? ⟨rb, 3, none⟩ = false := by simp [World.frozen?, hk]
  obtain ⟨g0, g1, g2⟩ := hH
  have HK := hid hk
  clear hk
  go_enter Tryz.func156, Tryz.ntmps156
  go_wp2
  go_loop [5] (fun i => ∃ k : Nat, i = .int .i64 k ∧ k ≤ 3 ∧ k ≤ blen ∧ rHead bs s = rHeadF bs k ([(85 : Int), 70, 1].drop k) s) (fun i => 3 - (intOf i).toNat)
  case atStart => exact ⟨0, rfl, by omega, by omega, rfl⟩
  case round =>
    clear g0 g1 g2
    obtain ⟨k, rfl, hk3, hkl, hrel⟩ := hrel
    by_cases h3 : k < 3
    · obtain ⟨c, hd, hidx⟩ := head_index k h3
      rw [hd] at hrel
      have h3' : (k : Int) < 3 := by omega
      by_cases hlt : k < blen
      · obtain ⟨b, off, rfl, hc⟩ := hb.open (by omega)
        have ck := hc k hlt
        have hlt' : ¬ (blen : Int) ≤ (k : Int) := by omega
        obtain ⟨x, hx⟩ : ∃ x, x = bs.getD k 0 := ⟨_, rfl⟩
        rw [← hx] at ck
        unfold rHeadF at hrel
        rw [if_neg (by rw [HL.out]; omega), ← hx] at hrel
        clear hc hb hd hx
        by_cases hxc : x = c
        · have hxc' : (x != c) = false := by simpa using hxc
          rw [if_neg (by simpa using hxc)] at hrel
          have HR := hid hrel
          clear hrel hxc
          go_wp2
          go_round
          case rel => exact ⟨k + 1, by go_num, by omega, by omega, HR.out⟩
          case measure => simp [intOf]; omega
        · have hxc' : (x != c) = true := by simpa using hxc
          rw [if_pos hxc] at hrel
          have HF : Hid (OnlyR rb w (w.setCell ⟨rb, 3, none⟩ (.int .i64 8)) ∧ (w.setCell ⟨rb, 3, none⟩ (.int .i64 8)).heap[rb]? = some (.cells (rdA (.slice (some ⟨b, off, none⟩) blen bcap) (rHead bs s) nv fv) 206 (0, 0))) := by
            refine ⟨(OnlyR.refl _ _).setCell _ _, ?_⟩
            rw [heap_setCell_same w rb 3 _ _ _ HK.out, hrel]; rfl
          clear hrel hxc
          go_wp2
          exact bodyPost_ret (v := .tuple #[]) (results_none Tryz.results156 _ _ _) rfl ⟨rfl, HF.out⟩
      · have hlt' : (blen : Int) ≤ (k : Int) := by omega
        unfold rHeadF at hrel
        rw [if_pos (by rw [HL.out]; omega)] at hrel
        have HF : Hid (OnlyR rb w (w.setCell ⟨rb, 3, none⟩ (.int .i64 2)) ∧ (w.setCell ⟨rb, 3, none⟩ (.int .i64 2)).heap[rb]? = some (.cells (rdA (.slice ba blen bcap) (rHead bs s) nv fv) 206 (0, 0))) := by
          refine ⟨(OnlyR.refl _ _).setCell _ _, ?_⟩
          rw [heap_setCell_same w rb 3 _ _ _ HK.out, hrel]; rfl
        clear hrel hd
        go_wp2
        exact bodyPost_ret (v := .tuple #[]) (results_none Tryz.results156 _ _ _) rfl ⟨rfl, HF.out⟩
    · have hk' : k = 3 := by omega
      subst hk'
      have HF : Hid (OnlyR rb w (w.setCell ⟨rb, 1, none⟩ (.int .i64 3)) ∧ (w.setCell ⟨rb, 1, none⟩ (.int .i64 3)).heap[rb]? = some (.cells (rdA (.slice ba blen bcap) (rHead bs s) nv fv) 206 (0, 0))) := by
        refine ⟨(OnlyR.refl _ _).setCell _ _, ?_⟩
        rw [heap_setCell_same w rb 1 _ _ _ HK.out, hrel]; rfl
      clear hrel
      go_wp2
      exact bodyPost_end (v := .tuple #[]) (results_none Tryz.results156 _ _ _) rfl ⟨rfl, HF.out⟩
set_option maxHeartbeats 1000000 in
set_option maxRecDepth 100000 in
theorem rend_any (rb : Nat) (ba : Option Addr) (blen bcap : Nat) (bs : List Int) (nv fv : Value) (s : RsD) (w : World) (hk : w.heap[rb]? = some (.cells (rdA (.slice ba blen bcap) s nv fv) 206 (0, 0))) (hl : bs.length = blen) :
    Calls Tryz.prog 161 #[.pointer (some ⟨rb, 0, none⟩)] w fun e w' => e = .returned (.tuple #[]) ∧ OnlyR rb w w' ∧ w'.heap[rb]? = some (.cells (rdA (.slice ba blen bcap) (rEnd bs s) nv fv) 206 (0, 0)) := by
  unfold rdA at hk
  have c0 : w.cell? ⟨rb, 0, none⟩ = some (.slice ba blen bcap) := by simp [World.cell?, hk]
  have c1 : w.cell? ⟨rb, 1, none⟩ = some (.int .i64 s.at_) := by simp [World.cell?, hk]
  have c3 : w.cell? ⟨rb, 3, none⟩ = some (.int .i64 s.e) := by simp [World.cell?, hk]
  have f3 : w.frozen? ⟨rb, 3, none⟩ = false := by simp [World.frozen?, hk]
  have HL := hid hl
  by_cases he : s.e = 0
  · have he' : (s.e == 0) = true := by simpa using he
    by_cases ha : s.at_ < (blen : Int)
    · have HF : Hid (OnlyR rb w (w.setCell ⟨rb, 3, none⟩ (.int .i64 8)) ∧ (w.setCell ⟨rb, 3, none⟩ (.int .i64 8)).heap[rb]? = some (.cells (rdA (.slice ba blen bcap) (rEnd bs s) nv fv) 206 (0, 0))) := by
        refine ⟨(OnlyR.refl _ _).setCell _ _, ?_⟩
        unfold rEnd
        rw [heap_setCell_same w rb 3 _ _ _ hk, if_pos ⟨he, by rw [HL.out]; exact ha⟩]; rfl
      clear hk he hl
      go_enter Tryz.func161, Tryz.ntmps161
      go_wp2
      go_region
      all_goals
        go_wp2
        exact bodyPost_end (v := .tuple #[]) (results_none Tryz.results161 _ _ _) rfl ⟨rfl, ⟨rfl, rfl, rfl, HF.out.1.size, HF.out.1.block⟩, HF.out.2⟩
    · have ha' : decide (s.at_ < (blen : Int)) = false := by simpa using ha
      have HF : Hid (w.heap[rb]? = some (.cells (rdA (.slice ba blen bcap) (rEnd bs s) nv fv) 206 (0, 0))) := by
        show _ = _
        unfold rEnd
        rw [if_neg (fun h => ha (by rw [← HL.out]; exact h.2))]
        exact hk
      clear hk he hl
      go_enter Tryz.func161, Tryz.ntmps161
      go_wp2
      go_region
      all_goals
        go_wp2
        exact bodyPost_end (v := .tuple #[]) (results_none Tryz.results161 _ _ _) rfl ⟨rfl, (OnlyR.refl _ _).drewN _, HF.out⟩
  · have he' : (s.e == 0) = false := by simpa using he
    have HF : Hid (w.heap[rb]? = some (.cells (rdA (.slice ba blen bcap) (rEnd bs s) nv fv) 206 (0, 0))) := by
      show _ = _
      unfold rEnd
      rw [if_neg (fun h => he h.1)]
      exact hk
    clear hk he hl
    go_enter Tryz.func161, Tryz.ntmps161
    go_wp2
    go_region
    all_goals
      go_wp2
      exact bodyPost_end (v := .tuple #[]) (results_none Tryz.results161 _ _ _) rfl ⟨rfl, (OnlyR.refl _ _).drewN _, HF.out⟩
end Go.Proofs.YtffnfjkjlmlonaaGreatDoor
namespace Go.Proofs.YtffnfjkjlmlonaaGreatDoor
open Go.RowKit
/-- The blocks of some kinds are as they were. -/
structure KeepP (p : TypeId → Bool) (w w' : World) : Prop where
  size : w.heap.size ≤ w'.heap.size
  block : ∀ (b : Nat) (cs : Array Value) (t : TypeId) (fz : Nat × Nat), w.heap[b]? = some (Obj.cells cs t fz) → p t = true → w'.heap[b]? = some (Obj.cells cs t fz)
section
variable {p : TypeId → Bool}
theorem KeepP.refl (w : World) : KeepP p w w := ⟨Nat.le_refl _, fun _ _ _ _ h _ => h⟩
theorem KeepP.trans {a b c : World} (h : KeepP p a b) (k : KeepP p b c) : KeepP p a c := ⟨Nat.le_trans h.size k.size, fun b cs t fz hb ht => k.block b cs t fz (h.block b cs t fz hb ht) ht⟩
theorem KeepP.below {w w' : World} (h : Below w.heap.size w w') : KeepP p w w' := ⟨h.size, fun b _ _ _ hb _ => (h.block b (Array.getElem?_eq_some_iff.1 hb).1).trans hb⟩
theorem KeepP.alloc {a w : World} (h : KeepP p a w) (o : Obj) : KeepP p a (w.alloc o) := h.trans (KeepP.below ((Below.refl _ _).alloc (Nat.le_refl _) o))
theorem KeepP.grown {a w w' : World} {v : Value} {base n size : Nat} {e : TypeId} {xs : List Value} (h : KeepP p a w) (hg : w.grownBy w' v.ownBlock) (ho : w.ownsRow base e size v n xs) (he : p e = false) : KeepP p a w' :=
  h.trans ⟨hg.size, fun b cs t fz hb ht => (hg.block b (Array.getElem?_eq_some_iff.1 hb).1 (owns_other ho hb (by rintro rfl; rw [he] at ht; cases ht))).trans hb⟩
theorem KeepP.setCell {a w : World} {eb : Nat} {cs : Array Value} {t : TypeId} {fz : Nat × Nat} (h : KeepP p a w) (hk : w.heap[eb]? = some (Obj.cells cs t fz)) (ht : p t = false) (j : Nat) (u : Value) : KeepP p a (w.setCell ⟨eb, j, none⟩ u) :=
  h.trans ⟨by simp [World.setCell], fun b cs' t' fz' hb ht' => (Below.heap_setCell _ _ _ _ (fun e => by simp at e; subst e; rw [hk] at hb; cases hb; rw [ht] at ht'; cases ht')).trans hb⟩
theorem KeepP.owns {w w' : World} {base : Nat} {e : TypeId} {size : Nat} {v : Value} {n : Nat} {xs : List Value} (hk : KeepP p w w') (h : w.ownsRow base e size v n xs) (he : p e = true) : w'.ownsRow base e size v n xs := by
  refine ⟨h.1, ?_⟩
  rcases h.2 with hn | ⟨g, cap, cur, rfl, hg, hh, r⟩
  · exact .inl hn
  · exact .inr ⟨g, cap, cur, rfl, hg, hk.block g _ _ _ hh he, r⟩
end
def kS (t : TypeId) : Bool := t == 109 || t == 112
def kR (t : TypeId) : Bool := t == 206 || t == 9
theorem KeepT.toS {w w' : World} (h : KeepT w w') : KeepP kS w w' := ⟨h.size, fun b cs t fz hb ht => h.block b cs t fz hb (by unfold kS at ht; unfold kT; rw [Bool.or_eq_true] at ht ⊢; rcases ht with ht | ht; exact .inl ht; exact .inr (by rw [ht]; rfl))⟩
theorem RdrAt.keep {w0 : World} {b : Value} {rb : Nat} {w w' : World} {s : RsD} (h : RdrAt w0 b rb w s) (hk : KeepP kR w w') (hb : Below w0.heap.size w0 w') : RdrAt w0 b rb w' s := by
  obtain ⟨nv, fv, hk0, h1, h2, h3, h4, h5⟩ := h
  exact ⟨nv, fv, hk.block rb _ _ _ hk0 (by decide), hb, h2, hk.owns h3 (by decide), hk.owns h4 (by decide), h5⟩
/-- An entry whose lists lie in rows of the call's own. -/
def OwnEnt (base : Nat) (w : World) (cs : List Value) (x : EntD) : Prop :=
  ∃ lv iv tv, cs = [.string x.name, .string x.file, lv, iv, tv] ∧ w.ownsRow base 109 2 lv x.lines.length (flat x.lines) ∧ w.ownsRow base 109 2 iv x.index.length (flat x.index) ∧ w.ownsRow base 112 2 tv x.tree.length (flat x.tree) ∧ x.name.size ≤ 20 ∧ x.file.size ≤ 20
theorem OwnEnt.keep {base : Nat} {w w' : World} {cs : List Value} {x : EntD} (h : OwnEnt base w cs x) (hk : KeepP kS w w') : OwnEnt base w' cs x := by
  obtain ⟨lv, iv, tv, e, h1, h2, h3, h4⟩ := h
  exact ⟨lv, iv, tv, e, hk.owns h1 (by decide), hk.owns h2 (by decide), hk.owns h3 (by decide), h4⟩
theorem OwnEnt.rd {base : Nat} {w : World} {cs : List Value} {x : EntD} (h : OwnEnt base w cs x) : RdEnt w cs x := by
  obtain ⟨lv, iv, tv, rfl, h1, h2, h3, h4, h5⟩ := h
  obtain ⟨la, lc, rfl, g1⟩ := rdsOf h1 rfl
  obtain ⟨ia, ic, rfl, g2⟩ := rdsOf h2 rfl
  obtain ⟨ta, tc, rfl, g3⟩ := rdsOf h3 rfl
  exact ⟨la, lc, ia, ic, ta, tc, rfl, g1, g2, g3, by unfold maxLen; omega, by unfold maxLen; omega⟩
/-- So many entries. -/
def OwnEnts (base : Nat) (w : World) (css : List (List Value)) (l : List EntD) : Prop := css.length = l.length ∧ ∀ (i : Nat) (cs : List Value) (x : EntD), css[i]? = some cs → l[i]? = some x → OwnEnt base w cs x
theorem OwnEnts.keep {base : Nat} {w w' : World} {css : List (List Value)} {l : List EntD} (h : OwnEnts base w css l) (hk : KeepP kS w w') : OwnEnts base w' css l := ⟨h.1, fun i cs x h1 h2 => (h.2 i cs x h1 h2).keep hk⟩
theorem OwnEnts.snoc {base : Nat} {w : World} {css : List (List Value)} {l : List EntD} {cs : List Value} {x : EntD} (h : OwnEnts base w css l) (hx : OwnEnt base w cs x) : OwnEnts base w (css ++ [cs]) (l ++ [x]) := by
  refine ⟨by simp [h.1], fun i c y h1 h2 => ?_⟩
  rcases Nat.lt_or_ge i css.length with hi | hi
  · rw [List.getElem?_append_left hi] at h1
    rw [List.getElem?_append_left (by rw [← h.1]; exact hi)] at h2
    exact h.2 i c y h1 h2
  · rw [List.getElem?_append_right hi] at h1
    rw [List.getElem?_append_right (by rw [← h.1]; exact hi), ← h.1] at h2
    cases hj : i - css.length with
    | zero => rw [hj] at h1 h2; simp at h1 h2; subst h1; subst h2; exact hx
    | succ j => rw [hj] at h1; simp at h1
theorem OwnEnts.five {base : Nat} {w : World} {css : List (List Value)} {l : List EntD} (h : OwnEnts base w css l) : ∀ c ∈ css, c.length = 5 := by
  intro c hc
  obtain ⟨i, hi, rfl⟩ := List.getElem_of_mem hc
  have hil : i < l.length := by rw [← h.1]; exact hi
  obtain ⟨lv, iv, tv, e, _⟩ := h.2 i _ l[i] (List.getElem?_eq_getElem hi) (List.getElem?_eq_getElem hil)
  rw [e]; rfl
theorem flatten_at {css : List (List Value)} {size : Nat} (h : ∀ c ∈ css, c.length = size) : ∀ (i j : Nat) (c : List Value) (v : Value), css[i]? = some c → c[j]? = some v → css.flatten[i * size + j]? = some v := by
  induction css with
  | nil => intro i j c v h1; simp at h1
  | cons a r ih =>
    intro i j c v h1 h2
    have ha : a.length = size := h a (List.mem_cons_self ..)
    rw [List.flatten_cons]
    cases i with
    | zero =>
      simp at h1
      subst h1
      rw [Nat.zero_mul, Nat.zero_add, List.getElem?_append_left (List.getElem?_eq_some_iff.1 h2).1]
      exact h2
    | succ i =>
      have e : (i + 1) * size + j = a.length + (i * size + j) := by rw [ha, Nat.succ_mul]; omega
      rw [e, List.getElem?_append_right (by omega), Nat.add_sub_cancel_left]
      exact ih (fun c hc => h c (List.mem_cons_of_mem _ hc)) i j c v (by simpa using h1) h2
theorem rdI_of {w : World} {base base' : Nat} {fv : Value} {css : List (List Value)} {l : List EntD} (h : w.ownsRow base 115 5 fv l.length css.flatten) (he : OwnEnts base' w css l) : ∃ a cap, fv = .slice a l.length cap ∧ RdI w a l.length cap l := by
  have h5 := he.five
  rcases h.2 with ⟨rfl, h0⟩ | ⟨g, cap, cur, rfl, hg, hh, h1, h2, h3, h4⟩
  · refine ⟨none, 0, by rw [h0], rfl, by omega, by unfold maxLen; omega, fun i x hx => ?_⟩
    have : l = [] := List.length_eq_zero_iff.1 h0
    rw [this] at hx; simp at hx
  · refine ⟨some ⟨g, 0, none⟩, cap, rfl, rfl, h1, h2, fun i x hx => ?_⟩
    have hi : i < l.length := (List.getElem?_eq_some_iff.1 hx).1
    obtain ⟨cs, hcs⟩ : ∃ cs, css[i]? = some cs := ⟨_, List.getElem?_eq_getElem (by rw [he.1]; exact hi)⟩
    have hE := he.2 i cs x hcs hx
    refine ⟨g, 0, cs, rfl, h5 cs (List.mem_of_getElem? hcs), fun j v hj => ?_, hE.rd⟩
    have hw : w.ownsRow base 115 5 (.slice (some ⟨g, 0, none⟩) l.length cap) l.length css.flatten := ⟨h.1, .inr ⟨g, cap, cur, rfl, hg, hh, h1, h2, h3, h4⟩⟩
    have hjl : j < 5 := by have := (List.getElem?_eq_some_iff.1 hj).1; rw [h5 cs (List.mem_of_getElem? hcs)] at this; exact this
    rw [Nat.zero_add, hw.cellAt (i * 5 + j) (by omega)]
    exact flatten_at h5 i j cs v hcs hj
/-- Entries that lie in memory of the call's own. -/
def OwnI (base : Nat) (w : World) (v : Value) (l : List EntD) : Prop := ∃ css, w.ownsRow base 115 5 v l.length css.flatten ∧ OwnEnts base w css l
theorem OwnI.rd {base : Nat} {w : World} {v : Value} {l : List EntD} (h : OwnI base w v l) : ∃ a cap, v = .slice a l.length cap ∧ RdI w a l.length cap l := by
  obtain ⟨css, h1, h2⟩ := h
  exact rdI_of h1 h2
theorem OwnI.nil (base : Nat) (w : World) : OwnI base w (.slice none 0 0) [] := ⟨[], World.ownsRow_nil _ _ _ _, rfl, fun i cs x h => by simp at h⟩
theorem OwnI.keep {base : Nat} {w w' : World} {v : Value} {l : List EntD} (h : OwnI base w v l) (hb : ∀ k, base ≤ k → k < w.heap.size → w'.heap[k]? = w.heap[k]?) : OwnI base w' v l := by
  obtain ⟨css, h1, h2⟩ := h
  have up : ∀ {e : TypeId} {size : Nat} {u : Value} {n : Nat} {xs : List Value}, w.ownsRow base e size u n xs → w'.ownsRow base e size u n xs := fun {e size u n xs} h => ownsRow_block h (fun k hk1 hk2 => hb k (h.lt k hk1).1 hk2)
  refine ⟨css, up h1, h2.1, fun i cs x hc hx => ?_⟩
  obtain ⟨lv, iv, tv, e, g1, g2, g3, g4⟩ := h2.2 i cs x hc hx
  exact ⟨lv, iv, tv, e, up g1, up g2, up g3, g4⟩
theorem OwnI.below {base : Nat} {w w' : World} {v : Value} {l : List EntD} (h : OwnI base w v l) (hb : Below w.heap.size w w') : OwnI base w' v l := h.keep (fun k _ hk => hb.block k hk)
theorem OwnI.setLow {base g j : Nat} {w : World} {v u : Value} {l : List EntD} (h : OwnI base w v l) (hg : g < base) : OwnI base (w.setCell ⟨g, j, none⟩ u) v l := h.keep (fun k hk _ => Below.heap_setCell _ _ _ _ (by simp; omega))
theorem OwnI.low {base base' : Nat} {w : World} {v : Value} {l : List EntD} (h : OwnI base w v l) (hb : base' ≤ base) : OwnI base' w v l := by
  obtain ⟨css, h1, h2⟩ := h
  refine ⟨css, owns_low7 h1 hb, h2.1, fun i cs x hc hx => ?_⟩
  obtain ⟨lv, iv, tv, e, g1, g2, g3, g4⟩ := h2.2 i cs x hc hx
  exact ⟨lv, iv, tv, e, owns_low7 g1 hb, owns_low7 g2 hb, owns_low7 g3 hb, g4⟩
theorem rEntry_nf (bs : List Int) (hx : ∀ j, 0 ≤ bs.getD j 0 ∧ bs.getD j 0 ≤ 255) (s : RsD) (n : Int) : (rEntry bs s n).2.names.length = s.names.length + 1 ∧ (rEntry bs s n).2.files.length ≤ s.files.length + 1 ∧ s.room - 1000 ≤ (rEntry bs s n).2.room ∧ (rEntry bs s n).2.room ≤ s.room := by
  have hA : (entA bs s).names = s.names ++ [(rText bs s s.names).1] ∧ (entA bs s).files = s.files ∧ (entA bs s).room = s.room := ⟨rfl, (rText_nf bs s s.names).2.1, (rText_nf bs s s.names).2.2⟩
  have hB : (entB bs s).names = (entA bs s).names ∧ (entB bs s).files.length ≤ (entA bs s).files.length + 1 ∧ (entB bs s).room = (entA bs s).room := by
    unfold entB rFile
    split
    · rw [(rTake_nf _ _).1, (rTake_nf _ _).2.1, (rTake_nf _ _).2.2, (rNum_nf _ _).1, (rNum_nf _ _).2.1, (rNum_nf _ _).2.2]; exact ⟨rfl, by omega, rfl⟩
    · simp only
      rw [(rText_nf _ _ _).1, (rText_nf _ _ _).2.2, (rTake_nf _ _).1, (rTake_nf _ _).2.2, (rNum_nf _ _).1, (rNum_nf _ _).2.2]
      exact ⟨rfl, by simp, rfl⟩
  have hC : (entC bs s).2.names = (entB bs s).names ∧ (entC bs s).2.files = (entB bs s).files ∧ (entC bs s).2.room = (entB bs s).room := rTab_nf bs _
  have hD : (entD bs s).names = (entC bs s).2.names ∧ (entD bs s).files = (entC bs s).2.files ∧ (entD bs s).room = (entB bs s).room - sumS (entC bs s).1 := ⟨(rTake_nf _ _).1, (rTake_nf _ _).2.1, rfl⟩
  have hE : (entE bs s).2.names = (entD bs s).names ∧ (entE bs s).2.files = (entD bs s).files ∧ (entE bs s).2.room = (entD bs s).room := rTab_nf bs _
  have hF : (entF bs s).names = (entE bs s).2.names ∧ (entF bs s).files = (entE bs s).2.files ∧ (entF bs s).room = (entE bs s).2.room := rTake_nf _ _
  have hT := rTreeF_nf bs (unroll (entE bs s).1) n (mostT (entE bs s).1) (mostT (entE bs s).1).toNat 1 (-1) [] (entF bs s)
  have hs := unroll_all_len (wfS_of_getT bs hx (entB bs s))
  have hs' : ((unroll (entC bs s).1).length : Int) = sumS (entC bs s).1 ∧ sumS (entC bs s).1 ≤ 1000 := hs
  show (rTreeF bs (unroll (entE bs s).1) n (mostT (entE bs s).1) (mostT (entE bs s).1).toNat 1 (-1) [] (entF bs s)).2.names.length = _ ∧ (rTreeF bs (unroll (entE bs s).1) n (mostT (entE bs s).1) (mostT (entE bs s).1).toNat 1 (-1) [] (entF bs s)).2.files.length ≤ _ ∧ _ ≤ (rTreeF bs (unroll (entE bs s).1) n (mostT (entE bs s).1) (mostT (entE bs s).1).toNat 1 (-1) [] (entF bs s)).2.room ∧ (rTreeF bs (unroll (entE bs s).1) n (mostT (entE bs s).1) (mostT (entE bs s).1).toNat 1 (-1) [] (entF bs s)).2.room ≤ _
  rw [hT.1, hT.2.1, hT.2.2, hF.1, hF.2.1, hF.2.2, hE.1, hE.2.1, hE.2.2, hD.1, hD.2.1, hD.2.2, hC.1, hC.2.1, hB.1, hB.2.2, hA.1, hA.2.2]
  refine ⟨by simp, by rw [← hA.2.1]; exact hB.2.1, by omega, by omega⟩
end Go.Proofs.YtffnfjkjlmlonaaGreatDoor
