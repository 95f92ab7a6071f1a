/- The contract of the statement's own function funcOf: it gives a function to hand in, its body with eight marks behind it; nothing that was there is written. -/
import Derived.Test.YtffnfjkjlmlonaaGreatDoorZ5
namespace Go.Proofs.YtffnfjkjlmlonaaGreatDoor
open Go.RowKit

/-- A block of cells of this element type. -/
def IsE (w : World) (g : Nat) (e : TypeId) : Prop := ∃ cs fz, w.heap[g]? = some (.cells cs e fz)
theorem IsE.setCell {w : World} {g : Nat} {e : TypeId} (h : IsE w g e) (g' j : Nat) (u : Value) : IsE (w.setCell ⟨g', j, none⟩ u) g e := by
  obtain ⟨cs, fz, hg⟩ := h
  by_cases hne : g = g'
  · subst hne
    refine ⟨cs.setIfInBounds j u, fz, ?_⟩
    simp [World.setCell, Array.getElem?_modify, hg]
  · exact ⟨cs, fz, (Below.heap_setCell w ⟨g', j, none⟩ u g hne).trans hg⟩
theorem HdI.setE {w : World} {base : Nat} {a : Option Addr} {l : List Int} {hv : Value} (h : HdI w base a l hv) {g : Nat} {e : TypeId} (hg : IsE w g e) (hne : 3 ≠ e) (j : Nat) (u : Value) : HdI (w.setCell ⟨g, j, none⟩ u) base a l hv := by
  obtain ⟨cs, fz, hg⟩ := hg
  rcases h with h | ⟨h1, g', e', ho⟩
  · exact .inl h
  · exact .inr ⟨h1, g', e', ownsRow_setCell_other ho (fun e => owns_other' ho hg hne e.symm) u⟩

/-- Of the ops that have been laid: each has the cells of its op, and numbers that were made to be handed in. -/
def Done (w : World) (base : Nat) (orig : Nat → Option Value) (l : List OpD) (done : List (List Value)) : Prop :=
  ∀ i o, i < done.length → l[i]? = some o → ∃ aa acap hv, orig i = some (.slice aa o.args.length acap) ∧ done[i]? = some (opCells o hv) ∧ HdI w base aa o.args hv

theorem Done.mono {w w' : World} {base : Nat} {orig : Nat → Option Value} {l : List OpD} {done : List (List Value)} (h : Done w base orig l done) (hm : ∀ aa l hv, HdI w base aa l hv → HdI w' base aa l hv) : Done w' base orig l done := by
  intro i o hi ho
  obtain ⟨aa, acap, hv, h1, h2, h3⟩ := h i o hi ho
  exact ⟨aa, acap, hv, h1, h2, hm _ _ _ h3⟩
theorem Done.snoc {w : World} {base : Nat} {orig : Nat → Option Value} {l : List OpD} {done : List (List Value)} (h : Done w base orig l done) (o : OpD) (ho : l[done.length]? = some o) (aa : Option Addr) (acap : Nat) (hv : Value)
    (h1 : orig done.length = some (.slice aa o.args.length acap)) (h2 : HdI w base aa o.args hv) : Done w base orig l (done ++ [opCells o hv]) := by
  intro i o' hi ho'
  rw [List.length_append, List.length_singleton] at hi
  by_cases hlt : i < done.length
  · obtain ⟨aa', acap', hv', e1, e2, e3⟩ := h i o' hlt ho'
    exact ⟨aa', acap', hv', e1, by rw [List.getElem?_append_left hlt]; exact e2, e3⟩
  · have : i = done.length := by omega
    subst this
    rw [ho] at ho'
    cases ho'
    exact ⟨aa, acap, hv, h1, by simp, h2⟩

/-- The body of a function that is handed in. -/
def HdB (w : World) (base : Nat) (orig : Nat → Option Value) (l : List OpD) (g : Nat) : Prop :=
  ∃ done, done.length = l.length ∧ (∀ e ∈ done, e.length = 6) ∧ Done w base orig l done ∧
    w.ownsRow base 183 6 (.slice (some ⟨g, 0, none⟩) (l.length + 8) (l.length + 8)) (l.length + 8) (done ++ List.replicate 8 markOp).flatten

/-- A whole entry of six cells stored into a row of the call's own. -/
theorem stored6 {w : World} {base g n cap : Nat} {e : TypeId} {ess : List (List Value)} (h : w.ownsRow base e 6 (.slice (some ⟨g, 0, none⟩) n cap) n ess.flatten) (hk : ∀ c ∈ ess, c.length = 6) (i : Nat) (hi : i < ess.length) (v0 v1 v2 v3 v4 v5 : Value) :
    ((((((w.setCell ⟨g, i * 6, none⟩ v0).setCell ⟨g, i * 6 + 1, none⟩ v1).setCell ⟨g, i * 6 + 2, none⟩ v2).setCell ⟨g, i * 6 + 3, none⟩ v3).setCell ⟨g, i * 6 + 4, none⟩ v4).setCell ⟨g, i * 6 + 5, none⟩ v5).ownsRow base e 6 (.slice (some ⟨g, 0, none⟩) n cap) n
      (ess.set i [v0, v1, v2, v3, v4, v5]).flatten := by
  have hc : (ess.getD i []).length = 6 := hk _ (by simp [List.getD, hi])
  match hcc : ess.getD i [], hc with
  | [x0, x1, x2, x3, x4, x5], _ =>
    have s0 := (h.stored (i * 6 + 0) v0).1
    rw [flatten_set 6 ess i 0 v0 hk hi (by omega), hcc] at s0
    have k0 := set_all_len hk i ([x0, x1, x2, x3, x4, x5].set 0 v0) rfl
    have s1 := (s0.stored (i * 6 + 1) v1).1
    rw [flatten_set 6 _ i 1 v1 k0 (by simpa using hi) (by omega)] at s1
    have g1 : (ess.set i ([x0, x1, x2, x3, x4, x5].set 0 v0)).getD i [] = [v0, x1, x2, x3, x4, x5] := by simp [List.getD, hi]
    rw [g1, List.set_set] at s1
    have k1 := set_all_len hk i ([v0, x1, x2, x3, x4, x5].set 1 v1) rfl
    have s2 := (s1.stored (i * 6 + 2) v2).1
    rw [flatten_set 6 _ i 2 v2 k1 (by simpa using hi) (by omega)] at s2
    have g2 : (ess.set i ([v0, x1, x2, x3, x4, x5].set 1 v1)).getD i [] = [v0, v1, x2, x3, x4, x5] := by simp [List.getD, hi]
    rw [g2, List.set_set] at s2
    have k2 := set_all_len hk i ([v0, v1, x2, x3, x4, x5].set 2 v2) rfl
    have s3 := (s2.stored (i * 6 + 3) v3).1
    rw [flatten_set 6 _ i 3 v3 k2 (by simpa using hi) (by omega)] at s3
    have g3 : (ess.set i ([v0, v1, x2, x3, x4, x5].set 2 v2)).getD i [] = [v0, v1, v2, x3, x4, x5] := by simp [List.getD, hi]
    rw [g3, List.set_set] at s3
    have k3 := set_all_len hk i ([v0, v1, v2, x3, x4, x5].set 3 v3) rfl
    have s4 := (s3.stored (i * 6 + 4) v4).1
    rw [flatten_set 6 _ i 4 v4 k3 (by simpa using hi) (by omega)] at s4
    have g4 : (ess.set i ([v0, v1, v2, x3, x4, x5].set 3 v3)).getD i [] = [v0, v1, v2, v3, x4, x5] := by simp [List.getD, hi]
    rw [g4, List.set_set] at s4
    have k4 := set_all_len hk i ([v0, v1, v2, v3, x4, x5].set 4 v4) rfl
    have s5 := (s4.stored (i * 6 + 5) v5).1
    rw [flatten_set 6 _ i 5 v5 k4 (by simpa using hi) (by omega)] at s5
    have g5 : (ess.set i ([v0, v1, v2, v3, x4, x5].set 4 v4)).getD i [] = [v0, v1, v2, v3, v4, x5] := by simp [List.getD, hi]
    rw [g5, List.set_set] at s5
    exact s5

theorem set_mid {α : Type} (done : List α) (m : Nat) (z c : α) (s : Nat) (hs : done.length = s) (hm : 0 < m) : (done ++ List.replicate m z).set s c = (done ++ [c]) ++ List.replicate (m - 1) z := by
  obtain ⟨k, rfl⟩ : ∃ k, m = k + 1 := ⟨m - 1, by omega⟩
  rw [List.set_append_right _ _ (by omega), hs, Nat.sub_self, List.replicate_succ, List.set_cons_zero]
  simp

theorem marks_set {α : Type} (done : List α) (m z : α) (k n : Nat) (hn : done.length = n) (h : k < 8) : (done ++ (List.replicate k m ++ List.replicate (8 - k) z)).set (n + k) m = done ++ (List.replicate (k + 1) m ++ List.replicate (8 - (k + 1)) z) := by
  rw [List.set_append_right _ _ (by omega), hn, Nat.add_sub_cancel_left, List.set_append_right _ _ (by simp), List.length_replicate, Nat.sub_self]
  obtain ⟨q, hq⟩ : ∃ q, 8 - k = q + 1 := ⟨8 - k - 1, by omega⟩
  have hq2 : 8 - (k + 1) = q := by omega
  rw [hq, hq2, List.replicate_succ, List.set_cons_zero, List.replicate_succ']
  simp
theorem marks_at {α : Type} (done : List α) (m z d : α) (k n : Nat) (hn : done.length = n) (h : k < 8) : (done ++ (List.replicate k m ++ List.replicate (8 - k) z)).getD (n + k) d = z := by
  simp only [List.getD]
  rw [List.getElem?_append_right (by omega), hn, Nat.add_sub_cancel_left, List.getElem?_append_right (by simp), List.length_replicate, Nat.sub_self, List.getElem?_replicate_of_lt (by omega)]
  rfl

/-- The relation of funcOf's first loop. -/
def RelF (w : World) (base : Nat) (orig : Nat → Option Value) (l : List OpD) (g : Nat) (i : Value) (wr : World) : Prop :=
  ∃ (s : Nat) (done : List (List Value)), i = .int .i64 s ∧ s ≤ l.length ∧ done.length = s ∧ (∀ e ∈ done, e.length = 6) ∧ Done wr base orig l done ∧
    wr.ownsRow base 183 6 (.slice (some ⟨g, 0, none⟩) (l.length + 8) (l.length + 8)) (l.length + 8) (done ++ List.replicate (l.length + 8 - s) zeroOp).flatten ∧ Below w.heap.size w wr

set_option maxHeartbeats 2000000 in
set_option maxRecDepth 100000 in
theorem funcOf_any (ba : Option Addr) (bcap : Nat) (f : FnD) (w : World) (hr : RdL 6 RdOp w ba f.body.length bcap f.body) (hlen : f.body.length ≤ 2199023255552) (hargs : ∀ o ∈ f.body, o.args.length ≤ 17592186044416) :
    Calls Tryz.prog 85 #[.agg #[.string f.name, .string f.file, .int .i64 f.params, .int .i64 f.locals, .slice ba f.body.length bcap]] w fun e w' => ∃ g, e = .returned (.agg #[.string f.name, .string f.file, .int .i64 f.params, .int .i64 f.locals, .slice (some ⟨g, 0, none⟩) f.body.length (f.body.length + 8)]) ∧
      HdB w' w.heap.size (fun i => ba.bind fun a => w.cell? ⟨a.block, a.off + i * 6 + 5, none⟩) f.body g ∧ Below w.heap.size w w' := by
  obtain ⟨nm, fl, pr, lo, l⟩ := f
  simp only at hr hlen hargs ⊢
  obtain ⟨n, hn⟩ : ∃ n, n = l.length := ⟨_, rfl⟩
  rw [← hn] at hr hlen ⊢
  have HN := hid hn
  clear hn
  have hbl1 := hr.2.1
  have hbl2 := hr.2.2.1
  unfold maxLen at hbl2
  obtain ⟨i0, hi, hz0, hz1, hz2⟩ := info_parts Tryz.infoOp
  obtain ⟨bw, hbw⟩ : ∃ bw, bw = (w.alloc (Obj.cells #[.string nm, .string fl, .int .i64 pr, .int .i64 lo, .slice ba n bcap] 122)).alloc (Obj.cells #[.string ⟨#[]⟩, .string ⟨#[]⟩, .int .i64 0, .int .i64 0, .slice none 0 0] 122) := ⟨_, rfl⟩
  have hbb : Below w.heap.size w bw := by rw [hbw]; exact ((Below.refl _ _).alloc (Nat.le_refl _) _).alloc (by simp) _
  have hbs : bw.heap.size = w.heap.size + 2 := by rw [hbw]; simp
  have hk1 : bw.heap[w.heap.size]? = some (.cells #[.string nm, .string fl, .int .i64 pr, .int .i64 lo, .slice ba n bcap] 122 (0, 0)) := by
    rw [hbw, Below.heap_alloc _ _ _ (by simp)]; exact heap_alloc_new _ _
  have hk2 : bw.heap[w.heap.size + 1]? = some (.cells #[.string ⟨#[]⟩, .string ⟨#[]⟩, .int .i64 0, .int .i64 0, .slice none 0 0] 122 (0, 0)) := by
    rw [hbw]
    have := heap_alloc_new (w.alloc (Obj.cells #[.string nm, .string fl, .int .i64 pr, .int .i64 lo, .slice ba n bcap] 122)) (Obj.cells #[.string ⟨#[]⟩, .string ⟨#[]⟩, .int .i64 0, .int .i64 0, .slice none 0 0] 122)
    simpa using this
  obtain ⟨wm, hmk, hown, hgr⟩ := run_make_full (P := Tryz.prog) bw bw.heap.size 120 183 i0 (.agg #[.int .i64 0, .int .i64 0, .int .i64 0, .int .i64 0, .int .i64 0, .slice none 0 0]) 6 Tryz.underlying120 hi hz0 hz1 .i64 .i64 (n + 8) (by rw [hz2]; omega) (by unfold maxLen; omega) (Nat.le_refl _)
  have hmr := made_rows zeroOp 6 (n + 8) rfl (by omega)
  have hcz : (Value.agg #[.int .i64 0, .int .i64 0, .int .i64 0, .int .i64 0, .int .i64 0, .slice none 0 0]).cells = zeroOp.toArray := rfl
  rw [hcz, hmr] at hown
  have ec : ((n + 8 : Nat) : Int) = (n : Int) + 8 := by omega
  rw [ec, hbw] at hmk
  have hbm : Below bw.heap.size bw wm := (Below.refl _ _).grown hgr (Nat.le_refl _) (fun k hk => by cases hk)
  have hbt := hbb.trans (hbm.mono hbb.size)
  have hm1 := (hbm.block w.heap.size (by omega)).trans hk1
  have hm2 := (hbm.block (w.heap.size + 1) (by omega)).trans hk2
  have hsm := hbm.size
  have hszE : ((w.alloc (Obj.cells #[.string nm, .string fl, .int .i64 pr, .int .i64 lo, .slice ba n bcap] 122)).alloc (Obj.cells #[.string ⟨#[]⟩, .string ⟨#[]⟩, .int .i64 0, .int .i64 0, .slice none 0 0] 122)).heap.size = w.heap.size + 2 := by simp
  rw [hszE] at hmk
  rw [hbs] at hown
  have hown1 := hid (owns_lower hown (show w.heap.size ≤ w.heap.size + 2 by omega))
  have HM1 := hid hm1
  have HM2 := hid hm2
  clear hown hgr hmr hcz hk1 hk2 hm1 hm2 hbm hbb hszE
  go_enter Tryz.func85, Tryz.ntmps85
  go_wp2
  clear hmk hbw
  go_loopw [5] (fun i wr => RelF w w.heap.size (fun i => ba.bind fun a => w.cell? ⟨a.block, a.off + i * 6 + 5, none⟩) l (w.heap.size + 2) i wr ∧ wr.heap[w.heap.size]? = some (.cells #[.string nm, .string fl, .int .i64 pr, .int .i64 lo, .slice ba n bcap] 122 (0, 0)) ∧
      wr.heap[w.heap.size + 1]? = some (.cells #[.string ⟨#[]⟩, .string ⟨#[]⟩, .int .i64 0, .int .i64 0, .slice none 0 0] 122 (0, 0))) (fun i _ => n - (intOf i).toNat)
  case atStart =>
    refine ⟨⟨0, [], rfl, by omega, rfl, by simp, fun i o hi => by simp at hi, ?_, hbt⟩, HM1.out, HM2.out⟩
    have := hown1.out
    rw [HN.out] at this
    exact this
  case round =>
    clear hbt hown1 HM1 HM2 hsm
    obtain ⟨⟨s, done, rfl, hs, hdl, hd6, hdone, hown, hbel⟩, hb1, hb2⟩ := hrel
    rw [← HN.out] at hs hown
    have HDL := hid hdl
    have HD6 := hid hd6
    have HDONE := hid hdone
    have HOWN := hid hown
    have HB1 := hid hb1
    have HB2 := hid hb2
    have hx4 : wr.cell? ⟨w.heap.size, 4, none⟩ = some (.slice ba n bcap) := by simp [World.cell?, hb1]
    have hsz := hbel.size
    have hb2lt := (Array.getElem?_eq_some_iff.1 hb2).1
    have hglt := (hown.lt (w.heap.size + 2) rfl).2
    clear hdl hd6 hdone hown hb1 hb2
    by_cases hlt : s < n
    · obtain ⟨o, ho⟩ : ∃ o, l[s]? = some o := ⟨_, List.getElem?_eq_getElem (by rw [← HN.out]; exact hlt)⟩
      obtain ⟨b', off', aa, acap, rfl, hb', d0, d1, d2, d3, d4, d5, hra⟩ := (hr.below hbel (fun _ _ h => h.below hbel)).opAt s o ho
      have horig : ((some (⟨b', off', none⟩ : Addr)).bind fun a => w.cell? ⟨a.block, a.off + s * 6 + 5, none⟩) = some (.slice aa o.args.length acap) := by
        obtain ⟨b2, off2, aa2, acap2, e2, hb2, _, _, _, _, _, d5', _⟩ := hr.opAt s o ho
        cases e2
        have := (hbel.cell (p := ⟨b', off' + s * 6 + 5, none⟩) hb2).trans d5'
        rw [d5] at this
        show w.cell? ⟨b', off' + s * 6 + 5, none⟩ = _
        rw [d5', ← this]
      have hoa : o.args.length ≤ 17592186044416 := hargs o (List.mem_of_getElem? ho)
      have HORIG := hid horig
      have HO := hid ho
      clear horig ho hr hargs
      obtain ⟨wb, hwb⟩ : ∃ wb, wb = wr.alloc (Obj.cells #[.int .i64 o.code, .int .i64 o.line, .int .i64 o.a, .int .i64 o.b, .int .i64 o.c, .slice aa o.args.length acap] 183) := ⟨_, rfl⟩
      have hbb : Below wr.heap.size wr wb := by rw [hwb]; exact (Below.refl _ _).alloc (Nat.le_refl _) _
      have hwbs : wb.heap.size = wr.heap.size + 1 := by rw [hwb]; simp
      have hkb : wb.heap[wr.heap.size]? = some (.cells #[.int .i64 o.code, .int .i64 o.line, .int .i64 o.a, .int .i64 o.b, .int .i64 o.c, .slice aa o.args.length acap] 183 (0, 0)) := by rw [hwb]; exact heap_alloc_new _ _
      have HI := hid (intsOf_any aa o.args.length acap o.args wb (hra.below hbb (Nat.le_refl _)) hoa)
      have HOA := hid hra
      clear hra
      go_wp2_with fail
      rw [← hwb]
      clear hwb d0 d1 d2 d3 d4 d5
      refine HI.out.mono ?_
      rintro e w2 ⟨hv, rfl, hhd, hbi⟩
      have hk2 := (hbi.block wr.heap.size (by omega)).trans hkb
      have hs2 := hbi.size
      have hown2 := owns_below (owns_below HOWN.out hbb) hbi
      have hdone2 : Done w2 w.heap.size (fun i => (some (⟨b', off', none⟩ : Addr)).bind fun a => w.cell? ⟨a.block, a.off + i * 6 + 5, none⟩) l done := HDONE.out.mono (fun _ _ _ h => (h.below hbb).below hbi)
      have hbel2 : Below w.heap.size w w2 := (hbel.trans (hbb.mono hsz)).trans (hbi.mono (Nat.le_trans hsz hbb.size))
      have hhd2 := hhd.lower (show w.heap.size ≤ wb.heap.size by omega)
      have hq1 := (hbi.block w.heap.size (by omega)).trans ((hbb.block w.heap.size (by omega)).trans HB1.out)
      have hq2 := (hbi.block (w.heap.size + 1) (by omega)).trans ((hbb.block (w.heap.size + 1) (by omega)).trans HB2.out)
      obtain ⟨ha, hcap, hhv, _⟩ := hhd.read
      subst hhv
      have hf5 : w2.frozen? ⟨wr.heap.size, 5, none⟩ = false := by simp [World.frozen?, hk2]
      have hc0 : w2.cell? ⟨wr.heap.size, 0, none⟩ = some (.int .i64 o.code) := by simp [World.cell?, hk2]
      have hc1 : w2.cell? ⟨wr.heap.size, 1, none⟩ = some (.int .i64 o.line) := by simp [World.cell?, hk2]
      have hc2 : w2.cell? ⟨wr.heap.size, 2, none⟩ = some (.int .i64 o.a) := by simp [World.cell?, hk2]
      have hc3 : w2.cell? ⟨wr.heap.size, 3, none⟩ = some (.int .i64 o.b) := by simp [World.cell?, hk2]
      have hc4 : w2.cell? ⟨wr.heap.size, 4, none⟩ = some (.int .i64 o.c) := by simp [World.cell?, hk2]
      have hc5 : w2.cell? ⟨wr.heap.size, 5, none⟩ = some (.slice aa o.args.length acap) := by simp [World.cell?, hk2]
      have HHD2 := hid hhd2
      have HK2 := hid hk2
      have HOWN2 := hid hown2
      have HDONE2 := hid hdone2
      have HQ1 := hid hq1
      have HQ2 := hid hq2
      have hne1 : w.heap.size + 2 ≠ wr.heap.size := by omega
      have hne2 : wr.heap.size ≠ w.heap.size + 2 := by omega
      have hess : (done ++ List.replicate (n + 8 - s) zeroOp).length = n + 8 := by rw [List.length_append, List.length_replicate, HDL.out]; omega
      have hall : ∀ e ∈ done ++ List.replicate (n + 8 - s) zeroOp, e.length = 6 := by
        intro e he
        rcases List.mem_append.1 he with h | h
        · exact HD6.out e h
        · rw [List.eq_of_mem_replicate h]; rfl
      have hat : (done ++ List.replicate (n + 8 - s) zeroOp).getD s [] = zeroOp := by
        simp only [List.getD]
        rw [List.getElem?_append_right (by rw [HDL.out]; omega), HDL.out, Nat.sub_self, List.getElem?_replicate_of_lt (by omega)]
        rfl
      have hz : ∀ j, j < 6 → w2.cell? ⟨w.heap.size + 2, s * 6 + j, none⟩ = zeroOp[j]? := by
        intro j hj
        have := hown2.cellAt (s * 6 + j) (by omega)
        rw [flatten_get 6 _ s j hall (by omega) hj, hat] at this
        exact this
      have z0 : w2.cell? ⟨w.heap.size + 2, s * 6, none⟩ = some (.int .i64 0) := hz 0 (by omega)
      have z1 : w2.cell? ⟨w.heap.size + 2, s * 6 + 1, none⟩ = some (.int .i64 0) := hz 1 (by omega)
      have z2 : w2.cell? ⟨w.heap.size + 2, s * 6 + 2, none⟩ = some (.int .i64 0) := hz 2 (by omega)
      have z3 : w2.cell? ⟨w.heap.size + 2, s * 6 + 3, none⟩ = some (.int .i64 0) := hz 3 (by omega)
      have z4 : w2.cell? ⟨w.heap.size + 2, s * 6 + 4, none⟩ = some (.int .i64 0) := hz 4 (by omega)
      have z5 : w2.cell? ⟨w.heap.size + 2, s * 6 + 5, none⟩ = some (.slice none 0 0) := hz 5 (by omega)
      have fz := fun j => hown2.frozenAt j
      have f0 := fz (s * 6)
      have f1 := fz (s * 6 + 1)
      have f2 := fz (s * 6 + 2)
      have f3 := fz (s * 6 + 3)
      have f4 := fz (s * 6 + 4)
      have f5 := fz (s * 6 + 5)
      have HESS := hid hess
      have HALL := hid hall
      clear hess hall hat hz fz hk2 hown2 hdone2 hq1 hq2 hhd hhd2 hkb hbi hbb HI HOA HB1 HB2 HDONE HOWN
      go_wp2
      go_roundw
      case rel =>
        have e1 : IsE w2 wr.heap.size 183 := ⟨_, _, HK2.out⟩
        have e2 : IsE w2 (w.heap.size + 2) 183 := by
          rcases HOWN2.out.2 with ⟨h', _⟩ | ⟨g', cap', cur, h', _, hg, _⟩
          · cases h'
          · cases h'; exact ⟨_, _, hg⟩
        have hstep : ∀ (aa : Option Addr) (l : List Int) (hv : Value), HdI w2 w.heap.size aa l hv → HdI (((((((w2.setCell ⟨wr.heap.size, 5, none⟩ (.slice ha o.args.length hcap)).setCell ⟨w.heap.size + 2, s * 6, none⟩ (.int .i64 o.code)).setCell ⟨w.heap.size + 2, s * 6 + 1, none⟩ (.int .i64 o.line)).setCell ⟨w.heap.size + 2, s * 6 + 2, none⟩ (.int .i64 o.a)).setCell ⟨w.heap.size + 2, s * 6 + 3, none⟩ (.int .i64 o.b)).setCell ⟨w.heap.size + 2, s * 6 + 4, none⟩ (.int .i64 o.c)).setCell ⟨w.heap.size + 2, s * 6 + 5, none⟩ (.slice ha o.args.length hcap)) w.heap.size aa l hv := by
          intro aa l hv h
          have a1 := h.setE e1 (by decide) 5 (.slice ha o.args.length hcap)
          have i1 := e2.setCell wr.heap.size 5 (.slice ha o.args.length hcap)
          have a2 := a1.setE i1 (by decide) (s * 6) (.int .i64 o.code)
          have i2 := i1.setCell (w.heap.size + 2) (s * 6) (.int .i64 o.code)
          have a3 := a2.setE i2 (by decide) (s * 6 + 1) (.int .i64 o.line)
          have i3 := i2.setCell (w.heap.size + 2) (s * 6 + 1) (.int .i64 o.line)
          have a4 := a3.setE i3 (by decide) (s * 6 + 2) (.int .i64 o.a)
          have i4 := i3.setCell (w.heap.size + 2) (s * 6 + 2) (.int .i64 o.a)
          have a5 := a4.setE i4 (by decide) (s * 6 + 3) (.int .i64 o.b)
          have i5 := i4.setCell (w.heap.size + 2) (s * 6 + 3) (.int .i64 o.b)
          have a6 := a5.setE i5 (by decide) (s * 6 + 4) (.int .i64 o.c)
          have i6 := i5.setCell (w.heap.size + 2) (s * 6 + 4) (.int .i64 o.c)
          exact a6.setE i6 (by decide) (s * 6 + 5) (.slice ha o.args.length hcap)
        have o3 := ownsRow_setCell_other HOWN2.out (a := ⟨wr.heap.size, 5, none⟩) (by simp [Value.ownBlock]; omega) (.slice ha o.args.length hcap)
        have o4 := stored6 o3 HALL.out s (by rw [HESS.out]; omega) (.int .i64 o.code) (.int .i64 o.line) (.int .i64 o.a) (.int .i64 o.b) (.int .i64 o.c) (.slice ha o.args.length hcap)
        rw [set_mid done (n + 8 - s) zeroOp _ s HDL.out (by omega)] at o4
        have hsub : n + 8 - s - 1 = n + 8 - (s + 1) := by omega
        rw [hsub] at o4
        have hd4 := (HDONE2.out.mono hstep).snoc o (by rw [HDL.out]; exact HO.out) aa acap (.slice ha o.args.length hcap) (by rw [HDL.out]; exact HORIG.out) (hstep _ _ _ HHD2.out)
        refine ⟨⟨s + 1, done ++ [opCells o (.slice ha o.args.length hcap)], by go_num, by rw [← HN.out]; omega, by rw [List.length_append, HDL.out]; rfl, ?_, hd4, ?_, ?_⟩, ?_, ?_⟩
        · intro e he
          rcases List.mem_append.1 he with h | h
          · exact HD6.out e h
          · rw [List.mem_singleton.1 h]; rfl
        · rw [← HN.out]; exact o4
        · exact ((((((hbel2.setCell (by exact hsz) _).setCell (by show w.heap.size ≤ w.heap.size + 2; omega) _).setCell (by show w.heap.size ≤ w.heap.size + 2; omega) _).setCell (by show w.heap.size ≤ w.heap.size + 2; omega) _).setCell (by show w.heap.size ≤ w.heap.size + 2; omega) _).setCell (by show w.heap.size ≤ w.heap.size + 2; omega) _).setCell (by show w.heap.size ≤ w.heap.size + 2; omega) _
        · iterate 6 rw [Below.heap_setCell _ _ _ _ (by show w.heap.size ≠ w.heap.size + 2; omega)]
          rw [Below.heap_setCell _ _ _ _ (by show w.heap.size ≠ wr.heap.size; omega)]
          exact HQ1.out
        · iterate 6 rw [Below.heap_setCell _ _ _ _ (by show w.heap.size + 1 ≠ w.heap.size + 2; omega)]
          rw [Below.heap_setCell _ _ _ _ (by show w.heap.size + 1 ≠ wr.heap.size; omega)]
          exact HQ2.out
      case measure => simp [intOf]; omega
    · have hsn : s = n := by omega
      subst hsn
      have h88 : s + 8 - s = 8 := by omega
      have hown8 := HOWN.out
      rw [h88] at hown8
      have HO8 := hid hown8
      clear hown8 HOWN
      go_wp2
      go_loopw [7] (fun i wr => ∃ k : Nat, i = .int .i64 ((s : Int) + k) ∧ k ≤ 8 ∧ Done wr w.heap.size (fun i => ba.bind fun a => w.cell? ⟨a.block, a.off + i * 6 + 5, none⟩) l done ∧
          wr.ownsRow w.heap.size 183 6 (.slice (some ⟨w.heap.size + 2, 0, none⟩) (s + 8) (s + 8)) (s + 8) (done ++ (List.replicate k markOp ++ List.replicate (8 - k) zeroOp)).flatten ∧ Below w.heap.size w wr ∧
          wr.heap[w.heap.size]? = some (.cells #[.string nm, .string fl, .int .i64 pr, .int .i64 lo, .slice ba s bcap] 122 (0, 0)) ∧
          wr.heap[w.heap.size + 1]? = some (.cells #[.string ⟨#[]⟩, .string ⟨#[]⟩, .int .i64 0, .int .i64 0, .slice none 0 0] 122 (0, 0))) (fun i _ => (s + 8) - (intOf i).toNat)
      case atStart => exact ⟨0, by go_num, by omega, HDONE.out, HO8.out, hbel, HB1.out, HB2.out⟩
      case round =>
        clear HDONE HO8 hbel HB1 HB2 hx4 hsz hb2lt hglt
        obtain ⟨k, rfl, hk, hdone, hown, hbel, hb1, hb2⟩ := hrel
        have HDONE := hid hdone
        have HOWN := hid hown
        have HB1 := hid hb1
        have HB2 := hid hb2
        have hsz := hbel.size
        by_cases hk8 : k < 8
        · have hlt8 : (s : Int) + k < (s : Int) + 8 := by omega
          have e0 : ((s : Int) + (k : Int)).toNat = s + k := by omega
          have hall : ∀ e ∈ done ++ (List.replicate k markOp ++ List.replicate (8 - k) zeroOp), e.length = 6 := by
            intro e he
            rcases List.mem_append.1 he with h | h
            · exact HD6.out e h
            · rcases List.mem_append.1 h with h | h
              · rw [List.eq_of_mem_replicate h]; rfl
              · rw [List.eq_of_mem_replicate h]; rfl
          have hess : (done ++ (List.replicate k markOp ++ List.replicate (8 - k) zeroOp)).length = s + 8 := by simp [HDL.out]; omega
          have hat := marks_at done markOp zeroOp [] k s HDL.out hk8
          have hc := hown.cellAt ((s + k) * 6 + 1) (by omega)
          rw [flatten_get 6 _ (s + k) 1 hall (by omega) (by omega), hat] at hc
          have hc1 : wr.cell? ⟨w.heap.size + 2, (s + k) * 6 + 1, none⟩ = some (.int .i64 0) := hc
          have hf1 := hown.frozenAt ((s + k) * 6 + 1)
          have hst := (hown.stored ((s + k) * 6 + 1) (.int .i64 77)).1
          rw [flatten_set 6 _ (s + k) 1 _ hall (by omega) (by omega), hat] at hst
          have hmk : zeroOp.set 1 (.int .i64 77) = markOp := rfl
          rw [hmk, marks_set done markOp zeroOp k s HDL.out hk8] at hst
          have HST := hid hst
          clear hst hmk hc hat hess hall hdone hown hb1 hb2
          go_wp2
          go_roundw
          case rel =>
            have e2 : IsE wr (w.heap.size + 2) 183 := by
              rcases HOWN.out.2 with ⟨h', _⟩ | ⟨g', cap', cur, h', _, hg, _⟩
              · cases h'
              · cases h'; exact ⟨_, _, hg⟩
            refine ⟨k + 1, by go_num, by omega, HDONE.out.mono (fun _ _ _ h => h.setE e2 (by decide) _ _), HST.out, hbel.setCell (by show w.heap.size ≤ w.heap.size + 2; omega) _, ?_, ?_⟩
            · rw [Below.heap_setCell _ _ _ _ (by show w.heap.size ≠ w.heap.size + 2; omega)]; exact HB1.out
            · rw [Below.heap_setCell _ _ _ _ (by show w.heap.size + 1 ≠ w.heap.size + 2; omega)]; exact HB2.out
          case measure => simp [intOf]; omega
        · have hk' : k = 8 := by omega
          subst hk'
          have r0 : wr.cell? ⟨w.heap.size, 0, none⟩ = some (.string nm) := by simp [World.cell?, hb1]
          have r1 : wr.cell? ⟨w.heap.size, 1, none⟩ = some (.string fl) := by simp [World.cell?, hb1]
          have r2 : wr.cell? ⟨w.heap.size, 2, none⟩ = some (.int .i64 pr) := by simp [World.cell?, hb1]
          have r3 : wr.cell? ⟨w.heap.size, 3, none⟩ = some (.int .i64 lo) := by simp [World.cell?, hb1]
          have q0 : wr.cell? ⟨w.heap.size + 1, 0, none⟩ = some (.string ⟨#[]⟩) := by simp [World.cell?, hb2]
          have q1 : wr.cell? ⟨w.heap.size + 1, 1, none⟩ = some (.string ⟨#[]⟩) := by simp [World.cell?, hb2]
          have q2 : wr.cell? ⟨w.heap.size + 1, 2, none⟩ = some (.int .i64 0) := by simp [World.cell?, hb2]
          have q3 : wr.cell? ⟨w.heap.size + 1, 3, none⟩ = some (.int .i64 0) := by simp [World.cell?, hb2]
          have q4 : wr.cell? ⟨w.heap.size + 1, 4, none⟩ = some (.slice none 0 0) := by simp [World.cell?, hb2]
          have z0 : wr.frozen? ⟨w.heap.size + 1, 0, none⟩ = false := by simp [World.frozen?, hb2]
          have z1 : wr.frozen? ⟨w.heap.size + 1, 1, none⟩ = false := by simp [World.frozen?, hb2]
          have z2 : wr.frozen? ⟨w.heap.size + 1, 2, none⟩ = false := by simp [World.frozen?, hb2]
          have z3 : wr.frozen? ⟨w.heap.size + 1, 3, none⟩ = false := by simp [World.frozen?, hb2]
          have z4 : wr.frozen? ⟨w.heap.size + 1, 4, none⟩ = false := by simp [World.frozen?, hb2]
          have hs8 : (s : Int) ≤ (s : Int) + 8 := by omega
          clear hdone hown hb1 hb2 hi hz0 hz1 hz2
          go_wp2
          go_region
          go_wp2
          have e1 : IsE wr (w.heap.size + 1) 122 := ⟨_, _, HB2.out⟩
          have hstep : ∀ (aa : Option Addr) (l : List Int) (hv : Value), HdI wr w.heap.size aa l hv → HdI (((((wr.setCell ⟨w.heap.size + 1, 0, none⟩ (.string nm)).setCell ⟨w.heap.size + 1, 1, none⟩ (.string fl)).setCell ⟨w.heap.size + 1, 2, none⟩ (.int .i64 pr)).setCell ⟨w.heap.size + 1, 3, none⟩ (.int .i64 lo)).setCell ⟨w.heap.size + 1, 4, none⟩ (.slice (some ⟨w.heap.size + 2, 0, none⟩) s (s + 8))) w.heap.size aa l hv := by
            intro aa l hv h
            have a1 := h.setE e1 (by decide) 0 (.string nm)
            have i1 := e1.setCell (w.heap.size + 1) 0 (.string nm)
            have a2 := a1.setE i1 (by decide) 1 (.string fl)
            have i2 := i1.setCell (w.heap.size + 1) 1 (.string fl)
            have a3 := a2.setE i2 (by decide) 2 (.int .i64 pr)
            have i3 := i2.setCell (w.heap.size + 1) 2 (.int .i64 pr)
            have a4 := a3.setE i3 (by decide) 3 (.int .i64 lo)
            have i4 := i3.setCell (w.heap.size + 1) 3 (.int .i64 lo)
            exact a4.setE i4 (by decide) 4 (.slice (some ⟨w.heap.size + 2, 0, none⟩) s (s + 8))
          have hne : ∀ j : Nat, (Value.slice (some ⟨w.heap.size + 2, 0, none⟩) (s + 8) (s + 8)).ownBlock ≠ some (⟨w.heap.size + 1, j, none⟩ : Addr).block := fun j => by simp [Value.ownBlock]
          have o1 := ownsRow_setCell_other (ownsRow_setCell_other (ownsRow_setCell_other (ownsRow_setCell_other (ownsRow_setCell_other HOWN.out (hne 0) (.string nm)) (hne 1) (.string fl)) (hne 2) (.int .i64 pr)) (hne 3) (.int .i64 lo)) (hne 4) (.slice (some ⟨w.heap.size + 2, 0, none⟩) s (s + 8))
          have hB : HdB (((((wr.setCell ⟨w.heap.size + 1, 0, none⟩ (.string nm)).setCell ⟨w.heap.size + 1, 1, none⟩ (.string fl)).setCell ⟨w.heap.size + 1, 2, none⟩ (.int .i64 pr)).setCell ⟨w.heap.size + 1, 3, none⟩ (.int .i64 lo)).setCell ⟨w.heap.size + 1, 4, none⟩ (.slice (some ⟨w.heap.size + 2, 0, none⟩) s (s + 8))) w.heap.size (fun i => ba.bind fun a => w.cell? ⟨a.block, a.off + i * 6 + 5, none⟩) l (w.heap.size + 2) := by
            refine ⟨done, by rw [HDL.out]; exact HN.out, HD6.out, HDONE.out.mono hstep, ?_⟩
            rw [← HN.out]
            simpa using o1
          have hbe : Below w.heap.size w (((((wr.setCell ⟨w.heap.size + 1, 0, none⟩ (.string nm)).setCell ⟨w.heap.size + 1, 1, none⟩ (.string fl)).setCell ⟨w.heap.size + 1, 2, none⟩ (.int .i64 pr)).setCell ⟨w.heap.size + 1, 3, none⟩ (.int .i64 lo)).setCell ⟨w.heap.size + 1, 4, none⟩ (.slice (some ⟨w.heap.size + 2, 0, none⟩) s (s + 8))) := ((((hbel.setCell (by show w.heap.size ≤ w.heap.size + 1; omega) _).setCell (by show w.heap.size ≤ w.heap.size + 1; omega) _).setCell (by show w.heap.size ≤ w.heap.size + 1; omega) _).setCell (by show w.heap.size ≤ w.heap.size + 1; omega) _).setCell (by show w.heap.size ≤ w.heap.size + 1; omega) _
          exact bodyPost_ret (v := .agg #[.string nm, .string fl, .int .i64 pr, .int .i64 lo, .slice (some ⟨w.heap.size + 2, 0, none⟩) s (s + 8)]) (by simp [results, Tryz.results85, go_sem, q0, q1, q2, q3, q4]) rfl ⟨w.heap.size + 2, rfl, hB, hbe.drew⟩
end Go.Proofs.YtffnfjkjlmlonaaGreatDoor
