/- The contract of the statement's own function programOf: it gives a program to hand in, with eight marks behind its functions; nothing that was there is written. The contract of the statement's own function programStill: at a program as it was handed in it returns true; nothing that was there is written. Contracts of the statement's own functions write, marked and looks where no list has come out yet: nothing is done, and the look answers true. -/
import Derived.Test.YtffnfjkjlmlonaaGreatDoorZ25
namespace Go.Proofs.YtffnfjkjlmlonaaGreatDoor
open Go.RowKit

theorem HdB.congr {w : World} {base : Nat} {orig orig' : Nat → Option Value} {l : List OpD} {g : Nat} (h : HdB w base orig l g) (he : ∀ i, i < l.length → orig i = orig' i) : HdB w base orig' l g := by
  obtain ⟨done, h1, h2, h3, h4⟩ := h
  refine ⟨done, h1, h2, ?_, h4⟩
  intro i o hi ho
  obtain ⟨aa, acap, hv, e1, e2, e3⟩ := h3 i o hi ho
  exact ⟨aa, acap, hv, by rw [← he i (List.getElem?_eq_some_iff.1 ho).1]; exact e1, e2, e3⟩
theorem HdB.setE {w : World} {base : Nat} {orig : Nat → Option Value} {l : List OpD} {g : Nat} (h : HdB w base orig l g) {g' : Nat} {e : TypeId} (hg : IsE w g' e) (hne : 3 ≠ e) (hne2 : 183 ≠ e) (j : Nat) (u : Value) : HdB (w.setCell ⟨g', j, none⟩ u) base orig l g := by
  obtain ⟨done, h1, h2, h3, h4⟩ := h
  have hg2 := hg
  obtain ⟨cs, fz, hgg⟩ := hg2
  exact ⟨done, h1, h2, h3.mono (fun _ _ _ h => h.setE hg hne j u), ownsRow_setCell_other h4 (fun e => owns_other' h4 hgg hne2 e.symm) u⟩

def fnCells (x : FnD) (g : Nat) : List Value := [.string x.name, .string x.file, .int .i64 x.params, .int .i64 x.locals, .slice (some ⟨g, 0, none⟩) x.body.length (x.body.length + 8)]
def zeroFn : List Value := [.string ⟨#[]⟩, .string ⟨#[]⟩, .int .i64 0, .int .i64 0, .slice none 0 0]
def markFn : List Value := [.string ⟨#[109, 97, 114, 107]⟩, .string ⟨#[]⟩, .int .i64 0, .int .i64 0, .slice none 0 0]

theorem Tryz.infoFn : (Tryz.prog.info? 122).map (fun i => (i.zero, i.size, i.bytes)) = some (some (.agg #[.string ⟨#[]⟩, .string ⟨#[]⟩, .int .i64 0, .int .i64 0, .slice none 0 0]), 5, 72) := by kernel_rfl

/-- Of the functions that have been laid. -/
def DoneF (w : World) (base : Nat) (w0 : World) (a : Option Addr) (p : List FnD) (done : List (List Value)) : Prop :=
  ∀ i x, i < done.length → p[i]? = some x → ∃ b off ba bcap g, a = some ⟨b, off, none⟩ ∧ w0.cell? ⟨b, off + i * 5 + 4, none⟩ = some (.slice ba x.body.length bcap) ∧ done[i]? = some (fnCells x g) ∧
    HdB w base (fun j => ba.bind fun c => w0.cell? ⟨c.block, c.off + j * 6 + 5, none⟩) x.body g
theorem DoneF.mono {w w' : World} {base : Nat} {w0 : World} {a : Option Addr} {p : List FnD} {done : List (List Value)} (h : DoneF w base w0 a p done) (hm : ∀ orig l g, HdB w base orig l g → HdB w' base orig l g) : DoneF w' base w0 a p done := by
  intro i x hi hx
  obtain ⟨b, off, ba, bcap, g, h1, h2, h3, h4⟩ := h i x hi hx
  exact ⟨b, off, ba, bcap, g, h1, h2, h3, hm _ _ _ h4⟩
theorem DoneF.snoc {w : World} {base : Nat} {w0 : World} {a : Option Addr} {p : List FnD} {done : List (List Value)} (h : DoneF w base w0 a p done) (x : FnD) (hx : p[done.length]? = some x) (b off : Nat) (ba : Option Addr) (bcap g : Nat)
    (h1 : a = some ⟨b, off, none⟩) (h2 : w0.cell? ⟨b, off + done.length * 5 + 4, none⟩ = some (.slice ba x.body.length bcap)) (h3 : HdB w base (fun j => ba.bind fun c => w0.cell? ⟨c.block, c.off + j * 6 + 5, none⟩) x.body g) : DoneF w base w0 a p (done ++ [fnCells x g]) := by
  intro i x' hi hx'
  rw [List.length_append, List.length_singleton] at hi
  by_cases hlt : i < done.length
  · obtain ⟨b', off', ba', bcap', g', e1, e2, e3, e4⟩ := h i x' hlt hx'
    exact ⟨b', off', ba', bcap', g', e1, e2, by rw [List.getElem?_append_left hlt]; exact e3, e4⟩
  · have : i = done.length := by omega
    subst this
    rw [hx] at hx'
    cases hx'
    exact ⟨b, off, ba, bcap, g, h1, h2, by simp, h3⟩

/-- The functions of a program that is handed in. -/
def HdP (w : World) (base : Nat) (w0 : World) (a : Option Addr) (p : List FnD) (g : Nat) : Prop :=
  ∃ done, done.length = p.length ∧ (∀ e ∈ done, e.length = 5) ∧ DoneF w base w0 a p done ∧
    w.ownsRow base 122 5 (.slice (some ⟨g, 0, none⟩) (p.length + 8) (p.length + 8)) (p.length + 8) (done ++ List.replicate 8 markFn).flatten

/-- A whole entry of five cells stored into a row of the call's own. -/
theorem stored5 {w : World} {base g n cap : Nat} {e : TypeId} {ess : List (List Value)} (h : w.ownsRow base e 5 (.slice (some ⟨g, 0, none⟩) n cap) n ess.flatten) (hk : ∀ c ∈ ess, c.length = 5) (i : Nat) (hi : i < ess.length) (v0 v1 v2 v3 v4 : Value) :
    (((((w.setCell ⟨g, i * 5, none⟩ v0).setCell ⟨g, i * 5 + 1, none⟩ v1).setCell ⟨g, i * 5 + 2, none⟩ v2).setCell ⟨g, i * 5 + 3, none⟩ v3).setCell ⟨g, i * 5 + 4, none⟩ v4).ownsRow base e 5 (.slice (some ⟨g, 0, none⟩) n cap) n
      (ess.set i [v0, v1, v2, v3, v4]).flatten := by
  have hc : (ess.getD i []).length = 5 := hk _ (by simp [List.getD, hi])
  match hcc : ess.getD i [], hc with
  | [x0, x1, x2, x3, x4], _ =>
    have s0 := (h.stored (i * 5 + 0) v0).1
    rw [flatten_set 5 ess i 0 v0 hk hi (by omega), hcc] at s0
    have k0 := set_all_len hk i ([x0, x1, x2, x3, x4].set 0 v0) rfl
    have s1 := (s0.stored (i * 5 + 1) v1).1
    rw [flatten_set 5 _ i 1 v1 k0 (by simpa using hi) (by omega)] at s1
    have g1 : (ess.set i ([x0, x1, x2, x3, x4].set 0 v0)).getD i [] = [v0, x1, x2, x3, x4] := by simp [List.getD, hi]
    rw [g1, List.set_set] at s1
    have k1 := set_all_len hk i ([v0, x1, x2, x3, x4].set 1 v1) rfl
    have s2 := (s1.stored (i * 5 + 2) v2).1
    rw [flatten_set 5 _ i 2 v2 k1 (by simpa using hi) (by omega)] at s2
    have g2 : (ess.set i ([v0, x1, x2, x3, x4].set 1 v1)).getD i [] = [v0, v1, x2, x3, x4] := by simp [List.getD, hi]
    rw [g2, List.set_set] at s2
    have k2 := set_all_len hk i ([v0, v1, x2, x3, x4].set 2 v2) rfl
    have s3 := (s2.stored (i * 5 + 3) v3).1
    rw [flatten_set 5 _ i 3 v3 k2 (by simpa using hi) (by omega)] at s3
    have g3 : (ess.set i ([v0, v1, x2, x3, x4].set 2 v2)).getD i [] = [v0, v1, v2, x3, x4] := by simp [List.getD, hi]
    rw [g3, List.set_set] at s3
    have k3 := set_all_len hk i ([v0, v1, v2, x3, x4].set 3 v3) rfl
    have s4 := (s3.stored (i * 5 + 4) v4).1
    rw [flatten_set 5 _ i 4 v4 k3 (by simpa using hi) (by omega)] at s4
    have g4 : (ess.set i ([v0, v1, v2, x3, x4].set 3 v3)).getD i [] = [v0, v1, v2, v3, x4] := by simp [List.getD, hi]
    rw [g4, List.set_set] at s4
    exact s4

set_option maxHeartbeats 4000000 in
set_option maxRecDepth 100000 in
theorem programOf_any (a : Option Addr) (cap : Nat) (p : List FnD) (w : World) (hr : RdP w a p.length cap p) (hlen : p.length ≤ 2199023255552) (hbody : ∀ x ∈ p, x.body.length ≤ 2199023255552 ∧ ∀ o ∈ x.body, o.args.length ≤ 17592186044416) :
    Calls Tryz.prog 39 #[.agg #[.slice a p.length cap]] w fun e w' => ∃ g, e = .returned (.agg #[.slice (some ⟨g, 0, none⟩) p.length (p.length + 8)]) ∧ HdP w' w.heap.size w a p g ∧ Below w.heap.size w w' := by
  obtain ⟨n, hn⟩ : ∃ n, n = p.length := ⟨_, rfl⟩
  rw [← hn] at hr hlen ⊢
  have HN := hid hn
  clear hn
  have hbl1 := hr.2.1
  have hbl2 := hr.2.2.1
  unfold maxLen at hbl2
  obtain ⟨i0, hi, hz0, hz1, hz2⟩ := info_parts Tryz.infoFn
  obtain ⟨bw, hbw⟩ : ∃ bw, bw = (w.alloc (Obj.cells #[.slice a n cap] 44)).alloc (Obj.cells #[.slice none 0 0] 44) := ⟨_, rfl⟩
  have hbb : Below w.heap.size w bw := by rw [hbw]; exact ((Below.refl _ _).alloc (Nat.le_refl _) _).alloc (by simp) _
  have hbs : bw.heap.size = w.heap.size + 2 := by rw [hbw]; simp
  have hk1 : bw.heap[w.heap.size]? = some (.cells #[.slice a n cap] 44 (0, 0)) := by
    rw [hbw, Below.heap_alloc _ _ _ (by simp)]; exact heap_alloc_new _ _
  have hk2 : bw.heap[w.heap.size + 1]? = some (.cells #[.slice none 0 0] 44 (0, 0)) := by
    rw [hbw]
    have := heap_alloc_new (w.alloc (Obj.cells #[.slice a n cap] 44)) (Obj.cells #[.slice none 0 0] 44)
    simpa using this
  obtain ⟨wm, hmk, hown, hgr⟩ := run_make_full (P := Tryz.prog) bw bw.heap.size 42 122 i0 (.agg #[.string ⟨#[]⟩, .string ⟨#[]⟩, .int .i64 0, .int .i64 0, .slice none 0 0]) 5 Tryz.underlying42 hi hz0 hz1 .i64 .i64 (n + 8) (by rw [hz2]; omega) (by unfold maxLen; omega) (Nat.le_refl _)
  have hmr := made_rows zeroFn 5 (n + 8) rfl (by omega)
  have hcz : (Value.agg #[.string ⟨#[]⟩, .string ⟨#[]⟩, .int .i64 0, .int .i64 0, .slice none 0 0]).cells = zeroFn.toArray := rfl
  rw [hcz, hmr] at hown
  have ec : ((n + 8 : Nat) : Int) = (n : Int) + 8 := by omega
  rw [ec, hbw] at hmk
  have hbm : Below bw.heap.size bw wm := (Below.refl _ _).grown hgr (Nat.le_refl _) (fun k hk => by cases hk)
  have hbt := hbb.trans (hbm.mono hbb.size)
  have hm1 := (hbm.block w.heap.size (by omega)).trans hk1
  have hm2 := (hbm.block (w.heap.size + 1) (by omega)).trans hk2
  have hszE : ((w.alloc (Obj.cells #[.slice a n cap] 44)).alloc (Obj.cells #[.slice none 0 0] 44)).heap.size = w.heap.size + 2 := by simp
  rw [hszE] at hmk
  rw [hbs] at hown
  have hown1 := hid (owns_lower hown (show w.heap.size ≤ w.heap.size + 2 by omega))
  have HM1 := hid hm1
  have HM2 := hid hm2
  clear hown hgr hmr hcz hk1 hk2 hm1 hm2 hbm hbb hszE
  go_enter Tryz.func39, Tryz.ntmps39
  go_wp2
  clear hmk hbw
  go_loopw [5] (fun i wr => ∃ (s : Nat) (done : List (List Value)), i = .int .i64 s ∧ s ≤ n ∧ done.length = s ∧ (∀ e ∈ done, e.length = 5) ∧ DoneF wr w.heap.size w a p done ∧
      wr.ownsRow w.heap.size 122 5 (.slice (some ⟨w.heap.size + 2, 0, none⟩) (n + 8) (n + 8)) (n + 8) (done ++ List.replicate (n + 8 - s) zeroFn).flatten ∧ Below w.heap.size w wr ∧
      wr.heap[w.heap.size]? = some (.cells #[.slice a n cap] 44 (0, 0)) ∧ wr.heap[w.heap.size + 1]? = some (.cells #[.slice none 0 0] 44 (0, 0))) (fun i _ => n - (intOf i).toNat)
  case atStart => exact ⟨0, [], rfl, by omega, rfl, by simp, fun i o hi => by simp at hi, hown1.out, hbt, HM1.out, HM2.out⟩
  case round =>
    clear hbt hown1 HM1 HM2
    obtain ⟨s, done, rfl, hs, hdl, hd5, hdone, hown, hbel, hb1, hb2⟩ := hrel
    have HDL := hid hdl
    have HD5 := hid hd5
    have HDONE := hid hdone
    have HOWN := hid hown
    have HB1 := hid hb1
    have HB2 := hid hb2
    have hx0 : wr.cell? ⟨w.heap.size, 0, none⟩ = some (.slice a n cap) := by simp [World.cell?, hb1]
    have hsz := hbel.size
    have hb2lt := (Array.getElem?_eq_some_iff.1 hb2).1
    have hglt := (hown.lt (w.heap.size + 2) rfl).2
    clear hdl hd5 hdone hown hb1 hb2
    by_cases hlt : s < n
    · obtain ⟨x, hx⟩ : ∃ x, p[s]? = some x := ⟨_, List.getElem?_eq_getElem (by rw [← HN.out]; exact hlt)⟩
      obtain ⟨b, off, ba, bcap, rfl, hb, c0, c1, c2, c3, c4, hrb, hn1, hn2⟩ := (hr.below hbel).at s x hx
      have horig : w.cell? ⟨b, off + s * 5 + 4, none⟩ = some (.slice ba x.body.length bcap) := by
        obtain ⟨b2, off2, ba2, bcap2, e2, hb2, _, _, _, _, c4', _⟩ := hr.at s x hx
        cases e2
        rw [← (hbel.cell (p := ⟨b, off + s * 5 + 4, none⟩) hb2)]; exact c4
      have hbd := hbody x (List.mem_of_getElem? hx)
      have HF := hid (fun (W : World) (hW : W = wr) => funcOf_any ba bcap x W (by rw [hW]; exact hrb) hbd.1 hbd.2)
      have horigB : ∀ j, j < x.body.length → (ba.bind fun c => wr.cell? ⟨c.block, c.off + j * 6 + 5, none⟩) = ba.bind fun c => w.cell? ⟨c.block, c.off + j * 6 + 5, none⟩ := by
        intro j hj
        obtain ⟨b2, off2, ba2, bcap2, e2, _, _, _, _, _, c4', hrb2, _⟩ := hr.at s x hx
        cases e2
        rw [horig] at c4'
        cases c4'
        obtain ⟨o, ho⟩ : ∃ o, x.body[j]? = some o := ⟨_, List.getElem?_eq_getElem hj⟩
        obtain ⟨b3, off3, _, _, e3, hb3, _⟩ := hrb2.opAt j o ho
        subst e3
        exact hbel.cell (p := ⟨b3, off3 + j * 6 + 5, none⟩) hb3
      have HORIG := hid horig
      have HORB := hid horigB
      have HX := hid hx
      clear horig horigB hx hr hbody hrb hn1 hn2 hbd
      have hne1 : w.heap.size + 2 ≠ wr.heap.size := by omega
      go_wp2_with fail
      refine (HF.out _ (by rfl)).mono ?_
      rintro e w2 ⟨g, rfl, hhb, hbi⟩
      have hs2 := hbi.size
      have hown2 := owns_below HOWN.out hbi
      have hdone2 := HDONE.out.mono (fun _ _ _ h => h.below hbi)
      have hbel2 := hbel.trans (hbi.mono hsz)
      have hhb2 := (hhb.congr HORB.out).lower hsz
      have hq1 := (hbi.block w.heap.size (by omega)).trans HB1.out
      have hq2 := (hbi.block (w.heap.size + 1) (by omega)).trans HB2.out
      have hess : (done ++ List.replicate (n + 8 - s) zeroFn).length = n + 8 := by rw [List.length_append, List.length_replicate, HDL.out]; omega
      have hall : ∀ e ∈ done ++ List.replicate (n + 8 - s) zeroFn, e.length = 5 := by
        intro e he
        rcases List.mem_append.1 he with h | h
        · exact HD5.out e h
        · rw [List.eq_of_mem_replicate h]; rfl
      have hat : (done ++ List.replicate (n + 8 - s) zeroFn).getD s [] = zeroFn := by
        simp only [List.getD]
        rw [List.getElem?_append_right (by rw [HDL.out]; omega), HDL.out, Nat.sub_self, List.getElem?_replicate_of_lt (by omega)]
        rfl
      have hz : ∀ j, j < 5 → w2.cell? ⟨w.heap.size + 2, s * 5 + j, none⟩ = zeroFn[j]? := by
        intro j hj
        have := hown2.cellAt (s * 5 + j) (by omega)
        rw [flatten_get 5 _ s j hall (by omega) hj, hat] at this
        exact this
      have z0 : w2.cell? ⟨w.heap.size + 2, s * 5, none⟩ = some (.string ⟨#[]⟩) := hz 0 (by omega)
      have z1 : w2.cell? ⟨w.heap.size + 2, s * 5 + 1, none⟩ = some (.string ⟨#[]⟩) := hz 1 (by omega)
      have z2 : w2.cell? ⟨w.heap.size + 2, s * 5 + 2, none⟩ = some (.int .i64 0) := hz 2 (by omega)
      have z3 : w2.cell? ⟨w.heap.size + 2, s * 5 + 3, none⟩ = some (.int .i64 0) := hz 3 (by omega)
      have z4 : w2.cell? ⟨w.heap.size + 2, s * 5 + 4, none⟩ = some (.slice none 0 0) := hz 4 (by omega)
      have fz := fun j => hown2.frozenAt j
      have f0 := fz (s * 5)
      have f1 := fz (s * 5 + 1)
      have f2 := fz (s * 5 + 2)
      have f3 := fz (s * 5 + 3)
      have f4 := fz (s * 5 + 4)
      have HOWN2 := hid hown2
      have HDONE2 := hid hdone2
      have HHB2 := hid hhb2
      have HQ1 := hid hq1
      have HQ2 := hid hq2
      have HESS := hid hess
      have HALL := hid hall
      have hs8 : (s : Int) < (n : Int) + 8 := by omega
      clear hess hall hat hz fz hown2 hdone2 hhb hhb2 hq1 hq2 hbi HF HB1 HB2 HDONE HOWN HORB c0 c1 c2 c3 c4
      go_wp2
      go_roundw
      case rel =>
        have e2 : IsE w2 (w.heap.size + 2) 122 := by
          rcases HOWN2.out.2 with ⟨h', _⟩ | ⟨g', cap', cur, h', _, hg, _⟩
          · cases h'
          · cases h'; exact ⟨_, _, hg⟩
        have hstep : ∀ (orig : Nat → Option Value) (l : List OpD) (gg : Nat), HdB w2 w.heap.size orig l gg → HdB (((((w2.setCell ⟨w.heap.size + 2, s * 5, none⟩ (.string x.name)).setCell ⟨w.heap.size + 2, s * 5 + 1, none⟩ (.string x.file)).setCell ⟨w.heap.size + 2, s * 5 + 2, none⟩ (.int .i64 x.params)).setCell ⟨w.heap.size + 2, s * 5 + 3, none⟩ (.int .i64 x.locals)).setCell ⟨w.heap.size + 2, s * 5 + 4, none⟩ (.slice (some ⟨g, 0, none⟩) x.body.length (x.body.length + 8))) w.heap.size orig l gg := by
          intro orig l gg h
          have a1 := h.setE e2 (by decide) (by decide) (s * 5) (.string x.name)
          have i1 := e2.setCell (w.heap.size + 2) (s * 5) (.string x.name)
          have a2 := a1.setE i1 (by decide) (by decide) (s * 5 + 1) (.string x.file)
          have i2 := i1.setCell (w.heap.size + 2) (s * 5 + 1) (.string x.file)
          have a3 := a2.setE i2 (by decide) (by decide) (s * 5 + 2) (.int .i64 x.params)
          have i3 := i2.setCell (w.heap.size + 2) (s * 5 + 2) (.int .i64 x.params)
          have a4 := a3.setE i3 (by decide) (by decide) (s * 5 + 3) (.int .i64 x.locals)
          have i4 := i3.setCell (w.heap.size + 2) (s * 5 + 3) (.int .i64 x.locals)
          exact a4.setE i4 (by decide) (by decide) (s * 5 + 4) (.slice (some ⟨g, 0, none⟩) x.body.length (x.body.length + 8))
        have o4 := stored5 HOWN2.out HALL.out s (by rw [HESS.out]; omega) (.string x.name) (.string x.file) (.int .i64 x.params) (.int .i64 x.locals) (.slice (some ⟨g, 0, none⟩) x.body.length (x.body.length + 8))
        rw [set_mid done (n + 8 - s) zeroFn _ s HDL.out (by omega)] at o4
        have hsub : n + 8 - s - 1 = n + 8 - (s + 1) := by omega
        rw [hsub] at o4
        have hd4 := (HDONE2.out.mono hstep).snoc x (by rw [HDL.out]; exact HX.out) b off ba bcap g rfl (by rw [HDL.out]; exact HORIG.out) (hstep _ _ _ HHB2.out)
        refine ⟨s + 1, done ++ [fnCells x g], by go_num, by omega, by rw [List.length_append, HDL.out]; rfl, ?_, hd4, o4, ?_, ?_, ?_⟩
        · intro e he
          rcases List.mem_append.1 he with h | h
          · exact HD5.out e h
          · rw [List.mem_singleton.1 h]; rfl
        · exact ((((hbel2.setCell (by show w.heap.size ≤ w.heap.size + 2; omega) _).setCell (by show w.heap.size ≤ w.heap.size + 2; omega) _).setCell (by show w.heap.size ≤ w.heap.size + 2; omega) _).setCell (by show w.heap.size ≤ w.heap.size + 2; omega) _).setCell (by show w.heap.size ≤ w.heap.size + 2; omega) _
        · iterate 5 rw [Below.heap_setCell _ _ _ _ (by show w.heap.size ≠ w.heap.size + 2; omega)]
          exact HQ1.out
        · iterate 5 rw [Below.heap_setCell _ _ _ _ (by show w.heap.size + 1 ≠ w.heap.size + 2; omega)]
          exact HQ2.out
      case measure => simp [intOf]; omega
    · have hsn : s = n := by omega
      subst hsn
      have h88 : s + 8 - s = 8 := by omega
      have hown8 := HOWN.out
      rw [h88] at hown8
      have HO8 := hid hown8
      clear hown8 HOWN hr hbody
      go_wp2
      go_loopw [6] (fun i wr => ∃ k : Nat, i = .int .i64 ((s : Int) + k) ∧ k ≤ 8 ∧ DoneF wr w.heap.size w a p done ∧
          wr.ownsRow w.heap.size 122 5 (.slice (some ⟨w.heap.size + 2, 0, none⟩) (s + 8) (s + 8)) (s + 8) (done ++ (List.replicate k markFn ++ List.replicate (8 - k) zeroFn)).flatten ∧ Below w.heap.size w wr ∧
          wr.heap[w.heap.size + 1]? = some (.cells #[.slice none 0 0] 44 (0, 0))) (fun i _ => (s + 8) - (intOf i).toNat)
      case atStart => exact ⟨0, by go_num, by omega, HDONE.out, HO8.out, hbel, HB2.out⟩
      case round =>
        clear HDONE HO8 hbel HB1 HB2 hx0 hsz hb2lt hglt
        obtain ⟨k, rfl, hk, hdone, hown, hbel, hb2⟩ := hrel
        have HDONE := hid hdone
        have HOWN := hid hown
        have HB2 := hid hb2
        have hsz := hbel.size
        by_cases hk8 : k < 8
        · have hlt8 : (s : Int) + k < (s : Int) + 8 := by omega
          have e0 : ((s : Int) + (k : Int)).toNat = s + k := by omega
          have hall : ∀ e ∈ done ++ (List.replicate k markFn ++ List.replicate (8 - k) zeroFn), e.length = 5 := by
            intro e he
            rcases List.mem_append.1 he with h | h
            · exact HD5.out e h
            · rcases List.mem_append.1 h with h | h
              · rw [List.eq_of_mem_replicate h]; rfl
              · rw [List.eq_of_mem_replicate h]; rfl
          have hess : (done ++ (List.replicate k markFn ++ List.replicate (8 - k) zeroFn)).length = s + 8 := by simp [HDL.out]; omega
          have hat := marks_at done markFn zeroFn [] k s HDL.out hk8
          have hc := hown.cellAt ((s + k) * 5 + 0) (by omega)
          rw [flatten_get 5 _ (s + k) 0 hall (by omega) (by omega), hat] at hc
          have hc1 : wr.cell? ⟨w.heap.size + 2, (s + k) * 5, none⟩ = some (.string ⟨#[]⟩) := hc
          have hf1 := hown.frozenAt ((s + k) * 5)
          have hst := (hown.stored ((s + k) * 5 + 0) (.string ⟨#[109, 97, 114, 107]⟩)).1
          rw [flatten_set 5 _ (s + k) 0 _ hall (by omega) (by omega), hat] at hst
          have hmk : zeroFn.set 0 (.string ⟨#[109, 97, 114, 107]⟩) = markFn := rfl
          rw [hmk, marks_set done markFn zeroFn k s HDL.out hk8] at hst
          have HST := hid hst
          clear hst hmk hc hat hess hall hdone hown hb2
          go_wp2
          go_roundw
          case rel =>
            have e2 : IsE wr (w.heap.size + 2) 122 := by
              rcases HOWN.out.2 with ⟨h', _⟩ | ⟨g', cap', cur, h', _, hg, _⟩
              · cases h'
              · cases h'; exact ⟨_, _, hg⟩
            refine ⟨k + 1, by go_num, by omega, HDONE.out.mono (fun _ _ _ h => h.setE e2 (by decide) (by decide) _ _), HST.out, hbel.setCell (by show w.heap.size ≤ w.heap.size + 2; omega) _, ?_⟩
            rw [Below.heap_setCell _ _ _ _ (by show w.heap.size + 1 ≠ w.heap.size + 2; omega)]; exact HB2.out
          case measure => simp [intOf]; omega
        · have hk' : k = 8 := by omega
          subst hk'
          have q0 : wr.cell? ⟨w.heap.size + 1, 0, none⟩ = some (.slice none 0 0) := by simp [World.cell?, hb2]
          have z0 : wr.frozen? ⟨w.heap.size + 1, 0, none⟩ = false := by simp [World.frozen?, hb2]
          have hs8 : (s : Int) ≤ (s : Int) + 8 := by omega
          clear hdone hown hb2 hi hz0 hz1 hz2
          go_wp2
          have e1 : IsE wr (w.heap.size + 1) 44 := ⟨_, _, HB2.out⟩
          have o1 := ownsRow_setCell_other HOWN.out (a := ⟨w.heap.size + 1, 0, none⟩) (by simp [Value.ownBlock]) (.slice (some ⟨w.heap.size + 2, 0, none⟩) s (s + 8))
          have hP : HdP (wr.setCell ⟨w.heap.size + 1, 0, none⟩ (.slice (some ⟨w.heap.size + 2, 0, none⟩) s (s + 8))) w.heap.size w a p (w.heap.size + 2) := by
            refine ⟨done, by rw [HDL.out]; exact HN.out, HD5.out, HDONE.out.mono (fun _ _ _ h => h.setE e1 (by decide) (by decide) _ _), ?_⟩
            rw [← HN.out]
            simpa using o1
          exact bodyPost_ret (v := .agg #[.slice (some ⟨w.heap.size + 2, 0, none⟩) s (s + 8)]) (by simp [results, Tryz.results39, go_sem, q0]) rfl ⟨w.heap.size + 2, rfl, hP, hbel.setCell (by show w.heap.size ≤ w.heap.size + 1; omega) _⟩
end Go.Proofs.YtffnfjkjlmlonaaGreatDoor
namespace Go.Proofs.YtffnfjkjlmlonaaGreatDoor
open Go.RowKit

theorem HdP.below {w w' : World} {base : Nat} {w0 : World} {a : Option Addr} {p : List FnD} {g : Nat} (h : HdP w base w0 a p g) (hb : Below w.heap.size w w') : HdP w' base w0 a p g := by
  obtain ⟨done, h1, h2, h3, h4⟩ := h
  exact ⟨done, h1, h2, h3.mono (fun _ _ _ h => h.below hb), owns_below h4 hb⟩

/-- The cells of one function that was handed in. -/
theorem HdP.at {w : World} {base : Nat} {w0 : World} {a : Option Addr} {p : List FnD} {g : Nat} (h : HdP w base w0 a p g) (i : Nat) (x : FnD) (hx : p[i]? = some x) :
    ∃ b off ba bcap gi, a = some ⟨b, off, none⟩ ∧ w0.cell? ⟨b, off + i * 5 + 4, none⟩ = some (.slice ba x.body.length bcap) ∧ HdB w base (fun j => ba.bind fun c => w0.cell? ⟨c.block, c.off + j * 6 + 5, none⟩) x.body gi ∧
      ∀ j v, (fnCells x gi)[j]? = some v → w.cell? ⟨g, i * 5 + j, none⟩ = some v := by
  obtain ⟨done, h1, h2, h3, h4⟩ := h
  have hi := (List.getElem?_eq_some_iff.1 hx).1
  obtain ⟨b, off, ba, bcap, gi, e1, e2, e3, e4⟩ := h3 i x (by omega) hx
  refine ⟨b, off, ba, bcap, gi, e1, e2, e4, fun j v hj => ?_⟩
  have hj5 : j < 5 := by
    rcases Nat.lt_or_ge j 5 with h | h
    · exact h
    · rw [List.getElem?_eq_none (by simpa [fnCells] using h)] at hj; cases hj
  have hall : ∀ e ∈ done ++ List.replicate 8 markFn, e.length = 5 := by
    intro e he
    rcases List.mem_append.1 he with h | h
    · exact h2 e h
    · rw [List.eq_of_mem_replicate h]; rfl
  have := h4.cellAt (i * 5 + j) (by omega)
  rw [flatten_get 5 _ i j hall (by simp; omega) hj5] at this
  have hd : (done ++ List.replicate 8 markFn).getD i [] = fnCells x gi := by
    simp only [List.getD]
    rw [List.getElem?_append_left (by omega), e3]
    rfl
  rw [hd, hj] at this
  exact this
theorem HdP.mark {w : World} {base : Nat} {w0 : World} {a : Option Addr} {p : List FnD} {g : Nat} (h : HdP w base w0 a p g) (k : Nat) (hk : k < 8) : ∀ j v, markFn[j]? = some v → w.cell? ⟨g, (p.length + k) * 5 + j, none⟩ = some v := by
  intro j v hj
  obtain ⟨done, h1, h2, _, h4⟩ := h
  have hj5 : j < 5 := by
    rcases Nat.lt_or_ge j 5 with h | h
    · exact h
    · rw [List.getElem?_eq_none (by simpa [markFn] using h)] at hj; cases hj
  have hall : ∀ e ∈ done ++ List.replicate 8 markFn, e.length = 5 := by
    intro e he
    rcases List.mem_append.1 he with h | h
    · exact h2 e h
    · rw [List.eq_of_mem_replicate h]; rfl
  have := h4.cellAt ((p.length + k) * 5 + j) (by omega)
  rw [flatten_get 5 _ (p.length + k) j hall (by simp; omega) hj5] at this
  have hd : (done ++ List.replicate 8 markFn).getD (p.length + k) [] = markFn := by
    simp only [List.getD]
    rw [List.getElem?_append_right (by omega), h1, Nat.add_sub_cancel_left, List.getElem?_replicate_of_lt hk]
    rfl
  rw [hd, hj] at this
  exact this
/-- A program that was handed in reads as the program that it was made of. -/
theorem HdP.read {w : World} {base : Nat} {w0 : World} {a : Option Addr} {p : List FnD} {g : Nat} (h : HdP w base w0 a p g) (hs : ∀ x ∈ p, x.name.size ≤ maxLen ∧ x.file.size ≤ maxLen) : RdP w (some ⟨g, 0, none⟩) p.length (p.length + 8) p := by
  have hm : p.length + 8 ≤ maxLen := by
    obtain ⟨done, _, _, _, h4⟩ := h
    rcases h4.2 with ⟨h', _⟩ | ⟨g', cap', cur, h', _, _, _, hcm, _⟩
    · cases h'
    · cases h'; exact hcm
  refine ⟨rfl, by omega, hm, fun i x hx => ?_⟩
  obtain ⟨_, _, _, _, gi, _, _, hh, hc⟩ := h.at i x hx
  have hsz := hs x (List.mem_of_getElem? hx)
  exact ⟨g, 0, fnCells x gi, rfl, rfl, fun j v hj => by rw [Nat.zero_add]; exact hc j v hj, some ⟨gi, 0, none⟩, x.body.length + 8, rfl, hh.read, hsz.1, hsz.2⟩

set_option maxHeartbeats 4000000 in
set_option maxRecDepth 100000 in
theorem programStill_any (base : Nat) (w0 : World) (g : Nat) (p : List FnD) (a : Option Addr) (cap : Nat) (w : World) (hh : HdP w base w0 a p g) (hr : RdP w a p.length cap p) (h0 : Below w0.heap.size w0 w)
    (hlen : p.length ≤ 2199023255552) (hbody : ∀ x ∈ p, x.body.length ≤ 2199023255552 ∧ ∀ o ∈ x.body, o.args.length ≤ 17592186044416) :
    Calls Tryz.prog 41 #[.agg #[.slice (some ⟨g, 0, none⟩) p.length (p.length + 8)], .agg #[.slice a p.length cap]] w fun e w' => e = .returned (.bool true) ∧ Below w.heap.size w w' := by
  obtain ⟨n, hn⟩ : ∃ n, n = p.length := ⟨_, rfl⟩
  rw [← hn] at hr hlen ⊢
  have HN := hid hn
  clear hn
  have hc1 := hr.2.1
  have hc2 := hr.2.2.1
  unfold maxLen at hc2
  obtain ⟨wb, hwb⟩ : ∃ wb, wb = (w.alloc (Obj.cells #[.slice (some ⟨g, 0, none⟩) n (n + 8)] 44)).alloc (Obj.cells #[.slice a n cap] 44) := ⟨_, rfl⟩
  have hbb : Below w.heap.size w wb := by rw [hwb]; exact ((Below.refl _ _).alloc (Nat.le_refl _) _).alloc (by simp) _
  have hbs : wb.heap.size = w.heap.size + 2 := by rw [hwb]; simp
  have hk2 : wb.heap[w.heap.size + 1]? = some (.cells #[.slice a n cap] 44 (0, 0)) := by
    rw [hwb]
    have := heap_alloc_new (w.alloc (Obj.cells #[.slice (some ⟨g, 0, none⟩) n (n + 8)] 44)) (Obj.cells #[.slice a n cap] 44)
    simpa using this
  have hge : decide ((n : Int) + 8 < (n : Int) + 8) = false := by simp
  have HK2 := hid hk2
  clear hk2
  go_enter Tryz.func41, Tryz.ntmps41
  go_wp2
  rw [← hwb]
  clear hwb
  go_loopw [7, 8] (fun i _ wr => ∃ j : Nat, i = .int .i64 j ∧ j ≤ n ∧ Below wb.heap.size wb wr) (fun i _ _ => n - (intOf i).toNat)
  case atStart => exact ⟨0, rfl, by omega, Below.refl _ _⟩
  case round =>
    obtain ⟨j, rfl, hj, hbel⟩ := hrel
    have hsz := hbel.size
    have hbe := hbb.trans (hbel.mono hbb.size)
    have hmr := (hbel.block (w.heap.size + 1) (by omega)).trans HK2.out
    have q0 : wr.cell? ⟨w.heap.size + 1, 0, none⟩ = some (.slice a n cap) := by simp [World.cell?, hmr]
    clear hmr
    by_cases hlt : j < n
    · obtain ⟨x, hx⟩ : ∃ x, p[j]? = some x := ⟨_, List.getElem?_eq_getElem (by rw [← HN.out]; exact hlt)⟩
      obtain ⟨b, off, ba, bcap, rfl, hb, d0, d1, d2, d3, d4, hrb, _, _⟩ := (hr.below hbe).at j x hx
      obtain ⟨b2, off2, ba2, bcap2, gi, eA, horg, hhb, hcells⟩ := (hh.below hbe).at j x hx
      cases eA
      have h0e : Below w0.heap.size w0 wr := h0.trans (hbe.mono h0.size)
      have hbae : ba2 = ba ∧ bcap2 = bcap := by
        have h2 := (h0e.cell (p := ⟨b, off + j * 5 + 4, none⟩) (World.block_lt_of_cell? w0 _ horg)).trans horg
        rw [d4] at h2
        injection h2 with h2
        injection h2 with e1 _ e3
        exact ⟨e1.symm, e3.symm⟩
      obtain ⟨rfl, rfl⟩ := hbae
      have hbd := hbody x (List.mem_of_getElem? hx)
      have HST := hid (fun (W : World) (hW : Below wr.heap.size wr W) => funcStill_any base _ gi x ba2 bcap2 W (hhb.below hW) (hrb.below hW (fun _ _ h => h.below hW)) (fun i hi => by
        obtain ⟨o, ho⟩ : ∃ o, x.body[i]? = some o := ⟨_, List.getElem?_eq_getElem hi⟩
        obtain ⟨_, _, _, ho1, _, _⟩ := hhb.at i o ho
        cases ba2 with
        | none => rfl
        | some c => exact (((h0e.trans (hW.mono h0e.size)).cell (p := ⟨c.block, c.off + i * 6 + 5, none⟩) (World.block_lt_of_cell? w0 _ ho1))).symm) hbd.1 hbd.2)
      have c0 : wr.cell? ⟨g, j * 5, none⟩ = some (.string x.name) := hcells 0 _ rfl
      have c1 : wr.cell? ⟨g, j * 5 + 1, none⟩ = some (.string x.file) := hcells 1 _ rfl
      have c2 : wr.cell? ⟨g, j * 5 + 2, none⟩ = some (.int .i64 x.params) := hcells 2 _ rfl
      have c3 : wr.cell? ⟨g, j * 5 + 3, none⟩ = some (.int .i64 x.locals) := hcells 3 _ rfl
      have c4 : wr.cell? ⟨g, j * 5 + 4, none⟩ = some (.slice (some ⟨gi, 0, none⟩) x.body.length (x.body.length + 8)) := hcells 4 _ rfl
      have hj8 : (j : Int) < (n : Int) + 8 := by omega
      clear hr hh hx hcells horg hhb hrb hbody hbd h0 h0e
      go_wp2
      go_region_with (go_at_call 87; refine (HST.out _ ?_).mono ?_; exact (Below.refl _ _).drew; rintro e w2 ⟨rfl, hb2⟩)
      all_goals
        go_wp2
        go_roundw
        case rel => exact ⟨j + 1, by go_num, by omega, hbel.trans (((Below.refl _ _).drew.trans hb2).mono hsz)⟩
        case measure => simp [intOf]; omega
    · have hjn : j = n := by omega
      subst hjn
      clear q0
      go_wp2
      go_loopw [9] (fun i wr => ∃ k : Nat, i = .int .i64 ((j : Int) + k) ∧ k ≤ 8 ∧ Below wb.heap.size wb wr) (fun i _ => (j + 8) - (intOf i).toNat)
      case atStart => exact ⟨0, by go_num, by omega, hbel⟩
      case round =>
        clear hbel hbe hsz
        obtain ⟨k, rfl, hk, hbel⟩ := hrel
        have hsz := hbel.size
        have hbe := hbb.trans (hbel.mono hbb.size)
        by_cases hk8 : k < 8
        · have hlt8 : (j : Int) + k < (j : Int) + 8 := by omega
          have e0 : ((j : Int) + (k : Int)).toNat = j + k := by omega
          have hm := (hh.below hbe).mark k hk8
          rw [← HN.out] at hm
          have x0 : wr.cell? ⟨g, (j + k) * 5, none⟩ = some (.string ⟨#[109, 97, 114, 107]⟩) := hm 0 _ rfl
          have x1 : wr.cell? ⟨g, (j + k) * 5 + 1, none⟩ = some (.string ⟨#[]⟩) := hm 1 _ rfl
          have x2 : wr.cell? ⟨g, (j + k) * 5 + 2, none⟩ = some (.int .i64 0) := hm 2 _ rfl
          have x3 : wr.cell? ⟨g, (j + k) * 5 + 3, none⟩ = some (.int .i64 0) := hm 3 _ rfl
          have x4 : wr.cell? ⟨g, (j + k) * 5 + 4, none⟩ = some (.slice none 0 0) := hm 4 _ rfl
          have hneq := fun W => run_neq_slice_nil_any (P := Tryz.prog) W 120 183 none 0 0 0 0 Tryz.underlying120
          clear hm hh hr hbody
          go_wp2
          go_roundw
          case rel => exact ⟨k + 1, by go_num, by omega, hbel.alloc hsz _⟩
          case measure => simp [intOf]; omega
        · have hk' : k = 8 := by omega
          subst hk'
          go_wp2
          go_ret
          exact ⟨rfl, hbe⟩
end Go.Proofs.YtffnfjkjlmlonaaGreatDoor
namespace Go.Proofs.YtffnfjkjlmlonaaGreatDoor
open Go.RowKit

def nils : Array Value := #[.slice none 0 0, .slice none 0 0, .slice none 0 0, .slice none 0 0, .slice none 0 0, .slice none 0 0, .slice none 0 0, .slice none 0 0, .slice none 0 0]
/-- The statement's world, with nothing in it. -/
def Bare (w : World) (g : Nat) : Prop := w.heap[g]? = some (.cells nils 34 (0, 0))

theorem Bare.cell {w : World} {g : Nat} (h : Bare w g) (j : Nat) (hj : j < 9) : w.cell? ⟨g, j, none⟩ = some (.slice none 0 0) := by
  unfold Bare at h
  simp only [World.cell?, h, Option.isSome_none]
  match j, hj with
  | 0, _ => rfl
  | 1, _ => rfl
  | 2, _ => rfl
  | 3, _ => rfl
  | 4, _ => rfl
  | 5, _ => rfl
  | 6, _ => rfl
  | 7, _ => rfl
  | 8, _ => rfl

set_option maxHeartbeats 1000000 in
set_option maxRecDepth 100000 in
theorem marked_bare (g : Nat) (w : World) (h : Bare w g) :
    Calls Tryz.prog 21 #[.pointer (some ⟨g, 0, none⟩)] w fun e w' => e = .returned (.bool true) ∧ Below w.heap.size w w' := by
  have c5 := h.cell 5 (by omega)
  have c6 := h.cell 6 (by omega)
  have c7 := h.cell 7 (by omega)
  have c8 := h.cell 8 (by omega)
  clear h
  go_enter Tryz.func21, Tryz.ntmps21
  go_wp2
  refine wp_loop_rounds 1 ?_
  rw [rounds_succ]
  go_wp2
  refine wp_loop_rounds 1 ?_
  rw [rounds_succ]
  go_wp2
  refine wp_loop_rounds 1 ?_
  rw [rounds_succ]
  go_wp2
  refine wp_loop_rounds 1 ?_
  rw [rounds_succ]
  go_wp2
  go_ret
  exact ⟨rfl, Below.refl _ _⟩

set_option maxHeartbeats 1000000 in
set_option maxRecDepth 100000 in
theorem looks_bare (g : Nat) (w : World) (h : Bare w g) :
    Calls Tryz.prog 10 #[.pointer (some ⟨g, 0, none⟩)] w fun e w' => e = .returned (.bool true) ∧ Below w.heap.size w w' := by
  have HM := hid (marked_bare g w h)
  have c1 := h.cell 1 (by omega)
  have c3 := h.cell 3 (by omega)
  clear h
  go_enter Tryz.func10, Tryz.ntmps10
  go_wp2
  refine wp_loop_rounds 1 ?_
  rw [rounds_succ]
  go_wp2
  refine wp_loop_rounds 1 ?_
  rw [rounds_succ]
  go_wp2_with (go_at_call 21; refine HM.out.mono ?_; rintro e w1 ⟨rfl, hb⟩)
  go_ret
  exact ⟨rfl, hb⟩
end Go.Proofs.YtffnfjkjlmlonaaGreatDoor
