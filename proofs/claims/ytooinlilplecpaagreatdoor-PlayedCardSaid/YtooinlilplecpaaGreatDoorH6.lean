/- The contract of the statement's own function programOf: it gives a program to hand in, with eight marks behind its functions; nothing that was there is written. -/
import Derived.Test.YtooinlilplecpaaGreatDoorH5
namespace Go.Proofs.YtooinlilplecpaaGreatDoor
open Go.RowKit

theorem HdB.congr {w : World} {base : Nat} {orig orig' : Nat → Option Value} {l : List OpD} {g : Nat} (h : HdB w base orig l g) (he : ∀ i, i < l.length → orig i = orig' i) : HdB w base orig' l g := by
  obtain ⟨done, h1, h2, h3, h4⟩ := h
  refine ⟨done, h1, h2, ?_, h4⟩
  intro i o hi ho
  obtain ⟨aa, acap, hv, e1, e2, e3⟩ := h3 i o hi ho
  exact ⟨aa, acap, hv, by rw [← he i (List.getElem?_eq_some_iff.1 ho).1]; exact e1, e2, e3⟩
theorem HdB.setE {w : World} {base : Nat} {orig : Nat → Option Value} {l : List OpD} {g : Nat} (h : HdB w base orig l g) {g' : Nat} {e : TypeId} (hg : IsE w g' e) (hne : 3 ≠ e) (hne2 : 183 ≠ e) (j : Nat) (u : Value) : HdB (w.setCell ⟨g', j, none⟩ u) base orig l g := by
  obtain ⟨done, h1, h2, h3, h4⟩ := h
  have hg2 := hg
  obtain ⟨cs, fz, hgg⟩ := hg2
  exact ⟨done, h1, h2, h3.mono (fun _ _ _ h => h.setE hg hne j u), ownsRow_setCell_other h4 (fun e => owns_other' h4 hgg hne2 e.symm) u⟩

def fnCells (x : FnD) (g : Nat) : List Value := [.string x.name, .string x.file, .int .i64 x.params, .int .i64 x.locals, .slice (some ⟨g, 0, none⟩) x.body.length (x.body.length + 8)]
def zeroFn : List Value := [.string ⟨#[]⟩, .string ⟨#[]⟩, .int .i64 0, .int .i64 0, .slice none 0 0]
def markFn : List Value := [.string ⟨#[109, 97, 114, 107]⟩, .string ⟨#[]⟩, .int .i64 0, .int .i64 0, .slice none 0 0]

theorem Tryz.infoFn : (Tryz.prog.info? 122).map (fun i => (i.zero, i.size, i.bytes)) = some (some (.agg #[.string ⟨#[]⟩, .string ⟨#[]⟩, .int .i64 0, .int .i64 0, .slice none 0 0]), 5, 72) := by kernel_rfl

/-- Of the functions that have been laid. -/
def DoneF (w : World) (base : Nat) (w0 : World) (a : Option Addr) (p : List FnD) (done : List (List Value)) : Prop :=
  ∀ i x, i < done.length → p[i]? = some x → ∃ b off ba bcap g, a = some ⟨b, off, none⟩ ∧ w0.cell? ⟨b, off + i * 5 + 4, none⟩ = some (.slice ba x.body.length bcap) ∧ done[i]? = some (fnCells x g) ∧
    HdB w base (fun j => ba.bind fun c => w0.cell? ⟨c.block, c.off + j * 6 + 5, none⟩) x.body g
theorem DoneF.mono {w w' : World} {base : Nat} {w0 : World} {a : Option Addr} {p : List FnD} {done : List (List Value)} (h : DoneF w base w0 a p done) (hm : ∀ orig l g, HdB w base orig l g → HdB w' base orig l g) : DoneF w' base w0 a p done := by
  intro i x hi hx
  obtain ⟨b, off, ba, bcap, g, h1, h2, h3, h4⟩ := h i x hi hx
  exact ⟨b, off, ba, bcap, g, h1, h2, h3, hm _ _ _ h4⟩
theorem DoneF.snoc {w : World} {base : Nat} {w0 : World} {a : Option Addr} {p : List FnD} {done : List (List Value)} (h : DoneF w base w0 a p done) (x : FnD) (hx : p[done.length]? = some x) (b off : Nat) (ba : Option Addr) (bcap g : Nat)
    (h1 : a = some ⟨b, off, none⟩) (h2 : w0.cell? ⟨b, off + done.length * 5 + 4, none⟩ = some (.slice ba x.body.length bcap)) (h3 : HdB w base (fun j => ba.bind fun c => w0.cell? ⟨c.block, c.off + j * 6 + 5, none⟩) x.body g) : DoneF w base w0 a p (done ++ [fnCells x g]) := by
  intro i x' hi hx'
  rw [List.length_append, List.length_singleton] at hi
  by_cases hlt : i < done.length
  · obtain ⟨b', off', ba', bcap', g', e1, e2, e3, e4⟩ := h i x' hlt hx'
    exact ⟨b', off', ba', bcap', g', e1, e2, by rw [List.getElem?_append_left hlt]; exact e3, e4⟩
  · have : i = done.length := by omega
    subst this
    rw [hx] at hx'
    cases hx'
    exact ⟨b, off, ba, bcap, g, h1, h2, by simp, h3⟩

/-- The functions of a program that is handed in. -/
def HdP (w : World) (base : Nat) (w0 : World) (a : Option Addr) (p : List FnD) (g : Nat) : Prop :=
  ∃ done, done.length = p.length ∧ (∀ e ∈ done, e.length = 5) ∧ DoneF w base w0 a p done ∧
    w.ownsRow base 122 5 (.slice (some ⟨g, 0, none⟩) (p.length + 8) (p.length + 8)) (p.length + 8) (done ++ List.replicate 8 markFn).flatten

/-- A whole entry of five cells stored into a row of the call's own. -/
theorem stored5 {w : World} {base g n cap : Nat} {e : TypeId} {ess : List (List Value)} (h : w.ownsRow base e 5 (.slice (some ⟨g, 0, none⟩) n cap) n ess.flatten) (hk : ∀ c ∈ ess, c.length = 5) (i : Nat) (hi : i < ess.length) (v0 v1 v2 v3 v4 : Value) :
    (((((w.setCell ⟨g, i * 5, none⟩ v0).setCell ⟨g, i * 5 + 1, none⟩ v1).setCell ⟨g, i * 5 + 2, none⟩ v2).setCell ⟨g, i * 5 + 3, none⟩ v3).setCell ⟨g, i * 5 + 4, none⟩ v4).ownsRow base e 5 (.slice (some ⟨g, 0, none⟩) n cap) n
      (ess.set i [v0, v1, v2, v3, v4]).flatten := by
  have hc : (ess.getD i []).length = 5 := hk _ (by simp [List.getD, hi])
  match hcc : ess.getD i [], hc with
  | [x0, x1, x2, x3, x4], _ =>
    have s0 := (h.stored (i * 5 + 0) v0).1
    rw [flatten_set 5 ess i 0 v0 hk hi (by omega), hcc] at s0
    have k0 := set_all_len hk i ([x0, x1, x2, x3, x4].set 0 v0) rfl
    have s1 := (s0.stored (i * 5 + 1) v1).1
    rw [flatten_set 5 _ i 1 v1 k0 (by simpa using hi) (by omega)] at s1
    have g1 : (ess.set i ([x0, x1, x2, x3, x4].set 0 v0)).getD i [] = [v0, x1, x2, x3, x4] := by simp [List.getD, hi]
    rw [g1, List.set_set] at s1
    have k1 := set_all_len hk i ([v0, x1, x2, x3, x4].set 1 v1) rfl
    have s2 := (s1.stored (i * 5 + 2) v2).1
    rw [flatten_set 5 _ i 2 v2 k1 (by simpa using hi) (by omega)] at s2
    have g2 : (ess.set i ([v0, x1, x2, x3, x4].set 1 v1)).getD i [] = [v0, v1, x2, x3, x4] := by simp [List.getD, hi]
    rw [g2, List.set_set] at s2
    have k2 := set_all_len hk i ([v0, v1, x2, x3, x4].set 2 v2) rfl
    have s3 := (s2.stored (i * 5 + 3) v3).1
    rw [flatten_set 5 _ i 3 v3 k2 (by simpa using hi) (by omega)] at s3
    have g3 : (ess.set i ([v0, v1, x2, x3, x4].set 2 v2)).getD i [] = [v0, v1, v2, x3, x4] := by simp [List.getD, hi]
    rw [g3, List.set_set] at s3
    have k3 := set_all_len hk i ([v0, v1, v2, x3, x4].set 3 v3) rfl
    have s4 := (s3.stored (i * 5 + 4) v4).1
    rw [flatten_set 5 _ i 4 v4 k3 (by simpa using hi) (by omega)] at s4
    have g4 : (ess.set i ([v0, v1, v2, x3, x4].set 3 v3)).getD i [] = [v0, v1, v2, v3, x4] := by simp [List.getD, hi]
    rw [g4, List.set_set] at s4
    exact s4

set_option maxHeartbeats 4000000 in
set_option maxRecDepth 100000 in
theorem programOf_any (a : Option Addr) (cap : Nat) (p : List FnD) (w : World) (hr : RdP w a p.length cap p) (hlen : p.length ≤ 2199023255552) (hbody : ∀ x ∈ p, x.body.length ≤ 2199023255552 ∧ ∀ o ∈ x.body, o.args.length ≤ 17592186044416) :
    Calls Tryz.prog 44 #[.agg #[.slice a p.length cap]] w fun e w' => ∃ g, e = .returned (.agg #[.slice (some ⟨g, 0, none⟩) p.length (p.length + 8)]) ∧ HdP w' w.heap.size w a p g ∧ Below w.heap.size w w' := by
  obtain ⟨n, hn⟩ : ∃ n, n = p.length := ⟨_, rfl⟩
  rw [← hn] at hr hlen ⊢
  have HN := hid hn
  clear hn
  have hbl1 := hr.2.1
  have hbl2 := hr.2.2.1
  unfold maxLen at hbl2
  obtain ⟨i0, hi, hz0, hz1, hz2⟩ := info_parts Tryz.infoFn
  obtain ⟨bw, hbw⟩ : ∃ bw, bw = (w.alloc (Obj.cells #[.slice a n cap] 44)).alloc (Obj.cells #[.slice none 0 0] 44) := ⟨_, rfl⟩
  have hbb : Below w.heap.size w bw := by rw [hbw]; exact ((Below.refl _ _).alloc (Nat.le_refl _) _).alloc (by simp) _
  have hbs : bw.heap.size = w.heap.size + 2 := by rw [hbw]; simp
  have hk1 : bw.heap[w.heap.size]? = some (.cells #[.slice a n cap] 44 (0, 0)) := by
    rw [hbw, Below.heap_alloc _ _ _ (by simp)]; exact heap_alloc_new _ _
  have hk2 : bw.heap[w.heap.size + 1]? = some (.cells #[.slice none 0 0] 44 (0, 0)) := by
    rw [hbw]
    have := heap_alloc_new (w.alloc (Obj.cells #[.slice a n cap] 44)) (Obj.cells #[.slice none 0 0] 44)
    simpa using this
  obtain ⟨wm, hmk, hown, hgr⟩ := run_make_full (P := Tryz.prog) bw bw.heap.size 42 122 i0 (.agg #[.string ⟨#[]⟩, .string ⟨#[]⟩, .int .i64 0, .int .i64 0, .slice none 0 0]) 5 Tryz.underlying42 hi hz0 hz1 .i64 .i64 (n + 8) (by rw [hz2]; omega) (by unfold maxLen; omega) (Nat.le_refl _)
  have hmr := made_rows zeroFn 5 (n + 8) rfl (by omega)
  have hcz : (Value.agg #[.string ⟨#[]⟩, .string ⟨#[]⟩, .int .i64 0, .int .i64 0, .slice none 0 0]).cells = zeroFn.toArray := rfl
  rw [hcz, hmr] at hown
  have ec : ((n + 8 : Nat) : Int) = (n : Int) + 8 := by omega
  rw [ec, hbw] at hmk
  have hbm : Below bw.heap.size bw wm := (Below.refl _ _).grown hgr (Nat.le_refl _) (fun k hk => by cases hk)
  have hbt := hbb.trans (hbm.mono hbb.size)
  have hm1 := (hbm.block w.heap.size (by omega)).trans hk1
  have hm2 := (hbm.block (w.heap.size + 1) (by omega)).trans hk2
  have hszE : ((w.alloc (Obj.cells #[.slice a n cap] 44)).alloc (Obj.cells #[.slice none 0 0] 44)).heap.size = w.heap.size + 2 := by simp
  rw [hszE] at hmk
  rw [hbs] at hown
  have hown1 := hid (owns_lower hown (show w.heap.size ≤ w.heap.size + 2 by omega))
  have HM1 := hid hm1
  have HM2 := hid hm2
  clear hown hgr hmr hcz hk1 hk2 hm1 hm2 hbm hbb hszE
  go_enter Tryz.func44, Tryz.ntmps44
  go_wp2
  clear hmk hbw
  go_loopw [5] (fun i wr => ∃ (s : Nat) (done : List (List Value)), i = .int .i64 s ∧ s ≤ n ∧ done.length = s ∧ (∀ e ∈ done, e.length = 5) ∧ DoneF wr w.heap.size w a p done ∧
      wr.ownsRow w.heap.size 122 5 (.slice (some ⟨w.heap.size + 2, 0, none⟩) (n + 8) (n + 8)) (n + 8) (done ++ List.replicate (n + 8 - s) zeroFn).flatten ∧ Below w.heap.size w wr ∧
      wr.heap[w.heap.size]? = some (.cells #[.slice a n cap] 44 (0, 0)) ∧ wr.heap[w.heap.size + 1]? = some (.cells #[.slice none 0 0] 44 (0, 0))) (fun i _ => n - (intOf i).toNat)
  case atStart => exact ⟨0, [], rfl, by omega, rfl, by simp, fun i o hi => by simp at hi, hown1.out, hbt, HM1.out, HM2.out⟩
  case round =>
    clear hbt hown1 HM1 HM2
    obtain ⟨s, done, rfl, hs, hdl, hd5, hdone, hown, hbel, hb1, hb2⟩ := hrel
    have HDL := hid hdl
    have HD5 := hid hd5
    have HDONE := hid hdone
    have HOWN := hid hown
    have HB1 := hid hb1
    have HB2 := hid hb2
    have hx0 : wr.cell? ⟨w.heap.size, 0, none⟩ = some (.slice a n cap) := by simp [World.cell?, hb1]
    have hsz := hbel.size
    have hb2lt := (Array.getElem?_eq_some_iff.1 hb2).1
    have hglt := (hown.lt (w.heap.size + 2) rfl).2
    clear hdl hd5 hdone hown hb1 hb2
    by_cases hlt : s < n
    · obtain ⟨x, hx⟩ : ∃ x, p[s]? = some x := ⟨_, List.getElem?_eq_getElem (by rw [← HN.out]; exact hlt)⟩
      obtain ⟨b, off, ba, bcap, rfl, hb, c0, c1, c2, c3, c4, hrb, hn1, hn2⟩ := (hr.below hbel).at s x hx
      have horig : w.cell? ⟨b, off + s * 5 + 4, none⟩ = some (.slice ba x.body.length bcap) := by
        obtain ⟨b2, off2, ba2, bcap2, e2, hb2, _, _, _, _, c4', _⟩ := hr.at s x hx
        cases e2
        rw [← (hbel.cell (p := ⟨b, off + s * 5 + 4, none⟩) hb2)]; exact c4
      have hbd := hbody x (List.mem_of_getElem? hx)
      have HF := hid (fun (W : World) (hW : W = wr) => funcOf_any ba bcap x W (by rw [hW]; exact hrb) hbd.1 hbd.2)
      have horigB : ∀ j, j < x.body.length → (ba.bind fun c => wr.cell? ⟨c.block, c.off + j * 6 + 5, none⟩) = ba.bind fun c => w.cell? ⟨c.block, c.off + j * 6 + 5, none⟩ := by
        intro j hj
        obtain ⟨b2, off2, ba2, bcap2, e2, _, _, _, _, _, c4', hrb2, _⟩ := hr.at s x hx
        cases e2
        rw [horig] at c4'
        cases c4'
        obtain ⟨o, ho⟩ : ∃ o, x.body[j]? = some o := ⟨_, List.getElem?_eq_getElem hj⟩
        obtain ⟨b3, off3, _, _, e3, hb3, _⟩ := hrb2.opAt j o ho
        subst e3
        exact hbel.cell (p := ⟨b3, off3 + j * 6 + 5, none⟩) hb3
      have HORIG := hid horig
      have HORB := hid horigB
      have HX := hid hx
      clear horig horigB hx hr hbody hrb hn1 hn2 hbd
      have hne1 : w.heap.size + 2 ≠ wr.heap.size := by omega
      go_wp2_with fail
      refine (HF.out _ (by rfl)).mono ?_
      rintro e w2 ⟨g, rfl, hhb, hbi⟩
      have hs2 := hbi.size
      have hown2 := owns_below HOWN.out hbi
      have hdone2 := HDONE.out.mono (fun _ _ _ h => h.below hbi)
      have hbel2 := hbel.trans (hbi.mono hsz)
      have hhb2 := (hhb.congr HORB.out).lower hsz
      have hq1 := (hbi.block w.heap.size (by omega)).trans HB1.out
      have hq2 := (hbi.block (w.heap.size + 1) (by omega)).trans HB2.out
      have hess : (done ++ List.replicate (n + 8 - s) zeroFn).length = n + 8 := by rw [List.length_append, List.length_replicate, HDL.out]; omega
      have hall : ∀ e ∈ done ++ List.replicate (n + 8 - s) zeroFn, e.length = 5 := by
        intro e he
        rcases List.mem_append.1 he with h | h
        · exact HD5.out e h
        · rw [List.eq_of_mem_replicate h]; rfl
      have hat : (done ++ List.replicate (n + 8 - s) zeroFn).getD s [] = zeroFn := by
        simp only [List.getD]
        rw [List.getElem?_append_right (by rw [HDL.out]; omega), HDL.out, Nat.sub_self, List.getElem?_replicate_of_lt (by omega)]
        rfl
      have hz : ∀ j, j < 5 → w2.cell? ⟨w.heap.size + 2, s * 5 + j, none⟩ = zeroFn[j]? := by
        intro j hj
        have := hown2.cellAt (s * 5 + j) (by omega)
        rw [flatten_get 5 _ s j hall (by omega) hj, hat] at this
        exact this
      have z0 : w2.cell? ⟨w.heap.size + 2, s * 5, none⟩ = some (.string ⟨#[]⟩) := hz 0 (by omega)
      have z1 : w2.cell? ⟨w.heap.size + 2, s * 5 + 1, none⟩ = some (.string ⟨#[]⟩) := hz 1 (by omega)
      have z2 : w2.cell? ⟨w.heap.size + 2, s * 5 + 2, none⟩ = some (.int .i64 0) := hz 2 (by omega)
      have z3 : w2.cell? ⟨w.heap.size + 2, s * 5 + 3, none⟩ = some (.int .i64 0) := hz 3 (by omega)
      have z4 : w2.cell? ⟨w.heap.size + 2, s * 5 + 4, none⟩ = some (.slice none 0 0) := hz 4 (by omega)
      have fz := fun j => hown2.frozenAt j
      have f0 := fz (s * 5)
      have f1 := fz (s * 5 + 1)
      have f2 := fz (s * 5 + 2)
      have f3 := fz (s * 5 + 3)
      have f4 := fz (s * 5 + 4)
      have HOWN2 := hid hown2
      have HDONE2 := hid hdone2
      have HHB2 := hid hhb2
      have HQ1 := hid hq1
      have HQ2 := hid hq2
      have HESS := hid hess
      have HALL := hid hall
      have hs8 : (s : Int) < (n : Int) + 8 := by omega
      clear hess hall hat hz fz hown2 hdone2 hhb hhb2 hq1 hq2 hbi HF HB1 HB2 HDONE HOWN HORB c0 c1 c2 c3 c4
      go_wp2
      go_roundw
      case rel =>
        have e2 : IsE w2 (w.heap.size + 2) 122 := by
          rcases HOWN2.out.2 with ⟨h', _⟩ | ⟨g', cap', cur, h', _, hg, _⟩
          · cases h'
          · cases h'; exact ⟨_, _, hg⟩
        have hstep : ∀ (orig : Nat → Option Value) (l : List OpD) (gg : Nat), HdB w2 w.heap.size orig l gg → HdB (((((w2.setCell ⟨w.heap.size + 2, s * 5, none⟩ (.string x.name)).setCell ⟨w.heap.size + 2, s * 5 + 1, none⟩ (.string x.file)).setCell ⟨w.heap.size + 2, s * 5 + 2, none⟩ (.int .i64 x.params)).setCell ⟨w.heap.size + 2, s * 5 + 3, none⟩ (.int .i64 x.locals)).setCell ⟨w.heap.size + 2, s * 5 + 4, none⟩ (.slice (some ⟨g, 0, none⟩) x.body.length (x.body.length + 8))) w.heap.size orig l gg := by
          intro orig l gg h
          have a1 := h.setE e2 (by decide) (by decide) (s * 5) (.string x.name)
          have i1 := e2.setCell (w.heap.size + 2) (s * 5) (.string x.name)
          have a2 := a1.setE i1 (by decide) (by decide) (s * 5 + 1) (.string x.file)
          have i2 := i1.setCell (w.heap.size + 2) (s * 5 + 1) (.string x.file)
          have a3 := a2.setE i2 (by decide) (by decide) (s * 5 + 2) (.int .i64 x.params)
          have i3 := i2.setCell (w.heap.size + 2) (s * 5 + 2) (.int .i64 x.params)
          have a4 := a3.setE i3 (by decide) (by decide) (s * 5 + 3) (.int .i64 x.locals)
          have i4 := i3.setCell (w.heap.size + 2) (s * 5 + 3) (.int .i64 x.locals)
          exact a4.setE i4 (by decide) (by decide) (s * 5 + 4) (.slice (some ⟨g, 0, none⟩) x.body.length (x.body.length + 8))
        have o4 := stored5 HOWN2.out HALL.out s (by rw [HESS.out]; omega) (.string x.name) (.string x.file) (.int .i64 x.params) (.int .i64 x.locals) (.slice (some ⟨g, 0, none⟩) x.body.length (x.body.length + 8))
        rw [set_mid done (n + 8 - s) zeroFn _ s HDL.out (by omega)] at o4
        have hsub : n + 8 - s - 1 = n + 8 - (s + 1) := by omega
        rw [hsub] at o4
        have hd4 := (HDONE2.out.mono hstep).snoc x (by rw [HDL.out]; exact HX.out) b off ba bcap g rfl (by rw [HDL.out]; exact HORIG.out) (hstep _ _ _ HHB2.out)
        refine ⟨s + 1, done ++ [fnCells x g], by go_num, by omega, by rw [List.length_append, HDL.out]; rfl, ?_, hd4, o4, ?_, ?_, ?_⟩
        · intro e he
          rcases List.mem_append.1 he with h | h
          · exact HD5.out e h
          · rw [List.mem_singleton.1 h]; rfl
        · exact ((((hbel2.setCell (by show w.heap.size ≤ w.heap.size + 2; omega) _).setCell (by show w.heap.size ≤ w.heap.size + 2; omega) _).setCell (by show w.heap.size ≤ w.heap.size + 2; omega) _).setCell (by show w.heap.size ≤ w.heap.size + 2; omega) _).setCell (by show w.heap.size ≤ w.heap.size + 2; omega) _
        · iterate 5 rw [Below.heap_setCell _ _ _ _ (by show w.heap.size ≠ w.heap.size + 2; omega)]
          exact HQ1.out
        · iterate 5 rw [Below.heap_setCell _ _ _ _ (by show w.heap.size + 1 ≠ w.heap.size + 2; omega)]
          exact HQ2.out
      case measure => simp [intOf]; omega
    · have hsn : s = n := by omega
      subst hsn
      have h88 : s + 8 - s = 8 := by omega
      have hown8 := HOWN.out
      rw [h88] at hown8
      have HO8 := hid hown8
      clear hown8 HOWN hr hbody
      go_wp2
      go_loopw [6] (fun i wr => ∃ k : Nat, i = .int .i64 ((s : Int) + k) ∧ k ≤ 8 ∧ DoneF wr w.heap.size w a p done ∧
          wr.ownsRow w.heap.size 122 5 (.slice (some ⟨w.heap.size + 2, 0, none⟩) (s + 8) (s + 8)) (s + 8) (done ++ (List.replicate k markFn ++ List.replicate (8 - k) zeroFn)).flatten ∧ Below w.heap.size w wr ∧
          wr.heap[w.heap.size + 1]? = some (.cells #[.slice none 0 0] 44 (0, 0))) (fun i _ => (s + 8) - (intOf i).toNat)
      case atStart => exact ⟨0, by go_num, by omega, HDONE.out, HO8.out, hbel, HB2.out⟩
      case round =>
        clear HDONE HO8 hbel HB1 HB2 hx0 hsz hb2lt hglt
        obtain ⟨k, rfl, hk, hdone, hown, hbel, hb2⟩ := hrel
        have HDONE := hid hdone
        have HOWN := hid hown
        have HB2 := hid hb2
        have hsz := hbel.size
        by_cases hk8 : k < 8
        · have hlt8 : (s : Int) + k < (s : Int) + 8 := by omega
          have e0 : ((s : Int) + (k : Int)).toNat = s + k := by omega
          have hall : ∀ e ∈ done ++ (List.replicate k markFn ++ List.replicate (8 - k) zeroFn), e.length = 5 := by
            intro e he
            rcases List.mem_append.1 he with h | h
            · exact HD5.out e h
            · rcases List.mem_append.1 h with h | h
              · rw [List.eq_of_mem_replicate h]; rfl
              · rw [List.eq_of_mem_replicate h]; rfl
          have hess : (done ++ (List.replicate k markFn ++ List.replicate (8 - k) zeroFn)).length = s + 8 := by simp [HDL.out]; omega
          have hat := marks_at done markFn zeroFn [] k s HDL.out hk8
          have hc := hown.cellAt ((s + k) * 5 + 0) (by omega)
          rw [flatten_get 5 _ (s + k) 0 hall (by omega) (by omega), hat] at hc
          have hc1 : wr.cell? ⟨w.heap.size + 2, (s + k) * 5, none⟩ = some (.string ⟨#[]⟩) := hc
          have hf1 := hown.frozenAt ((s + k) * 5)
          have hst := (hown.stored ((s + k) * 5 + 0) (.string ⟨#[109, 97, 114, 107]⟩)).1
          rw [flatten_set 5 _ (s + k) 0 _ hall (by omega) (by omega), hat] at hst
          have hmk : zeroFn.set 0 (.string ⟨#[109, 97, 114, 107]⟩) = markFn := rfl
          rw [hmk, marks_set done markFn zeroFn k s HDL.out hk8] at hst
          have HST := hid hst
          clear hst hmk hc hat hess hall hdone hown hb2
          go_wp2
          go_roundw
          case rel =>
            have e2 : IsE wr (w.heap.size + 2) 122 := by
              rcases HOWN.out.2 with ⟨h', _⟩ | ⟨g', cap', cur, h', _, hg, _⟩
              · cases h'
              · cases h'; exact ⟨_, _, hg⟩
            refine ⟨k + 1, by go_num, by omega, HDONE.out.mono (fun _ _ _ h => h.setE e2 (by decide) (by decide) _ _), HST.out, hbel.setCell (by show w.heap.size ≤ w.heap.size + 2; omega) _, ?_⟩
            rw [Below.heap_setCell _ _ _ _ (by show w.heap.size + 1 ≠ w.heap.size + 2; omega)]; exact HB2.out
          case measure => simp [intOf]; omega
        · have hk' : k = 8 := by omega
          subst hk'
          have q0 : wr.cell? ⟨w.heap.size + 1, 0, none⟩ = some (.slice none 0 0) := by simp [World.cell?, hb2]
          have z0 : wr.frozen? ⟨w.heap.size + 1, 0, none⟩ = false := by simp [World.frozen?, hb2]
          have hs8 : (s : Int) ≤ (s : Int) + 8 := by omega
          clear hdone hown hb2 hi hz0 hz1 hz2
          go_wp2
          have e1 : IsE wr (w.heap.size + 1) 44 := ⟨_, _, HB2.out⟩
          have o1 := ownsRow_setCell_other HOWN.out (a := ⟨w.heap.size + 1, 0, none⟩) (by simp [Value.ownBlock]) (.slice (some ⟨w.heap.size + 2, 0, none⟩) s (s + 8))
          have hP : HdP (wr.setCell ⟨w.heap.size + 1, 0, none⟩ (.slice (some ⟨w.heap.size + 2, 0, none⟩) s (s + 8))) w.heap.size w a p (w.heap.size + 2) := by
            refine ⟨done, by rw [HDL.out]; exact HN.out, HD5.out, HDONE.out.mono (fun _ _ _ h => h.setE e1 (by decide) (by decide) _ _), ?_⟩
            rw [← HN.out]
            simpa using o1
          exact bodyPost_ret (v := .agg #[.slice (some ⟨w.heap.size + 2, 0, none⟩) s (s + 8)]) (by simp [results, Tryz.results44, go_sem, q0]) rfl ⟨w.heap.size + 2, rfl, hP, hbel.setCell (by show w.heap.size ≤ w.heap.size + 1; omega) _⟩
end Go.Proofs.YtooinlilplecpaaGreatDoor
