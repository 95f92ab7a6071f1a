/- Machines that lie beside one another: what a machine is, whatever becomes of the memory below it; contracts of machine.New and unfold.New that say so; what another machine's steps leave. -/
import Derived.Test.YtebjndcokkefhaaDoorZ33
namespace Go.Proofs.YtebjndcokkefhaaDoor
open Go.RowKit

/-- A machine in the box mb, in memory that came since there were B blocks; n0: what came behind the program's copy. -/
def MachF (p : List FnD) (bud : Int) (mb B n0 : Nat) (wm : World) (s : StandD) : Prop :=
  ∃ (qa : Option Addr) (qcap : Nat) (v : Value) (cs : List CodeD) (ca : Option Addr) (ccap : Nat), codesD p bud = some cs ∧
    wm.heap[mb]? = some (.cells #[.slice qa (strip p).length qcap, v, .int .i64 s.status, .int .i64 s.value, .slice ca cs.length ccap] 88 (0, 0)) ∧
    (∀ W : World, (∀ b, B ≤ b → b < n0 → W.heap[b]? = wm.heap[b]?) → RdP W qa (strip p).length qcap (strip p)) ∧ B ≤ n0 ∧ n0 ≤ mb ∧ n0 ≤ wm.heap.size ∧
    wm.ownsRow n0 153 10 v s.live.length (s.live.map frmCells).flatten ∧ (∀ b, v.ownBlock = some b → b < mb) ∧
    (∀ W : World, (∀ b, n0 ≤ b → b < wm.heap.size → b ≠ mb → v.ownBlock ≠ some b → W.heap[b]? = wm.heap[b]?) → RdC W ca cs.length ccap cs)

/-- The first blocks of a world. -/
def firstW (W : World) (n : Nat) : World := { W with heap := W.heap.extract 0 n }
theorem firstW_size {W : World} {n : Nat} (h : n ≤ W.heap.size) : (firstW W n).heap.size = n := by
  show (W.heap.extract 0 n).size = n
  simp; omega
theorem firstW_at {W : World} {n b : Nat} (hb : b < n) : (firstW W n).heap[b]? = W.heap[b]? := by
  show (W.heap.extract 0 n)[b]? = _
  rw [Array.getElem?_extract]
  simp
  intro h
  omega

/-- In whatever memory it lies, as long as what came with it is there: it is a machine; and its steps leave the rest alone. -/
theorem MachF.at {p : List FnD} {bud : Int} {mb B n0 : Nat} {wm : World} {s : StandD} (h : MachF p bud mb B n0 wm s) {W : World} (hs : wm.heap.size ≤ W.heap.size) (hW : ∀ b, B ≤ b → b < wm.heap.size → W.heap[b]? = wm.heap[b]?) :
    ∃ (X : RX) (w0 : World), MachAt p bud mb X w0 W s ∧ B ≤ w0.heap.size ∧ Below w0.heap.size w0 W ∧
      ∀ (W' : World) (s' : StandD), MachAt p bud mb X w0 W' s' → Below w0.heap.size W W' ∧ ∀ b, b < W.heap.size → ¬ (B ≤ b ∧ b < wm.heap.size) → W'.heap[b]? = W.heap[b]? := by
  obtain ⟨qa, qcap, v, cs, ca, ccap, h1, h2, h3, h4, h5, h6, h7, h8, h9⟩ := h
  have hmb := (Array.getElem?_eq_some_iff.1 h2).1
  have hz := firstW_size (W := W) (n := n0) (by omega)
  have hbel : Below n0 (firstW W n0) W := ⟨rfl, rfl, rfl, by rw [hz]; omega, fun b hb => (firstW_at hb).symm⟩
  obtain ⟨K, hK⟩ : ∃ f : Nat → Option Obj, f = fun b => if b < W.heap.size ∧ b ≠ mb ∧ v.ownBlock ≠ some b then W.heap[b]? else none := ⟨_, rfl⟩
  have hrun : RunAt ⟨88, [.slice ca cs.length ccap], K⟩ (firstW W n0) (strip p) mb W s := by
    refine ⟨qa, qcap, v, (hW mb (by omega) hmb).trans h2, h3 _ (fun b hb1 hb2 => (firstW_at hb2).trans (hW b hb1 (by omega))), by rw [hz]; exact hbel, by rw [hz]; exact h5, ?_, fun e => absurd (h8 mb e) (Nat.lt_irrefl _), fun b o hb => ?_⟩
    · rw [hz]
      exact owns_same h7 (fun b hb => hW b (by have := (h7.lt b hb).1; omega) (h7.lt b hb).2)
    · dsimp only at hb
      rw [hK] at hb
      dsimp only at hb
      split at hb
      · next hc => exact ⟨hb, hc.2⟩
      · cases hb
  have kept : ∀ (W' : World) (s' : StandD), RunAt ⟨88, [.slice ca cs.length ccap], K⟩ (firstW W n0) (strip p) mb W' s' → ∀ b, b < W.heap.size → b ≠ mb → v.ownBlock ≠ some b → W'.heap[b]? = W.heap[b]? := fun W' s' hr b hb hne hv => by
    obtain ⟨_, _, _, _, _, _, _, _, _, hk⟩ := hr
    obtain ⟨o, ho⟩ : ∃ o, W.heap[b]? = some o := ⟨_, Array.getElem?_eq_getElem hb⟩
    exact (hk b o (by dsimp only; rw [hK]; dsimp only; rw [if_pos ⟨hb, hne, hv⟩]; exact ho)).1.trans ho.symm
  refine ⟨_, firstW W n0, ⟨hrun, cs, ca, ccap, h1, rfl, fun W' t hr => ?_⟩, by rw [hz]; exact h4, by rw [hz]; exact hbel, fun W' s' hm => ⟨?_, fun b hb hne => ?_⟩⟩
  · exact h9 W' (fun b hb1 hb2 hb3 hb4 => (kept W' t hr b (by omega) hb3 hb4).trans (hW b (by omega) hb2))
  · have ho := hm.run.old
    have hbl : ∀ b, b < n0 → W'.heap[b]? = W.heap[b]? := fun b hb => by
      rw [kept W' s' hm.run b (by omega) (by omega) (fun e => by have := (h7.lt b e).1; omega)]
    refine ⟨ho.os, ho.tape, ho.output, ?_, fun b hb => hbl b (by rw [hz] at hb; exact hb)⟩
    refine Nat.le_of_not_lt fun hlt => ?_
    have hmW : mb < W'.heap.size := by
      obtain ⟨_, _, _, k1, _⟩ := hm.run
      exact (Array.getElem?_eq_some_iff.1 k1).1
    have hlast := kept W' s' hm.run (W.heap.size - 1) (by omega) (by omega) (fun e => by have := h8 _ e; omega)
    rw [Array.getElem?_eq_getElem (xs := W.heap) (i := W.heap.size - 1) (by omega)] at hlast
    have := (Array.getElem?_eq_some_iff.1 hlast).1
    omega
  · exact kept W' s' hm.run b hb (fun e => hne (by omega)) (fun e => hne (by have := h7.lt b e; omega))


/-- What another machine's steps leave of a machine. -/
theorem RunAt.move {X : RX} {w0 w w' W W' : World} {P : List FnD} {rb : Nat} {s0 s : StandD} (h0 : RunAt X w0 P rb w s0) (h : RunAt (X.ext w w') w0 P rb W s) (hb : Below w0.heap.size W W')
    (hs : ∀ b, b < W.heap.size → ¬ (w.heap.size ≤ b ∧ b < w'.heap.size) → W'.heap[b]? = W.heap[b]?) : RunAt X w0 P rb W' s := by
  obtain ⟨_, _, _, g1, _, g3, _, _, _, g7⟩ := h0
  obtain ⟨pa, pcap, v, h1, h2, h3, h4, h5, h6, h7⟩ := h
  have hrb := (Array.getElem?_eq_some_iff.1 g1).1
  have hrb2 := (Array.getElem?_eq_some_iff.1 h1).1
  refine ⟨pa, pcap, v, (hs rb hrb2 (by omega)).trans h1, h2, ?_, h4, owns_same h5 (fun b hbo => hs b (h5.lt b hbo).2 (fun hc => ?_)), h6, fun b o hk => ?_⟩
  · exact h3.trans hb
  · obtain ⟨o, ho⟩ : ∃ o, w'.heap[b]? = some o := ⟨_, Array.getElem?_eq_getElem hc.2⟩
    exact (h7 b o (by show (if w.heap.size ≤ b ∧ b < w'.heap.size then w'.heap[b]? else X.K b) = some o; rw [if_pos hc]; exact ho)).2.2 hbo
  · have hlt := (Array.getElem?_eq_some_iff.1 (g7 b o hk).1).1
    obtain ⟨q1, q2, q3⟩ := h7 b o (by show (if w.heap.size ≤ b ∧ b < w'.heap.size then w'.heap[b]? else X.K b) = some o; rw [if_neg (by omega)]; exact hk)
    exact ⟨(hs b (Array.getElem?_eq_some_iff.1 q1).1 (by omega)).trans q1, q2, q3⟩
theorem MachAt.move {p : List FnD} {bud : Int} {mb : Nat} {X : RX} {w0 w w' W W' : World} {s0 s : StandD} (h0 : MachAt p bud mb X w0 w s0) (h : MachAt p bud mb (X.ext w w') w0 W s) (hb : Below w0.heap.size W W')
    (hs : ∀ b, b < W.heap.size → ¬ (w.heap.size ≤ b ∧ b < w'.heap.size) → W'.heap[b]? = W.heap[b]?) : MachAt p bud mb X w0 W' s := ⟨h0.run.move h.run hb hs, h0.codes⟩

set_option maxHeartbeats 4000000 in
set_option maxRecDepth 100000 in
theorem mNewF_any (pa : Option Addr) (pcap : Nat) (p : List FnD) (bud : Int) (aa : Option Addr) (acap : Nat) (args : List Int) (w : World) (hp : RdP w pa p.length pcap p) (hbd : R64 bud) (ha : Rd .i64 w aa args.length acap args) :
    Calls Tryd.prog 35 #[.agg #[.slice pa p.length pcap], .int .i64 bud, .slice aa args.length acap] w fun e w' => Below w.heap.size w w' ∧
      ((newE p bud args ≠ 0 ∧ e = .returned (.tuple #[.agg noMach, .int .i64 (newE p bud args)])) ∨
       (newE p bud args = 0 ∧ givenB p args = true ∧ ∃ (qa : Option Addr) (qcap : Nat) (v : Value) (w0 w2 : World) (ca : Option Addr) (ccap : Nat) (cs : List CodeD), codesD p bud = some cs ∧ e = .returned (.tuple #[.agg #[.slice qa p.length qcap, v, .int .i64 0, .int .i64 0, .slice ca cs.length ccap], .int .i64 0]) ∧
         (∀ W : World, (∀ b, w.heap.size ≤ b → b < w0.heap.size → W.heap[b]? = w0.heap[b]?) → RdP W qa p.length qcap (strip p)) ∧ Below w.heap.size w w0 ∧ Below w0.heap.size w0 w' ∧ w0.heap.size ≤ w2.heap.size ∧ w'.ownsRow w0.heap.size 153 10 v 1 (frmCells ⟨0, 0, args⟩) ∧ (∀ b, v.ownBlock = some b → b < w2.heap.size) ∧ RdCFrom w2.heap.size w' ca cs.length ccap cs)) := by
  have HNW := hid (fun (W : World) (hW : Below w.heap.size w W) => New_any pa pcap p aa acap args W (hp.below hW) (ha.below hW (Nat.le_refl _)))
  have HLY := hid (fun (W : World) (hW : Below w.heap.size w W) => Lay_any pa pcap p bud W (hp.below hW) hbd)
  obtain ⟨E, hE⟩ : ∃ v, v = newE p bud args := ⟨_, rfl⟩
  rw [← hE]
  have HE : Hid (E = if (chk p).1 ≠ 0 then (chk p).1 else if givenB p args = true then layE p bud else 1) := hE
  obtain ⟨pl, hpl2⟩ : ∃ v, v = p.length := ⟨_, rfl⟩
  obtain ⟨al, hal2⟩ : ∃ v, v = args.length := ⟨_, rfl⟩
  rw [← hpl2] at HNW HLY ⊢
  rw [← hal2] at HNW ⊢
  clear hpl2 hal2 hp ha hE
  go_enter Tryd.func35, Tryd.ntmps35
  obtain ⟨wa, hwa⟩ : ∃ v, v = (w.alloc (Obj.cells #[.slice pa pl pcap] 24)).alloc (Obj.cells #[.slice none 0 0, .slice none 0 0, .int .i64 0, .int .i64 0, .slice none 0 0] 84) := ⟨_, rfl⟩
  have hba : Below w.heap.size w wa := by rw [hwa]; exact ((Below.refl _ _).alloc (Nat.le_refl _) _).alloc (by simp) _
  have hsa : wa.heap.size = w.heap.size + 2 := by rw [hwa]; simp
  have ka : wa.heap[w.heap.size]? = some (.cells #[.slice pa pl pcap] 24 (0, 0)) := by rw [hwa]; exact heap_at1 (by simp) (heap_new_at rfl)
  have kb : wa.heap[w.heap.size + 1]? = some (.cells #[.slice none 0 0, .slice none 0 0, .int .i64 0, .int .i64 0, .slice none 0 0] 84 (0, 0)) := by rw [hwa]; exact heap_new_at (by simp)
  go_wp2_with fail
  rw [← hwa]
  clear hwa
  refine (HNW.out wa hba).mono ?_
  clear HNW
  rintro e w1 ⟨hb1, hcase⟩
  have hs1 := hb1.size
  have hbw1 := hba.trans (hb1.mono hba.size)
  have j0 := (hb1.block w.heap.size (by omega)).trans ka
  have j1 := (hb1.block (w.heap.size + 1) (by omega)).trans kb
  have r0 : w1.cell? ⟨w.heap.size, 0, none⟩ = some (.slice pa pl pcap) := by simp [World.cell?, j0]
  obtain ⟨x0, x1, x2, x3, x4, f0, f1, f2, f3, f4⟩ := box5 j1
  have lt0 : w.heap.size < w1.heap.size := by omega
  have lt1 : w.heap.size + 1 < w1.heap.size := by omega
  have hsw := hbw1.size
  have HBE := hid (fun (A : Obj) => (below_box5 (bx := w.heap.size + 1) hbw1 (by omega) (.slice none 0 0) (.slice none 0 0) (.int .i64 0) (.int .i64 0) (.slice none 0 0)).alloc (by simp; omega) A)
  clear ka kb
  rcases hcase with ⟨hc, rfl⟩ | ⟨hc, hgv, rfl⟩ | ⟨hc, hgv, qa, qcap, v, w0, rfl, hrp, hbw0, hb01, hrow⟩
  · have hE1 : E = (chk p).1 := by rw [HE.out, if_pos hc]
    rw [← hE1] at hc ⊢
    have hc' : (E != 0) = true := by simpa using hc
    simp only [noRun]
    clear hE1 HE j0 j1
    go_wp2
    exact bodyPost_ret (v := .tuple #[.agg noMach, .int .i64 E]) (by simp [results, Tryd.results35, go_sem, x0, x1, x2, x3, x4, lt1, noMach]) rfl ⟨HBE.out _, .inl ⟨hc, rfl⟩⟩
  · have hE1 : E = 1 := by rw [HE.out, if_neg (by simpa using hc), if_neg (by rw [hgv]; decide)]
    subst hE1
    simp only [noRun]
    clear HE j0 j1
    go_wp2
    exact bodyPost_ret (v := .tuple #[.agg noMach, .int .i64 1]) (by simp [results, Tryd.results35, go_sem, x0, x1, x2, x3, x4, lt1, noMach]) rfl ⟨HBE.out _, .inl ⟨by decide, rfl⟩⟩
  · obtain ⟨va, vc, rfl⟩ : ∃ va vc, v = .slice va 1 vc := by
      rcases hrow.2 with ⟨h1, h2⟩ | ⟨g, c', cur, h1, _⟩
      · omega
      · exact ⟨_, _, h1⟩
    have hE1 : E = layE p bud := by rw [HE.out, if_neg (by simpa using hc), if_pos hgv]
    obtain ⟨w2, hw2⟩ : ∃ w2, w2 = w1.alloc (Obj.cells #[.slice qa pl qcap, .slice va 1 vc, .int .i64 0, .int .i64 0] 81) := ⟨_, rfl⟩
    have hb2 : Below w1.heap.size w1 w2 := by rw [hw2]; exact (Below.refl _ _).alloc (Nat.le_refl _) _
    have hs2 : w2.heap.size = w1.heap.size + 1 := by rw [hw2]; simp
    have k2 : w2.heap[w1.heap.size]? = some (.cells #[.slice qa pl qcap, .slice va 1 vc, .int .i64 0, .int .i64 0] 81 (0, 0)) := by rw [hw2]; exact heap_new_at rfl
    have hbw2 := hbw1.trans (hb2.mono hbw1.size)
    have HLW := hid (HLY.out w2 hbw2)
    rw [← hE1] at HLW
    have j2 := (hb2.block (w.heap.size + 1) lt1).trans j1
    have HK2 := hid k2
    have HJ2 := hid j2
    have HGV := hid hgv
    have hs01 := hb01.size
    have hs00 := hbw0.size
    have HRP := hid hrp
    have HRW := hid hrow
    have HB0 := hid hbw0
    have HB1 := hid hb01
    clear HE hE1 hc hgv j0 j1 HLY k2 j2 x0 x1 x2 x3 x4 f0 f1 f2 f3 f4 HBE hrp hrow hbw0 hb01
    go_wp2_with fail
    rw [← hw2]
    clear hw2
    refine HLW.out.mono ?_
    clear HLW
    rintro e w3 ⟨hb3, hcase⟩
    have hs3 := hb3.size
    have hbw3 := hbw2.trans (hb3.mono hbw2.size)
    have k3 := (hb3.block w1.heap.size (by omega)).trans HK2.out
    have j3 := (hb3.block (w.heap.size + 1) (by omega)).trans HJ2.out
    obtain ⟨x0, x1, x2, x3, x4, f0, f1, f2, f3, f4⟩ := box5 j3
    have y0 : w3.cell? ⟨w1.heap.size, 0, none⟩ = some (.slice qa pl qcap) := by simp [World.cell?, k3]
    have y1 : w3.cell? ⟨w1.heap.size, 1, none⟩ = some (.slice va 1 vc) := by simp [World.cell?, k3]
    have y2 : w3.cell? ⟨w1.heap.size, 2, none⟩ = some (.int .i64 0) := by simp [World.cell?, k3]
    have y3 : w3.cell? ⟨w1.heap.size, 3, none⟩ = some (.int .i64 0) := by simp [World.cell?, k3]
    rcases hcase with ⟨hE, rfl⟩ | ⟨hE, cs, ca, ccap, hcs, rfl, hrd⟩
    · have hE' : (E != 0) = true := by simpa using hE
      have HBE := hid (below_box5 (bx := w.heap.size + 1) hbw3 (by omega) (.slice none 0 0) (.slice none 0 0) (.int .i64 0) (.int .i64 0) (.slice none 0 0))
      clear k3 j3
      go_wp2
      exact bodyPost_ret (v := .tuple #[.agg noMach, .int .i64 E]) (by simp [results, Tryd.results35, go_sem, x0, x1, x2, x3, x4, noMach]) rfl ⟨HBE.out, .inl ⟨hE, rfl⟩⟩
    · subst hE
      obtain ⟨cl, hcl⟩ : ∃ v, v = cs.length := ⟨_, rfl⟩
      rw [← hcl]
      have hbe := below_box5 (bx := w.heap.size + 1) hbw3 (by omega) (.slice qa pl qcap) (.slice va 1 vc) (.int .i64 0) (.int .i64 0) (.slice ca cl ccap)
      obtain ⟨w4, hw4⟩ : ∃ v, v = ((((w3.setCell ⟨w.heap.size + 1, 0, none⟩ (.slice qa pl qcap)).setCell ⟨w.heap.size + 1, 1, none⟩ (.slice va 1 vc)).setCell ⟨w.heap.size + 1, 2, none⟩ (.int .i64 0)).setCell ⟨w.heap.size + 1, 3, none⟩ (.int .i64 0)).setCell ⟨w.heap.size + 1, 4, none⟩ (.slice ca cl ccap) := ⟨_, rfl⟩
      obtain ⟨w9, hw9⟩ : ∃ v, v = ((((w0.setCell ⟨w.heap.size + 1, 0, none⟩ (.slice qa pl qcap)).setCell ⟨w.heap.size + 1, 1, none⟩ (.slice va 1 vc)).setCell ⟨w.heap.size + 1, 2, none⟩ (.int .i64 0)).setCell ⟨w.heap.size + 1, 3, none⟩ (.int .i64 0)).setCell ⟨w.heap.size + 1, 4, none⟩ (.slice ca cl ccap) := ⟨_, rfl⟩
      have hs9 : w9.heap.size = w0.heap.size := by rw [hw9]; simp
      have hs4 : w4.heap.size = w3.heap.size := by rw [hw4]; simp
      have h03 : Below w0.heap.size w0 w3 := (HB1.out.trans (hb2.mono hs01)).trans (hb3.mono (by omega))
      have g1 : Below w9.heap.size w9 w4 := by
        rw [hs9, hw9, hw4]
        exact below_set (below_set (below_set (below_set (below_set h03 _ _) _ _) _ _) _ _) _ _
      have hot : ∀ (W : World) b, b ≠ w.heap.size + 1 → (((((W.setCell ⟨w.heap.size + 1, 0, none⟩ (.slice qa pl qcap)).setCell ⟨w.heap.size + 1, 1, none⟩ (.slice va 1 vc)).setCell ⟨w.heap.size + 1, 2, none⟩ (.int .i64 0)).setCell ⟨w.heap.size + 1, 3, none⟩ (.int .i64 0)).setCell ⟨w.heap.size + 1, 4, none⟩ (.slice ca cl ccap)).heap[b]? = W.heap[b]? := fun W b hb => by
        iterate 5 rw [heap_setCell_other _ _ _ _ (by show b ≠ w.heap.size + 1; exact hb)]
      have g2 : ∀ W : World, (∀ b, w.heap.size ≤ b → b < w9.heap.size → W.heap[b]? = w9.heap[b]?) → RdP W qa pl qcap (strip p) := fun W hW => HRP.out W (fun b hb1 hb2 => (hW b (by omega) (by omega)).trans (by rw [hw9]; exact hot w0 b (by omega)))
      have g8 : w9.heap.size ≤ w2.heap.size := by omega
      have g3 : Below w.heap.size w w9 := by
        rw [hw9]
        exact below_box5 (bx := w.heap.size + 1) (hba.trans (HB0.out.mono hba.size)) (by omega) _ _ _ _ _
      have hw01 : w.heap.size + 2 ≤ w0.heap.size := by omega
      have hrow3 : w3.ownsRow w0.heap.size 153 10 (.slice va 1 vc) 1 (frmCells ⟨0, 0, args⟩) := ownsRow_below (ownsRow_below HRW.out hb2) hb3
      have g4 : w4.ownsRow w9.heap.size 153 10 (.slice va 1 vc) 1 (frmCells ⟨0, 0, args⟩) := by
        rw [hs9]
        refine owns_same hrow3 (fun b hb => ?_)
        rw [hw4]
        exact hot w3 b (by have := (hrow3.lt b hb).1; omega)
      have g5 : ∀ b, (Value.slice va 1 vc).ownBlock = some b → b < w2.heap.size := fun b hb => by have := (HRW.out.lt b hb).2; omega
      have g6 : RdCFrom w2.heap.size w4 ca cs.length ccap cs := fun W hW => hrd W (fun b h1 h2 => (hW b h1 (by omega)).trans (by rw [hw4]; exact hot w3 b (by omega)))
      have HALL := hid (⟨hbe, g2, g3, g1, g8, g4, g5, g6⟩ : _ ∧ _ ∧ _ ∧ _ ∧ _ ∧ _ ∧ _ ∧ _)
      have kz := heap_setCell_same _ (w.heap.size + 1) 4 _ _ (.slice ca cl ccap) (heap_setCell_same _ (w.heap.size + 1) 3 _ _ (.int .i64 0) (heap_setCell_same _ (w.heap.size + 1) 2 _ _ (.int .i64 0) (heap_setCell_same _ (w.heap.size + 1) 1 _ _ (.slice va 1 vc) (heap_setCell_same w3 (w.heap.size + 1) 0 _ _ (.slice qa pl qcap) j3))))
      rw [← hw4] at kz
      obtain ⟨z0, z1, z2, z3, z4, -⟩ := box5 kz
      have HCS := hid hcs
      have HCL := hid hcl
      rw [← hw4] at HALL
      clear hbe g1 g2 g3 g4 g5 g6 g8 hot h03 hw9 hs9 hrow3 k3 j3 kz hrd hcs hcl
      go_wp2
      rw [← hw4]
      clear hw4
      obtain ⟨e1, e2, e3, e4, e8, e5, e6, e7⟩ := HALL.out
      exact bodyPost_ret (v := .tuple #[.agg #[.slice qa pl qcap, .slice va 1 vc, .int .i64 0, .int .i64 0, .slice ca cl ccap], .int .i64 0]) (by simp [results, Tryd.results35, go_sem, z0, z1, z2, z3, z4]) rfl ⟨e1, HGV.out, qa, qcap, _, w9, w2, ca, ccap, cs, HCS.out, by rw [← HCL.out], e2, e3, e4, e8, e5, e6, e7⟩

set_option maxHeartbeats 4000000 in
set_option maxRecDepth 100000 in
theorem uNewF_any (pa : Option Addr) (pcap : Nat) (p : List FnD) (bud : Int) (aa : Option Addr) (acap : Nat) (args : List Int) (w : World) (hp : RdP w pa p.length pcap p) (hbd : R64 bud) (ha : Rd .i64 w aa args.length acap args) :
    Calls Tryd.prog 20 #[.agg #[.slice pa p.length pcap], .int .i64 bud, .slice aa args.length acap] w fun e w' => Below w.heap.size w w' ∧
      ((newE p bud args ≠ 0 ∧ e = .returned (.tuple #[.pointer none, .int .i64 (newE p bud args)])) ∨
       (newE p bud args = 0 ∧ givenB p args = true ∧ ∃ (mb n0 : Nat), e = .returned (.tuple #[.pointer (some ⟨mb, 0, none⟩), .int .i64 0]) ∧ MachF p bud mb w.heap.size n0 w' (begunD (strip p) args))) := by
  have HNW := hid (fun (W : World) (hW : Below w.heap.size w W) => mNewF_any pa pcap p bud aa acap args W (hp.below hW) hbd (ha.below hW (Nat.le_refl _)))
  obtain ⟨E, hE⟩ : ∃ v, v = newE p bud args := ⟨_, rfl⟩
  rw [← hE] at HNW ⊢
  have HE : Hid (E = if (chk p).1 ≠ 0 then (chk p).1 else if givenB p args = true then layE p bud else 1) := hE
  obtain ⟨pl, hpl2⟩ : ∃ v, v = p.length := ⟨_, rfl⟩
  obtain ⟨al, hal2⟩ : ∃ v, v = args.length := ⟨_, rfl⟩
  rw [← hpl2] at HNW ⊢
  rw [← hal2] at HNW ⊢
  have HPL := hid hpl2
  clear hpl2 hal2 hp ha hE
  obtain ⟨wa, hwa⟩ : ∃ v, v = w.alloc (Obj.cells #[.slice pa pl pcap] 24) := ⟨_, rfl⟩
  have hba : Below w.heap.size w wa := by rw [hwa]; exact (Below.refl _ _).alloc (Nat.le_refl _) _
  have hsa : wa.heap.size = w.heap.size + 1 := by rw [hwa]; simp
  go_enter Tryd.func20, Tryd.ntmps20
  go_wp2_with fail
  rw [← hwa]
  clear hwa
  refine (HNW.out wa hba).mono ?_
  clear HNW
  rintro e w1 ⟨hb1, hcase⟩
  have hs1 := hb1.size
  have hbw1 := hba.trans (hb1.mono hba.size)
  rcases hcase with ⟨hE, rfl⟩ | ⟨hE, hgv, qa, qcap, v, w0, w2, ca, ccap, cs, hcs, rfl, hrp, hbw0, hb01, h02, hrow, hvl, hrd⟩
  · have hE' : (E != 0) = true := by simpa using hE
    simp only [noMach]
    have HBE := hid (fun (A : Obj) => hbw1.alloc (by omega) A)
    go_wp2
    exact bodyPost_ret (v := .tuple #[.pointer none, .int .i64 E]) (by simp [results, Tryd.results20, go_sem]) rfl ⟨HBE.out _, .inl ⟨hE, rfl⟩⟩
  · obtain ⟨va, vc, rfl⟩ : ∃ va vc, v = .slice va 1 vc := by
      rcases hrow.2 with ⟨h1, h2⟩ | ⟨g, c', cur, h1, _⟩
      · omega
      · exact ⟨_, _, h1⟩
    have hc0 : (chk p).1 = 0 := by
      have h := HE.out
      refine Decidable.byContradiction fun hne => ?_
      rw [if_pos hne] at h
      exact hne (h.symm.trans hE)
    have hg := good_of (chk_zero hc0)
    have hgt := given_true hgv
    have hf0 := hg.fns 0 _ (fnAt_some (p := p) (n := 0) (by have := hg.len; omega))
    obtain ⟨WF, hWF⟩ : ∃ v, v = (w1.alloc (Obj.cells #[.slice qa pl qcap, .slice va 1 vc, .int .i64 0, .int .i64 0, .slice ca cs.length ccap] 84)).alloc (Obj.cells #[.slice qa pl qcap, .slice va 1 vc, .int .i64 0, .int .i64 0, .slice ca cs.length ccap] 88) := ⟨_, rfl⟩
    have hbF : Below w1.heap.size w1 WF := by rw [hWF]; exact ((Below.refl _ _).alloc (Nat.le_refl _) _).alloc (by simp) _
    have hsF : WF.heap.size = w1.heap.size + 2 := by rw [hWF]; simp
    have kF : WF.heap[w1.heap.size + 1]? = some (.cells #[.slice qa pl qcap, .slice va 1 vc, .int .i64 0, .int .i64 0, .slice ca cs.length ccap] 88 (0, 0)) := by rw [hWF]; exact heap_new_at (by simp)
    have hs01 := hb01.size
    have hs00 := hbw0.size
    have hm : MachF p bud (w1.heap.size + 1) w.heap.size w0.heap.size WF (begunD (strip p) args) := by
      have hfl := hf0.locals
      have hfp := hf0.params
      have hfm : ((begunD p args).live.map frmCells).flatten = frmCells ⟨0, 0, args⟩ := by
        show (([(⟨0, 0, fillI args (fnAt p 0).locals.toNat args.length⟩ : LiveD)]).map frmCells).flatten = _
        simp only [List.map_cons, List.map_nil, List.flatten_cons, List.flatten_nil, List.append_nil]
        unfold frmCells
        dsimp only
        rw [pad8_fill (by have := hgt.1; omega) (by omega)]
      rw [begunD_strip]
      refine ⟨qa, qcap, .slice va 1 vc, cs, ca, ccap, hcs, ?_, fun W hW => ?_, by omega, by omega, by omega, ?_, fun b e => ?_, fun W hW => ?_⟩
      · rw [strip_length, ← HPL.out]
        exact kF
      · rw [strip_length, ← HPL.out]
        refine hrp W (fun b h1 h2 => (hW b (by omega) h2).trans ?_)
        exact (hbF.block b (by omega)).trans (hb01.block b h2)
      · rw [hfm]
        exact ownsRow_below hrow hbF
      · have := (hrow.lt _ e).2
        omega
      · refine hrd W (fun b h1 h2 => ?_)
        exact (hW b (by omega) (by omega) (by omega) (fun e => by have := hvl b e; omega)).trans (hbF.block b h2)
    have HM := hid hm
    have HBF := hid (hbw1.trans (hbF.mono hbw1.size))
    have HGV := hid hgv
    subst hE
    clear hm kF hbF hf0 hg hc0 hgt hrp hbw0 hb01 hrow hvl hrd hcs HE hgv
    go_wp2
    rw [← hWF]
    exact bodyPost_ret (v := .tuple #[.pointer (some ⟨w1.heap.size + 1, 0, none⟩), .int .i64 0]) (by simp [results, Tryd.results20, go_sem]) rfl ⟨HBF.out, HGV.out, w1.heap.size + 1, rfl, w0.heap.size, HM.out⟩
end Go.Proofs.YtebjndcokkefhaaDoor
