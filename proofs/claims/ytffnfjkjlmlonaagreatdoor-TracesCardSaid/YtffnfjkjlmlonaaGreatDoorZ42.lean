/- Contracts of the developers' machine.New and unfold.New: a machine that is let in is a run at its beginning, with the codes beside it. Contracts of the machine's method Step, the developers' own and unfold's; what is kept beside a machine. Contracts of the developers' code.PlaceOf, code.BegunAt, (*run.Run).Spots, machine.reversed. -/
import Derived.Test.YtffnfjkjlmlonaaGreatDoorZ33
import Derived.Test.YtffnfjkjlmlonaaGreatDoorZ40
import Derived.Test.YtffnfjkjlmlonaaGreatDoorD11
namespace Go.Proofs.YtffnfjkjlmlonaaGreatDoor
open Go.RowKit

/-- What is wrong with a program, a budget and arguments. -/
def newE (p : List FnD) (bud : Int) (args : List Int) : Int := if (chk p).1 ≠ 0 then (chk p).1 else if givenB p args = true then layE p bud else 1
def noMach : Array Value := #[.slice none 0 0, .slice none 0 0, .int .i64 0, .int .i64 0, .slice none 0 0]

theorem below_set {B : Nat} {a b : World} (h : Below B a b) (q : Addr) (v : Value) : Below B (a.setCell q v) (b.setCell q v) :=
  ⟨h.os, h.tape, h.output, by simpa using h.size, fun k hk => by simp only [World.setCell, Array.getElem?_modify, h.block k hk]⟩
/-- Five cells stored into a box that came later. -/
theorem below_box5 {w W : World} {bx : Nat} (h : Below w.heap.size w W) (hb : w.heap.size ≤ bx) (a b c d e : Value) : Below w.heap.size w (((((W.setCell ⟨bx, 0, none⟩ a).setCell ⟨bx, 1, none⟩ b).setCell ⟨bx, 2, none⟩ c).setCell ⟨bx, 3, none⟩ d).setCell ⟨bx, 4, none⟩ e) :=
  ((((h.setCell (p := ⟨bx, 0, none⟩) hb _).setCell (p := ⟨bx, 1, none⟩) hb _).setCell (p := ⟨bx, 2, none⟩) hb _).setCell (p := ⟨bx, 3, none⟩) hb _).setCell (p := ⟨bx, 4, none⟩) hb _
theorem box5 {w : World} {b : Nat} {v0 v1 v2 v3 v4 : Value} {t : TypeId} (h : w.heap[b]? = some (.cells #[v0, v1, v2, v3, v4] t (0, 0))) : w.cell? ⟨b, 0, none⟩ = some v0 ∧ w.cell? ⟨b, 1, none⟩ = some v1 ∧ w.cell? ⟨b, 2, none⟩ = some v2 ∧ w.cell? ⟨b, 3, none⟩ = some v3 ∧ w.cell? ⟨b, 4, none⟩ = some v4 ∧ w.frozen? ⟨b, 0, none⟩ = false ∧ w.frozen? ⟨b, 1, none⟩ = false ∧ w.frozen? ⟨b, 2, none⟩ = false ∧ w.frozen? ⟨b, 3, none⟩ = false ∧ w.frozen? ⟨b, 4, none⟩ = false := by
  refine ⟨?_, ?_, ?_, ?_, ?_, ?_, ?_, ?_, ?_, ?_⟩ <;> simp [World.cell?, World.frozen?, h]

set_option maxHeartbeats 4000000 in
set_option maxRecDepth 100000 in
theorem mNew_any (pa : Option Addr) (pcap : Nat) (p : List FnD) (bud : Int) (aa : Option Addr) (acap : Nat) (args : List Int) (w : World) (hp : RdP w pa p.length pcap p) (hbd : R64 bud) (ha : Rd .i64 w aa args.length acap args) :
    Calls Tryz.prog 171 #[.agg #[.slice pa p.length pcap], .int .i64 bud, .slice aa args.length acap] w fun e w' => Below w.heap.size w w' ∧
      ((newE p bud args ≠ 0 ∧ e = .returned (.tuple #[.agg noMach, .int .i64 (newE p bud args)])) ∨
       (newE p bud args = 0 ∧ givenB p args = true ∧ ∃ (qa : Option Addr) (qcap : Nat) (v : Value) (w0 w2 : World) (ca : Option Addr) (ccap : Nat) (cs : List CodeD), codesD p bud = some cs ∧ e = .returned (.tuple #[.agg #[.slice qa p.length qcap, v, .int .i64 0, .int .i64 0, .slice ca cs.length ccap], .int .i64 0]) ∧
         RdP w0 qa p.length qcap (strip p) ∧ Below w.heap.size w w0 ∧ Below w0.heap.size w0 w' ∧ w'.ownsRow w0.heap.size 248 10 v 1 (frmCells ⟨0, 0, args⟩) ∧ (∀ b, v.ownBlock = some b → b < w2.heap.size) ∧ RdCFrom w2.heap.size w' ca cs.length ccap cs)) := by
  have HNW := hid (fun (W : World) (hW : Below w.heap.size w W) => New_any pa pcap p aa acap args W (hp.below hW) (ha.below hW (Nat.le_refl _)))
  have HLY := hid (fun (W : World) (hW : Below w.heap.size w W) => Lay_any pa pcap p bud W (hp.below hW) hbd)
  obtain ⟨E, hE⟩ : ∃ v, v = newE p bud args := ⟨_, rfl⟩
  rw [← hE]
  have HE : Hid (E = if (chk p).1 ≠ 0 then (chk p).1 else if givenB p args = true then layE p bud else 1) := hE
  obtain ⟨pl, hpl2⟩ : ∃ v, v = p.length := ⟨_, rfl⟩
  obtain ⟨al, hal2⟩ : ∃ v, v = args.length := ⟨_, rfl⟩
  rw [← hpl2] at HNW HLY ⊢
  rw [← hal2] at HNW ⊢
  clear hpl2 hal2 hp ha hE
  go_enter Tryz.func171, Tryz.ntmps171
  obtain ⟨wa, hwa⟩ : ∃ v, v = (w.alloc (Obj.cells #[.slice pa pl pcap] 44)).alloc (Obj.cells #[.slice none 0 0, .slice none 0 0, .int .i64 0, .int .i64 0, .slice none 0 0] 167) := ⟨_, rfl⟩
  have hba : Below w.heap.size w wa := by rw [hwa]; exact ((Below.refl _ _).alloc (Nat.le_refl _) _).alloc (by simp) _
  have hsa : wa.heap.size = w.heap.size + 2 := by rw [hwa]; simp
  have ka : wa.heap[w.heap.size]? = some (.cells #[.slice pa pl pcap] 44 (0, 0)) := by rw [hwa]; exact heap_at1 (by simp) (heap_new_at rfl)
  have kb : wa.heap[w.heap.size + 1]? = some (.cells #[.slice none 0 0, .slice none 0 0, .int .i64 0, .int .i64 0, .slice none 0 0] 167 (0, 0)) := by rw [hwa]; exact heap_new_at (by simp)
  go_wp2_with fail
  rw [← hwa]
  clear hwa
  refine (HNW.out wa hba).mono ?_
  clear HNW
  rintro e w1 ⟨hb1, hcase⟩
  have hs1 := hb1.size
  have hbw1 := hba.trans (hb1.mono hba.size)
  have j0 := (hb1.block w.heap.size (by omega)).trans ka
  have j1 := (hb1.block (w.heap.size + 1) (by omega)).trans kb
  have r0 : w1.cell? ⟨w.heap.size, 0, none⟩ = some (.slice pa pl pcap) := by simp [World.cell?, j0]
  obtain ⟨x0, x1, x2, x3, x4, f0, f1, f2, f3, f4⟩ := box5 j1
  have lt0 : w.heap.size < w1.heap.size := by omega
  have lt1 : w.heap.size + 1 < w1.heap.size := by omega
  have hsw := hbw1.size
  have HBE := hid (fun (A : Obj) => (below_box5 (bx := w.heap.size + 1) hbw1 (by omega) (.slice none 0 0) (.slice none 0 0) (.int .i64 0) (.int .i64 0) (.slice none 0 0)).alloc (by simp; omega) A)
  clear ka kb
  rcases hcase with ⟨hc, rfl⟩ | ⟨hc, hgv, rfl⟩ | ⟨hc, hgv, qa, qcap, v, w0, rfl, hrp, hbw0, hb01, hrow⟩
  · have hE1 : E = (chk p).1 := by rw [HE.out, if_pos hc]
    rw [← hE1] at hc ⊢
    have hc' : (E != 0) = true := by simpa using hc
    simp only [noRun]
    clear hE1 HE j0 j1
    go_wp2
    exact bodyPost_ret (v := .tuple #[.agg noMach, .int .i64 E]) (by simp [results, Tryz.results171, go_sem, x0, x1, x2, x3, x4, lt1, noMach]) rfl ⟨HBE.out _, .inl ⟨hc, rfl⟩⟩
  · have hE1 : E = 1 := by rw [HE.out, if_neg (by simpa using hc), if_neg (by rw [hgv]; decide)]
    subst hE1
    simp only [noRun]
    clear HE j0 j1
    go_wp2
    exact bodyPost_ret (v := .tuple #[.agg noMach, .int .i64 1]) (by simp [results, Tryz.results171, go_sem, x0, x1, x2, x3, x4, lt1, noMach]) rfl ⟨HBE.out _, .inl ⟨by decide, rfl⟩⟩
  · obtain ⟨va, vc, rfl⟩ : ∃ va vc, v = .slice va 1 vc := by
      rcases hrow.2 with ⟨h1, h2⟩ | ⟨g, c', cur, h1, _⟩
      · omega
      · exact ⟨_, _, h1⟩
    have hE1 : E = layE p bud := by rw [HE.out, if_neg (by simpa using hc), if_pos hgv]
    obtain ⟨w2, hw2⟩ : ∃ w2, w2 = w1.alloc (Obj.cells #[.slice qa pl qcap, .slice va 1 vc, .int .i64 0, .int .i64 0] 164) := ⟨_, rfl⟩
    have hb2 : Below w1.heap.size w1 w2 := by rw [hw2]; exact (Below.refl _ _).alloc (Nat.le_refl _) _
    have hs2 : w2.heap.size = w1.heap.size + 1 := by rw [hw2]; simp
    have k2 : w2.heap[w1.heap.size]? = some (.cells #[.slice qa pl qcap, .slice va 1 vc, .int .i64 0, .int .i64 0] 164 (0, 0)) := by rw [hw2]; exact heap_new_at rfl
    have hbw2 := hbw1.trans (hb2.mono hbw1.size)
    have HLW := hid (HLY.out w2 hbw2)
    rw [← hE1] at HLW
    have j2 := (hb2.block (w.heap.size + 1) lt1).trans j1
    have HK2 := hid k2
    have HJ2 := hid j2
    have HGV := hid hgv
    have hs01 := hb01.size
    have hs00 := hbw0.size
    have HRP := hid hrp
    have HRW := hid hrow
    have HB0 := hid hbw0
    have HB1 := hid hb01
    clear HE hE1 hc hgv j0 j1 HLY k2 j2 x0 x1 x2 x3 x4 f0 f1 f2 f3 f4 HBE hrp hrow hbw0 hb01
    go_wp2_with fail
    rw [← hw2]
    clear hw2
    refine HLW.out.mono ?_
    clear HLW
    rintro e w3 ⟨hb3, hcase⟩
    have hs3 := hb3.size
    have hbw3 := hbw2.trans (hb3.mono hbw2.size)
    have k3 := (hb3.block w1.heap.size (by omega)).trans HK2.out
    have j3 := (hb3.block (w.heap.size + 1) (by omega)).trans HJ2.out
    obtain ⟨x0, x1, x2, x3, x4, f0, f1, f2, f3, f4⟩ := box5 j3
    have y0 : w3.cell? ⟨w1.heap.size, 0, none⟩ = some (.slice qa pl qcap) := by simp [World.cell?, k3]
    have y1 : w3.cell? ⟨w1.heap.size, 1, none⟩ = some (.slice va 1 vc) := by simp [World.cell?, k3]
    have y2 : w3.cell? ⟨w1.heap.size, 2, none⟩ = some (.int .i64 0) := by simp [World.cell?, k3]
    have y3 : w3.cell? ⟨w1.heap.size, 3, none⟩ = some (.int .i64 0) := by simp [World.cell?, k3]
    rcases hcase with ⟨hE, rfl⟩ | ⟨hE, cs, ca, ccap, hcs, rfl, hrd⟩
    · have hE' : (E != 0) = true := by simpa using hE
      have HBE := hid (below_box5 (bx := w.heap.size + 1) hbw3 (by omega) (.slice none 0 0) (.slice none 0 0) (.int .i64 0) (.int .i64 0) (.slice none 0 0))
      clear k3 j3
      go_wp2
      exact bodyPost_ret (v := .tuple #[.agg noMach, .int .i64 E]) (by simp [results, Tryz.results171, go_sem, x0, x1, x2, x3, x4, noMach]) rfl ⟨HBE.out, .inl ⟨hE, rfl⟩⟩
    · subst hE
      obtain ⟨cl, hcl⟩ : ∃ v, v = cs.length := ⟨_, rfl⟩
      rw [← hcl]
      have hbe := below_box5 (bx := w.heap.size + 1) hbw3 (by omega) (.slice qa pl qcap) (.slice va 1 vc) (.int .i64 0) (.int .i64 0) (.slice ca cl ccap)
      obtain ⟨w4, hw4⟩ : ∃ v, v = ((((w3.setCell ⟨w.heap.size + 1, 0, none⟩ (.slice qa pl qcap)).setCell ⟨w.heap.size + 1, 1, none⟩ (.slice va 1 vc)).setCell ⟨w.heap.size + 1, 2, none⟩ (.int .i64 0)).setCell ⟨w.heap.size + 1, 3, none⟩ (.int .i64 0)).setCell ⟨w.heap.size + 1, 4, none⟩ (.slice ca cl ccap) := ⟨_, rfl⟩
      obtain ⟨w9, hw9⟩ : ∃ v, v = ((((w0.setCell ⟨w.heap.size + 1, 0, none⟩ (.slice qa pl qcap)).setCell ⟨w.heap.size + 1, 1, none⟩ (.slice va 1 vc)).setCell ⟨w.heap.size + 1, 2, none⟩ (.int .i64 0)).setCell ⟨w.heap.size + 1, 3, none⟩ (.int .i64 0)).setCell ⟨w.heap.size + 1, 4, none⟩ (.slice ca cl ccap) := ⟨_, rfl⟩
      have hs9 : w9.heap.size = w0.heap.size := by rw [hw9]; simp
      have hs4 : w4.heap.size = w3.heap.size := by rw [hw4]; simp
      have h03 : Below w0.heap.size w0 w3 := (HB1.out.trans (hb2.mono hs01)).trans (hb3.mono (by omega))
      have g1 : Below w9.heap.size w9 w4 := by
        rw [hs9, hw9, hw4]
        exact below_set (below_set (below_set (below_set (below_set h03 _ _) _ _) _ _) _ _) _ _
      have hot : ∀ (W : World) b, b ≠ w.heap.size + 1 → (((((W.setCell ⟨w.heap.size + 1, 0, none⟩ (.slice qa pl qcap)).setCell ⟨w.heap.size + 1, 1, none⟩ (.slice va 1 vc)).setCell ⟨w.heap.size + 1, 2, none⟩ (.int .i64 0)).setCell ⟨w.heap.size + 1, 3, none⟩ (.int .i64 0)).setCell ⟨w.heap.size + 1, 4, none⟩ (.slice ca cl ccap)).heap[b]? = W.heap[b]? := fun W b hb => by
        iterate 5 rw [heap_setCell_other _ _ _ _ (by show b ≠ w.heap.size + 1; exact hb)]
      have g2 : RdP w9 qa pl qcap (strip p) := HRP.out w9 (fun b hb1 hb2 => by rw [hw9]; exact hot w0 b (by omega))
      have g3 : Below w.heap.size w w9 := by
        rw [hw9]
        exact below_box5 (bx := w.heap.size + 1) (hba.trans (HB0.out.mono hba.size)) (by omega) _ _ _ _ _
      have hw01 : w.heap.size + 2 ≤ w0.heap.size := by omega
      have hrow3 : w3.ownsRow w0.heap.size 248 10 (.slice va 1 vc) 1 (frmCells ⟨0, 0, args⟩) := ownsRow_below (ownsRow_below HRW.out hb2) hb3
      have g4 : w4.ownsRow w9.heap.size 248 10 (.slice va 1 vc) 1 (frmCells ⟨0, 0, args⟩) := by
        rw [hs9]
        refine owns_same hrow3 (fun b hb => ?_)
        rw [hw4]
        exact hot w3 b (by have := (hrow3.lt b hb).1; omega)
      have g5 : ∀ b, (Value.slice va 1 vc).ownBlock = some b → b < w2.heap.size := fun b hb => by have := (HRW.out.lt b hb).2; omega
      have g6 : RdCFrom w2.heap.size w4 ca cs.length ccap cs := fun W hW => hrd W (fun b h1 h2 => (hW b h1 (by omega)).trans (by rw [hw4]; exact hot w3 b (by omega)))
      have HALL := hid (⟨hbe, g2, g3, g1, g4, g5, g6⟩ : _ ∧ _ ∧ _ ∧ _ ∧ _ ∧ _ ∧ _)
      have kz := heap_setCell_same _ (w.heap.size + 1) 4 _ _ (.slice ca cl ccap) (heap_setCell_same _ (w.heap.size + 1) 3 _ _ (.int .i64 0) (heap_setCell_same _ (w.heap.size + 1) 2 _ _ (.int .i64 0) (heap_setCell_same _ (w.heap.size + 1) 1 _ _ (.slice va 1 vc) (heap_setCell_same w3 (w.heap.size + 1) 0 _ _ (.slice qa pl qcap) j3))))
      rw [← hw4] at kz
      obtain ⟨z0, z1, z2, z3, z4, -⟩ := box5 kz
      have HCS := hid hcs
      have HCL := hid hcl
      rw [← hw4] at HALL
      clear hbe g1 g2 g3 g4 g5 g6 hot h03 hw9 hs9 hrow3 k3 j3 kz hrd hcs hcl
      go_wp2
      rw [← hw4]
      clear hw4
      obtain ⟨e1, e2, e3, e4, e5, e6, e7⟩ := HALL.out
      exact bodyPost_ret (v := .tuple #[.agg #[.slice qa pl qcap, .slice va 1 vc, .int .i64 0, .int .i64 0, .slice ca cl ccap], .int .i64 0]) (by simp [results, Tryz.results171, go_sem, z0, z1, z2, z3, z4]) rfl ⟨e1, HGV.out, qa, qcap, _, w9, w2, ca, ccap, cs, HCS.out, by rw [← HCL.out], e2, e3, e4, e5, e6, e7⟩

theorem strip_length (p : List FnD) : (strip p).length = p.length := by unfold strip; simp
/-- A machine of a program p by a budget lies in the box mb: its run, and beside it the codes, which no step writes. -/
structure MachAt (p : List FnD) (bud : Int) (mb : Nat) (X : RX) (w0 : World) (w : World) (s : StandD) : Prop where
  run : RunAt X w0 (strip p) mb w s
  codes : ∃ cs ca ccap, codesD p bud = some cs ∧ X.ex = [.slice ca cs.length ccap] ∧ ∀ W t, RunAt X w0 (strip p) mb W t → RdC W ca cs.length ccap cs

set_option maxHeartbeats 4000000 in
set_option maxRecDepth 100000 in
theorem uNew_any (pa : Option Addr) (pcap : Nat) (p : List FnD) (bud : Int) (aa : Option Addr) (acap : Nat) (args : List Int) (w : World) (hp : RdP w pa p.length pcap p) (hbd : R64 bud) (ha : Rd .i64 w aa args.length acap args) :
    Calls Tryz.prog 117 #[.agg #[.slice pa p.length pcap], .int .i64 bud, .slice aa args.length acap] w fun e w' => Below w.heap.size w w' ∧
      ((newE p bud args ≠ 0 ∧ e = .returned (.tuple #[.pointer none, .int .i64 (newE p bud args)])) ∨
       (newE p bud args = 0 ∧ givenB p args = true ∧ ∃ (mb : Nat) (X : RX) (w0 : World), e = .returned (.tuple #[.pointer (some ⟨mb, 0, none⟩), .int .i64 0]) ∧ Below w.heap.size w w0 ∧ MachAt p bud mb X w0 w' (begunD (strip p) args))) := by
  have HNW := hid (fun (W : World) (hW : Below w.heap.size w W) => mNew_any pa pcap p bud aa acap args W (hp.below hW) hbd (ha.below hW (Nat.le_refl _)))
  obtain ⟨E, hE⟩ : ∃ v, v = newE p bud args := ⟨_, rfl⟩
  rw [← hE] at HNW ⊢
  have HE : Hid (E = if (chk p).1 ≠ 0 then (chk p).1 else if givenB p args = true then layE p bud else 1) := hE
  obtain ⟨pl, hpl2⟩ : ∃ v, v = p.length := ⟨_, rfl⟩
  obtain ⟨al, hal2⟩ : ∃ v, v = args.length := ⟨_, rfl⟩
  rw [← hpl2] at HNW ⊢
  rw [← hal2] at HNW ⊢
  have HPL := hid hpl2
  clear hpl2 hal2 hp ha hE
  obtain ⟨wa, hwa⟩ : ∃ v, v = w.alloc (Obj.cells #[.slice pa pl pcap] 44) := ⟨_, rfl⟩
  have hba : Below w.heap.size w wa := by rw [hwa]; exact (Below.refl _ _).alloc (Nat.le_refl _) _
  have hsa : wa.heap.size = w.heap.size + 1 := by rw [hwa]; simp
  go_enter Tryz.func117, Tryz.ntmps117
  go_wp2_with fail
  rw [← hwa]
  clear hwa
  refine (HNW.out wa hba).mono ?_
  clear HNW
  rintro e w1 ⟨hb1, hcase⟩
  have hs1 := hb1.size
  have hbw1 := hba.trans (hb1.mono hba.size)
  rcases hcase with ⟨hE, rfl⟩ | ⟨hE, hgv, qa, qcap, v, w0, w2, ca, ccap, cs, hcs, rfl, hrp, hbw0, hb01, hrow, hvl, hrd⟩
  · have hE' : (E != 0) = true := by simpa using hE
    simp only [noMach]
    have HBE := hid (fun (A : Obj) => hbw1.alloc (by omega) A)
    go_wp2
    exact bodyPost_ret (v := .tuple #[.pointer none, .int .i64 E]) (by simp [results, Tryz.results117, go_sem]) rfl ⟨HBE.out _, .inl ⟨hE, rfl⟩⟩
  · obtain ⟨va, vc, rfl⟩ : ∃ va vc, v = .slice va 1 vc := by
      rcases hrow.2 with ⟨h1, h2⟩ | ⟨g, c', cur, h1, _⟩
      · omega
      · exact ⟨_, _, h1⟩
    have hc0 : (chk p).1 = 0 := by
      have h := HE.out
      refine Decidable.byContradiction fun hne => ?_
      rw [if_pos hne] at h
      exact hne (h.symm.trans hE)
    have hg := good_of (chk_zero hc0)
    have hgt := given_true hgv
    have hf0 := hg.fns 0 _ (fnAt_some (p := p) (n := 0) (by have := hg.len; omega))
    obtain ⟨WF, hWF⟩ : ∃ v, v = (w1.alloc (Obj.cells #[.slice qa pl qcap, .slice va 1 vc, .int .i64 0, .int .i64 0, .slice ca cs.length ccap] 167)).alloc (Obj.cells #[.slice qa pl qcap, .slice va 1 vc, .int .i64 0, .int .i64 0, .slice ca cs.length ccap] 169) := ⟨_, rfl⟩
    have hbF : Below w1.heap.size w1 WF := by rw [hWF]; exact ((Below.refl _ _).alloc (Nat.le_refl _) _).alloc (by simp) _
    have hsF : WF.heap.size = w1.heap.size + 2 := by rw [hWF]; simp
    have kF : WF.heap[w1.heap.size + 1]? = some (.cells #[.slice qa pl qcap, .slice va 1 vc, .int .i64 0, .int .i64 0, .slice ca cs.length ccap] 169 (0, 0)) := by rw [hWF]; exact heap_new_at (by simp)
    obtain ⟨K, hK⟩ : ∃ f : Nat → Option Obj, f = fun b => if b < WF.heap.size ∧ b ≠ w1.heap.size + 1 ∧ (Value.slice va 1 vc).ownBlock ≠ some b then WF.heap[b]? else none := ⟨_, rfl⟩
    obtain ⟨X, hX⟩ : ∃ X : RX, X = ⟨169, [.slice ca cs.length ccap], K⟩ := ⟨_, rfl⟩
    have hs01 := hb01.size
    have hrun : RunAt X w0 (strip p) (w1.heap.size + 1) WF (begunD (strip p) args) := by
      rw [begunD_strip]
      have hfl := hf0.locals
      have hfp := hf0.params
      have hfm : ((begunD p args).live.map frmCells).flatten = frmCells ⟨0, 0, args⟩ := by
        show (([(⟨0, 0, fillI args (fnAt p 0).locals.toNat args.length⟩ : LiveD)]).map frmCells).flatten = _
        simp only [List.map_cons, List.map_nil, List.flatten_cons, List.flatten_nil, List.append_nil]
        unfold frmCells
        dsimp only
        rw [pad8_fill (by have := hgt.1; omega) (by omega)]
      refine ⟨qa, qcap, .slice va 1 vc, ?_, ?_, hb01.trans (hbF.mono hs01), by omega, ?_, fun e => ?_, fun b o hb => ?_⟩
      · rw [hX, strip_length, ← HPL.out]
        exact kF
      · rw [strip_length, ← HPL.out]; exact hrp
      · rw [hfm]
        exact ownsRow_below hrow hbF
      · have := (hrow.lt _ e).2
        omega
      · rw [hX] at hb
        dsimp only at hb
        rw [hK] at hb
        dsimp only at hb
        split at hb
        · next h => exact ⟨hb, h.2⟩
        · cases hb
    have hcd : ∀ W t, RunAt X w0 (strip p) (w1.heap.size + 1) W t → RdC W ca cs.length ccap cs := fun W t hr => by
      obtain ⟨_, _, v', _, _, _, _, _, _, hk⟩ := hr
      refine hrd W (fun b h1 h2 => ?_)
      obtain ⟨o, ho⟩ : ∃ o, w1.heap[b]? = some o := ⟨_, Array.getElem?_eq_getElem h2⟩
      have ho2 : WF.heap[b]? = some o := (hbF.block b h2).trans ho
      have := (hk b o (by
        rw [hX]
        dsimp only
        rw [hK]
        dsimp only
        rw [if_pos ⟨by omega, by omega, fun e => by have := hvl b e; omega⟩]
        exact ho2)).1
      exact this.trans ho.symm
    have hm : MachAt p bud (w1.heap.size + 1) X w0 WF (begunD (strip p) args) := ⟨hrun, cs, ca, ccap, hcs, by rw [hX], hcd⟩
    have HM := hid hm
    have HB0 := hid (hba.trans (hbw0.mono hba.size))
    have HBF := hid (hbw1.trans (hbF.mono hbw1.size))
    have HGV := hid hgv
    subst hE
    clear hm hrun hcd hX hK kF hbF hf0 hg hc0 hgt hrp hbw0 hb01 hrow hvl hrd hcs HE hgv
    go_wp2
    rw [← hWF]
    exact bodyPost_ret (v := .tuple #[.pointer (some ⟨w1.heap.size + 1, 0, none⟩), .int .i64 0]) (by simp [results, Tryz.results117, go_sem]) rfl ⟨HBF.out, HGV.out, w1.heap.size + 1, rfl, X, w0, HB0.out, HM.out⟩
end Go.Proofs.YtffnfjkjlmlonaaGreatDoor
namespace Go.Proofs.YtffnfjkjlmlonaaGreatDoor
open Go.RowKit

set_option maxHeartbeats 4000000 in
set_option maxRecDepth 100000 in
theorem mStep_any (p : List FnD) (bud : Int) (mb : Nat) (X : RX) (w0 : World) (s : StandD) (n : Nat) (w : World) (hgd : Good (strip p)) (hw : Wf (strip p) s) (hm : MachAt p bud mb X w0 w s) (hn : n ≤ 2000) :
    Calls Tryz.prog 121 #[.pointer (some ⟨mb, 0, none⟩), .int .i64 n] w fun e w' => e = .returned (.tuple #[.int .i64 (takenD (strip p) s n : Nat), .int .i64 0]) ∧ MachAt p bud mb X w0 w' (runD (strip p) s n) := by
  have HS := hid (Step_any X w0 (strip p) mb s n w hgd hw hm.run hn)
  have HC := hid hm.codes
  clear hm hgd hw
  go_enter Tryz.func121, Tryz.ntmps121
  go_wp2_with fail
  refine HS.out.mono ?_
  clear HS
  rintro e w1 ⟨rfl, hr⟩
  have HR := hid hr
  clear hr
  go_wp2
  exact bodyPost_ret (v := .tuple #[.int .i64 (takenD (strip p) s n : Nat), .int .i64 0]) (by simp [results, Tryz.results121, go_sem]) rfl ⟨rfl, HR.out, HC.out⟩

set_option maxHeartbeats 4000000 in
set_option maxRecDepth 100000 in
theorem uStep_any (p : List FnD) (bud : Int) (mb : Nat) (X : RX) (w0 : World) (s : StandD) (n : Nat) (w : World) (hgd : Good (strip p)) (hw : Wf (strip p) s) (hm : MachAt p bud mb X w0 w s) (hn : n ≤ 2000) :
    Calls Tryz.prog 69 #[.pointer (some ⟨mb, 0, none⟩), .int .i64 n] w fun e w' => e = .returned (.tuple #[.int .i64 (takenD (strip p) s n : Nat), .int .i64 0]) ∧ MachAt p bud mb X w0 w' (runD (strip p) s n) := by
  have HS := hid (mStep_any p bud mb X w0 s n w hgd hw hm hn)
  clear hm hgd hw
  go_enter Tryz.func69, Tryz.ntmps69
  go_wp2_with fail
  refine HS.out.mono ?_
  clear HS
  rintro e w1 ⟨rfl, hr⟩
  have HR := hid hr
  clear hr
  go_wp2
  exact bodyPost_ret (v := .tuple #[.int .i64 (takenD (strip p) s n : Nat), .int .i64 0]) (by simp [results, Tryz.results69, go_sem]) rfl ⟨rfl, HR.out⟩

theorem MachAt.below {p : List FnD} {bud : Int} {mb : Nat} {X : RX} {w0 w w' : World} {s : StandD} (h : MachAt p bud mb X w0 w s) (hb : Below w.heap.size w w') : MachAt p bud mb X w0 w' s := ⟨h.run.below hb, h.codes⟩

/-- What came into memory since is kept by the steps to come. -/
def RX.ext (X : RX) (w w' : World) : RX := ⟨X.T, X.ex, fun b => if w.heap.size ≤ b ∧ b < w'.heap.size then w'.heap[b]? else X.K b⟩
theorem RunAt.extend {X : RX} {w0 w w' : World} {P : List FnD} {rb : Nat} {s : StandD} (h : RunAt X w0 P rb w s) (hb : Below w.heap.size w w') : RunAt (X.ext w w') w0 P rb w' s := by
  obtain ⟨pa, pcap, v, h1, h2, h3, h4, h5, h6, h7⟩ := h
  have hrb := (Array.getElem?_eq_some_iff.1 h1).1
  refine ⟨pa, pcap, v, (hb.block rb hrb).trans h1, h2, h3.trans (hb.mono h3.size), h4, ownsRow_below h5 hb, h6, fun b o hk => ?_⟩
  have hk' : (if w.heap.size ≤ b ∧ b < w'.heap.size then w'.heap[b]? else X.K b) = some o := hk
  split at hk'
  · next hc => exact ⟨hk', by omega, fun e => by have := (h5.lt b e).2; omega⟩
  · obtain ⟨q1, q2, q3⟩ := h7 b o hk'
    exact ⟨(hb.block b (Array.getElem?_eq_some_iff.1 q1).1).trans q1, q2, q3⟩
theorem RunAt.shrink {X : RX} {w0 w w' W : World} {P : List FnD} {rb : Nat} {s t : StandD} (h : RunAt X w0 P rb w s) (hW : RunAt (X.ext w w') w0 P rb W t) : RunAt X w0 P rb W t := by
  obtain ⟨_, _, _, _, _, _, _, _, _, hk⟩ := h
  obtain ⟨pa, pcap, v, h1, h2, h3, h4, h5, h6, h7⟩ := hW
  refine ⟨pa, pcap, v, h1, h2, h3, h4, h5, h6, fun b o hb => h7 b o ?_⟩
  have hlt := (Array.getElem?_eq_some_iff.1 (hk b o hb).1).1
  show (if w.heap.size ≤ b ∧ b < w'.heap.size then w'.heap[b]? else X.K b) = some o
  rw [if_neg (by omega)]
  exact hb
theorem MachAt.extend {p : List FnD} {bud : Int} {mb : Nat} {X : RX} {w0 w w' : World} {s : StandD} (h : MachAt p bud mb X w0 w s) (hb : Below w.heap.size w w') : MachAt p bud mb (X.ext w w') w0 w' s := by
  obtain ⟨cs, ca, ccap, h1, h2, h3⟩ := h.codes
  exact ⟨h.run.extend hb, cs, ca, ccap, h1, h2, fun W t hW => h3 W t (h.run.shrink hW)⟩
theorem RunAt.since {X : RX} {w0 w w' W : World} {P : List FnD} {rb : Nat} {t : StandD} (hW : RunAt (X.ext w w') w0 P rb W t) (b : Nat) (h1 : w.heap.size ≤ b) (h2 : b < w'.heap.size) : W.heap[b]? = w'.heap[b]? := by
  obtain ⟨_, _, _, _, _, _, _, _, _, hk⟩ := hW
  obtain ⟨o, ho⟩ : ∃ o, w'.heap[b]? = some o := ⟨_, Array.getElem?_eq_getElem h2⟩
  have := (hk b o (by show (if w.heap.size ≤ b ∧ b < w'.heap.size then w'.heap[b]? else X.K b) = some o; rw [if_pos ⟨h1, h2⟩]; exact ho)).1
  exact this.trans ho.symm
theorem RunAt.old {X : RX} {w0 W : World} {P : List FnD} {rb : Nat} {t : StandD} (hW : RunAt X w0 P rb W t) : Below w0.heap.size w0 W := by
  obtain ⟨_, _, _, _, _, h, _⟩ := hW
  exact h
end Go.Proofs.YtffnfjkjlmlonaaGreatDoor
namespace Go.Proofs.YtffnfjkjlmlonaaGreatDoor
open Go.RowKit

def placeOf (inst op : Int) : List PlD → Nat
  | [] => 0
  | x :: r => if x.inst = inst ∧ x.op = op then 0 else placeOf inst op r + 1
def begunAt (pc : Int) : List (Int × Int) → Nat → Nat
  | [], _ => 0
  | x :: r, k => if x.2 = pc then k + 1 else begunAt pc r (k + 1)

set_option maxHeartbeats 4000000 in
set_option maxRecDepth 100000 in
theorem cPlaceOf_any (c : CodeD) (pa : Option Addr) (pcap : Nat) (ta : Option Addr) (tcap : Nat) (inst op : Int) (w : World) (hp : RdPl w pa c.places.length pcap c.places) :
    Calls Tryz.prog 179 #[.agg #[.int .i64 c.first, .slice pa c.places.length pcap, .slice ta c.tree.length tcap], .int .i64 inst, .int .i64 op] w fun e w' => e = .returned (.int .i64 (placeOf inst op c.places : Nat)) ∧ Below w.heap.size w w' := by
  obtain ⟨first, places, tree⟩ := c
  dsimp only at hp ⊢
  have hpc := hp.2.1
  have hpm := hp.2.2.1
  unfold maxLen at hpm
  have HP := hid hp
  obtain ⟨n, hn⟩ : ∃ v, v = places.length := ⟨_, rfl⟩
  rw [← hn] at hpc ⊢
  have HN := hid hn
  generalize tree.length = m at *
  clear hp hn
  obtain ⟨wb, hwb⟩ : ∃ v, v = w.alloc (Obj.cells #[.int .i64 first, .slice pa n pcap, .slice ta m tcap] 220) := ⟨_, rfl⟩
  have hbb : Below w.heap.size w wb := by rw [hwb]; exact (Below.refl _ _).alloc (Nat.le_refl _) _
  have kb : wb.heap[w.heap.size]? = some (.cells #[.int .i64 first, .slice pa n pcap, .slice ta m tcap] 220 (0, 0)) := by rw [hwb]; exact heap_new_at rfl
  obtain ⟨res, hres⟩ : ∃ v, v = placeOf inst op places := ⟨_, rfl⟩
  rw [← hres]
  have HRES := hid hres
  have HKB := hid kb
  have hltb : w.heap.size < wb.heap.size := (Array.getElem?_eq_some_iff.1 kb).1
  clear hres kb
  go_enter Tryz.func179, Tryz.ntmps179
  go_wp2
  rw [← hwb]
  clear hwb
  go_loopw [12] (fun i wr => ∃ j : Nat, i = .int .i64 j ∧ j ≤ n ∧ res = j + placeOf inst op (places.drop j) ∧ Below wb.heap.size wb wr) (fun i _ => n - (intOf i).toNat)
  case atStart => exact ⟨0, rfl, by omega, by rw [HRES.out]; simp, Below.refl _ _⟩
  case round =>
    obtain ⟨j, rfl, hj, hr, hbel⟩ := hrel
    have hbw := hbb.trans (hbel.mono hbb.size)
    by_cases hjn : j < n
    · have hjn' : (j : Int) < (n : Int) := by omega
      obtain ⟨x, hx⟩ : ∃ x, places[j]? = some x := ⟨_, List.getElem?_eq_getElem (by rw [← HN.out]; exact hjn)⟩
      obtain ⟨b, off, cs, rfl, -, hcell, rfl⟩ := HP.out.2.2.2 j x hx
      have up : ∀ (q : Addr) (u : Value), w.cell? q = some u → wr.cell? q = some u := fun q u h => (hbw.cell (World.block_lt_of_cell? w _ h)).trans h
      have t0 : wr.cell? ⟨b, off + j * 3, none⟩ = some (.int .i64 x.fn) := up _ _ (hcell 0 _ rfl)
      have t1 : wr.cell? ⟨b, off + j * 3 + 1, none⟩ = some (.int .i64 x.op) := up _ _ (hcell 1 _ rfl)
      have t2 : wr.cell? ⟨b, off + j * 3 + 2, none⟩ = some (.int .i64 x.inst) := up _ _ (hcell 2 _ rfl)
      have hdr : places.drop j = x :: places.drop (j + 1) := by
        obtain ⟨hlt, he⟩ := List.getElem?_eq_some_iff.1 hx
        rw [List.drop_eq_getElem_cons hlt, he]
      rw [hdr] at hr
      have ltb := World.block_lt_of_cell? wr _ t0
      simp only at ltb
      have HR := hid hr
      have HBL := hid hbel
      obtain ⟨xf, xo, xi⟩ := x
      dsimp only at *
      have HB2 : Hid (∀ A : Obj, Below wb.heap.size wb (wr.alloc A)) := fun A => hbel.alloc hbel.size A
      have HB3 : Hid (∀ A : Obj, Below w.heap.size w (wr.alloc A)) := fun A => hbw.alloc hbw.size A
      clear hr hcell up hdr hx hbel hbw
      by_cases h1 : xi = inst
      · subst h1
        by_cases h2 : xo = op
        · subst h2
          have HE : Hid (res = j) := by
            have h := HR.out
            unfold placeOf at h
            rw [if_pos ⟨rfl, rfl⟩] at h
            exact h
          go_wp2
          exact bodyPost_ret (v := .int .i64 j) (by simp [results, Tryz.results179, go_sem]) rfl ⟨by rw [HE.out], HB3.out _⟩
        · have h2' : (xo == op) = false := by simpa using h2
          have HE : Hid (res = (j + 1 : Nat) + placeOf xi op (places.drop (j + 1))) := by
            have h := HR.out
            unfold placeOf at h
            rw [if_neg (fun e => h2 e.2)] at h
            show res = _
            omega
          go_wp2
          go_roundw
          case rel => exact ⟨j + 1, by go_num, by omega, HE.out, HB2.out _⟩
          case measure => simp [intOf]; omega
      · have h1' : (xi == inst) = false := by simpa using h1
        have HE : Hid (res = (j + 1 : Nat) + placeOf inst op (places.drop (j + 1))) := by
          have h := HR.out
          unfold placeOf at h
          rw [if_neg (fun e => h1 e.1)] at h
          show res = _
          omega
        go_wp2
        go_roundw
        case rel => exact ⟨j + 1, by go_num, by omega, HE.out, HB2.out _⟩
        case measure => simp [intOf]; omega
    · have hje : j = n := by omega
      subst hje
      have hjn' : decide ((j : Int) < (j : Int)) = false := by simp
      have HE : Hid (res = j) := by
        have hd : places.drop j = [] := List.drop_of_length_le (by rw [← HN.out]; exact Nat.le_refl _)
        rw [hd] at hr
        exact hr
      have k1 := (hbel.block w.heap.size hltb).trans HKB.out
      have z1 : wr.cell? ⟨w.heap.size, 1, none⟩ = some (.slice pa j pcap) := by simp [World.cell?, k1]
      clear hr k1
      go_wp2
      exact bodyPost_ret (v := .int .i64 j) (by simp [results, Tryz.results179, go_sem]) rfl ⟨by rw [HE.out], hbw⟩

set_option maxHeartbeats 4000000 in
set_option maxRecDepth 100000 in
theorem begunAt_any (c : CodeD) (pa : Option Addr) (pcap : Nat) (ta : Option Addr) (tcap : Nat) (pc : Int) (w : World) (hp : RdNd w ta c.tree.length tcap c.tree) (hsm : c.tree.length ≤ 100000) :
    Calls Tryz.prog 180 #[.agg #[.int .i64 c.first, .slice pa c.places.length pcap, .slice ta c.tree.length tcap], .int .i64 pc] w fun e w' => e = .returned (.int .i64 (begunAt pc c.tree 0 : Nat)) ∧ Below w.heap.size w w' := by
  obtain ⟨first, places, tree⟩ := c
  dsimp only at hp hsm ⊢
  have hpc := hp.2.1
  have hpm := hp.2.2.1
  unfold maxLen at hpm
  have HP := hid hp
  obtain ⟨n, hn⟩ : ∃ v, v = tree.length := ⟨_, rfl⟩
  rw [← hn] at hpc hsm ⊢
  have HN := hid hn
  generalize places.length = m at *
  clear hp hn
  obtain ⟨wb, hwb⟩ : ∃ v, v = w.alloc (Obj.cells #[.int .i64 first, .slice pa m pcap, .slice ta n tcap] 220) := ⟨_, rfl⟩
  have hbb : Below w.heap.size w wb := by rw [hwb]; exact (Below.refl _ _).alloc (Nat.le_refl _) _
  obtain ⟨res, hres⟩ : ∃ v, v = begunAt pc tree 0 := ⟨_, rfl⟩
  rw [← hres]
  have HRES := hid hres
  clear hres
  go_enter Tryz.func180, Tryz.ntmps180
  go_wp2
  rw [← hwb]
  clear hwb
  go_loopw [10] (fun i wr => ∃ j : Nat, i = .int .i64 j ∧ j ≤ n ∧ res = begunAt pc (tree.drop j) j ∧ Below w.heap.size w wr) (fun i _ => n - (intOf i).toNat)
  case atStart => exact ⟨0, rfl, by omega, by rw [HRES.out]; simp, hbb⟩
  case round =>
    obtain ⟨j, rfl, hj, hr, hbw⟩ := hrel
    by_cases hjn : j < n
    · have hjn' : (j : Int) < (n : Int) := by omega
      obtain ⟨x, hx⟩ : ∃ x, tree[j]? = some x := ⟨_, List.getElem?_eq_getElem (by rw [← HN.out]; exact hjn)⟩
      obtain ⟨b, off, cs, rfl, -, hcell, rfl⟩ := HP.out.2.2.2 j x hx
      have up : ∀ (q : Addr) (u : Value), w.cell? q = some u → wr.cell? q = some u := fun q u h => (hbw.cell (World.block_lt_of_cell? w _ h)).trans h
      have t0 : wr.cell? ⟨b, off + j * 2, none⟩ = some (.int .i64 x.1) := up _ _ (hcell 0 _ rfl)
      have t1 : wr.cell? ⟨b, off + j * 2 + 1, none⟩ = some (.int .i64 x.2) := up _ _ (hcell 1 _ rfl)
      have hdr : tree.drop j = x :: tree.drop (j + 1) := by
        obtain ⟨hlt, he⟩ := List.getElem?_eq_some_iff.1 hx
        rw [List.drop_eq_getElem_cons hlt, he]
      rw [hdr] at hr
      have ltb := World.block_lt_of_cell? wr _ t0
      simp only at ltb
      have HR := hid hr
      obtain ⟨xf, xp⟩ := x
      dsimp only at *
      have HB3 : Hid (∀ A : Obj, Below w.heap.size w (wr.alloc A)) := fun A => hbw.alloc hbw.size A
      have ew : IntKind.i64.wrap ((j : Int) + 1) = (j : Int) + 1 := by rw [IntKind.wrap_i64]; omega
      clear hr hcell up hdr hx hbw
      by_cases h1 : xp = pc
      · subst h1
        have HE : Hid (res = j + 1) := by
          have h := HR.out
          unfold begunAt at h
          rw [if_pos rfl] at h
          exact h
        go_wp2
        exact bodyPost_ret (v := .int .i64 ((j : Int) + 1)) (by simp [results, Tryz.results180, go_sem]) rfl ⟨by rw [HE.out]; rfl, HB3.out _⟩
      · have h1' : (xp == pc) = false := by simpa using h1
        have HE : Hid (res = begunAt pc (tree.drop (j + 1)) (j + 1)) := by
          have h := HR.out
          unfold begunAt at h
          rw [if_neg h1] at h
          exact h
        go_wp2
        go_roundw
        case rel => exact ⟨j + 1, by go_num, by omega, HE.out, HB3.out _⟩
        case measure => simp [intOf]; omega
    · have hje : j = n := by omega
      subst hje
      have hjn' : decide ((j : Int) < (j : Int)) = false := by simp
      have HE : Hid (res = 0) := by
        have hd : tree.drop j = [] := List.drop_of_length_le (by rw [← HN.out]; exact Nat.le_refl _)
        rw [hd] at hr
        exact hr
      have HBW := hid hbw
      clear hr hbw
      go_wp2
      exact bodyPost_ret (v := .int .i64 0) (by simp [results, Tryz.results180, go_sem]) rfl ⟨by rw [HE.out]; rfl, HBW.out⟩
end Go.Proofs.YtffnfjkjlmlonaaGreatDoor
