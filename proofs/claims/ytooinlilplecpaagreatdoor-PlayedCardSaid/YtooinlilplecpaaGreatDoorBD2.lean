/- Contracts of the developers' run.New: where the program or the arguments are refused, and where they are let in. Contracts of the developers' (*run.Run).step and Step: a step, and so many, of the plain run. Contract of the developers' (*run.Run).State: what Told tells, in a list of its own. Contracts of the developers' run.Behind and unfold.Run: they answer as the plain run does. -/
import Derived.Test.YtooinlilplecpaaGreatDoorD7
import Derived.Test.YtooinlilplecpaaGreatDoorD6
import Derived.Test.YtooinlilplecpaaGreatDoorD4
import Derived.Test.YtooinlilplecpaaGreatDoorK1
import Derived.Test.YtooinlilplecpaaGreatDoorR13
import Derived.Test.YtooinlilplecpaaGreatDoorBD1
import Derived.Test.YtooinlilplecpaaGreatDoorBL
namespace Go.Proofs.YtooinlilplecpaaGreatDoor
open Go.RowKit

def noRun : Array Value := #[.slice none 0 0, .slice none 0 0, .int .i64 0, .int .i64 0]

theorem pad8_fill {args : List Int} {n : Nat} (h : args.length ≤ n) (h8 : n ≤ 8) : pad8 (fillI args n args.length) = pad8 args := by
  have hl := fillI_len args n args.length (Nat.le_refl _) h
  unfold pad8
  rw [hl]
  unfold fillI
  rw [List.take_of_length_le (Nat.le_refl _), List.append_assoc, List.replicate_append_replicate]
  congr 2
  omega

/-- Four cells stored into a box that came later. -/
theorem below_box4 {w W : World} {bx : Nat} (h : Below w.heap.size w W) (hb : w.heap.size ≤ bx) (a b c d : Value) : Below w.heap.size w ((((W.setCell ⟨bx, 0, none⟩ a).setCell ⟨bx, 1, none⟩ b).setCell ⟨bx, 2, none⟩ c).setCell ⟨bx, 3, none⟩ d) :=
  (((h.setCell (p := ⟨bx, 0, none⟩) hb _).setCell (p := ⟨bx, 1, none⟩) hb _).setCell (p := ⟨bx, 2, none⟩) hb _).setCell (p := ⟨bx, 3, none⟩) hb _

set_option maxHeartbeats 4000000 in
set_option maxRecDepth 100000 in
theorem New_any (pa : Option Addr) (pcap : Nat) (p : List FnD) (aa : Option Addr) (acap : Nat) (args : List Int) (w : World) (hp : RdP w pa p.length pcap p) (ha : Rd .i64 w aa args.length acap args) :
    Calls Tryz.prog 146 #[.agg #[.slice pa p.length pcap], .slice aa args.length acap] w fun e w' => Below w.heap.size w w' ∧
      (((chk p).1 ≠ 0 ∧ e = .returned (.tuple #[.agg noRun, .int .i64 (chk p).1])) ∨
       ((chk p).1 = 0 ∧ givenB p args = false ∧ e = .returned (.tuple #[.agg noRun, .int .i64 1])) ∨
       ((chk p).1 = 0 ∧ givenB p args = true ∧ ∃ (qa : Option Addr) (qcap : Nat) (v : Value) (w0 : World), e = .returned (.tuple #[.agg #[.slice qa p.length qcap, v, .int .i64 0, .int .i64 0], .int .i64 0]) ∧
         RdP w0 qa p.length qcap (strip p) ∧ Below w.heap.size w w0 ∧ Below w0.heap.size w0 w' ∧ w'.ownsRow w0.heap.size 248 10 v 1 (frmCells ⟨0, 0, args⟩))) := by
  have HCK := hid (fun (W : World) (hW : Below w.heap.size w W) => pCheck_any pa p.length pcap p W (hp.below hW))
  have hac := ha.hcap
  have ham := ha.hmax
  unfold maxLen at ham
  obtain ⟨wb, hwb⟩ : ∃ wb, wb = (w.alloc (Obj.cells #[.slice pa p.length pcap] 44)).alloc (Obj.cells #[.slice none 0 0, .slice none 0 0, .int .i64 0, .int .i64 0] 164) := ⟨_, rfl⟩
  have hbb : Below w.heap.size w wb := by rw [hwb]; exact ((Below.refl _ _).alloc (Nat.le_refl _) _).alloc (by simp) _
  have hbs : wb.heap.size = w.heap.size + 2 := by rw [hwb]; simp
  have k0 : wb.heap[w.heap.size]? = some (.cells #[.slice pa p.length pcap] 44 (0, 0)) := by rw [hwb]; exact heap_at1 (by simp <;> omega) (heap_new_at (by simp))
  have k1 : wb.heap[w.heap.size + 1]? = some (.cells #[.slice none 0 0, .slice none 0 0, .int .i64 0, .int .i64 0] 164 (0, 0)) := by rw [hwb]; exact heap_new_at (by simp)
  have HCW := hid (HCK.out wb hbb)
  clear HCK
  have HP := hid hp
  have HA := hid ha
  have HK0 := hid k0
  have HK1 := hid k1
  have hpl := hp.2.2.1
  have hpl1 := hp.2.1
  unfold maxLen at hpl
  clear hp ha k0 k1
  obtain ⟨pl, hpl2⟩ : ∃ v, v = p.length := ⟨_, rfl⟩
  obtain ⟨al, hal2⟩ : ∃ v, v = args.length := ⟨_, rfl⟩
  rw [← hpl2] at HP HCW hwb HK0 hpl1 ⊢
  rw [← hal2] at HA hac ⊢
  have HPL := hid hpl2
  have HAL := hid hal2
  clear hpl2 hal2
  go_enter Tryz.func146, Tryz.ntmps146
  go_wp2_with fail
  rw [← hwb]
  clear hwb
  refine HCW.out.mono ?_
  rintro e w1 ⟨rfl, hb1⟩
  have hsz1 := hb1.size
  have hbw1 := hbb.trans (hb1.mono hbb.size)
  have j0 := (hb1.block w.heap.size (by omega)).trans HK0.out
  have j1 := (hb1.block (w.heap.size + 1) (by omega)).trans HK1.out
  have r0 : w1.cell? ⟨w.heap.size, 0, none⟩ = some (.slice pa pl pcap) := by simp [World.cell?, j0]
  by_cases hc : (chk p).1 = 0
  · have HC0 := hid hc
    have hck := chk_zero hc
    have hg := good_of hck
    have hlen := hg.len
    have HG := hid hg
    rw [hck]
    have h00 : (0 : Int) ≤ 0 ∧ (0 : Int) < p.length := by omega
    have hf0 := hg.fns 0 _ (fnAt_some h00)
    have hfl := hf0.locals
    have hfp := hf0.params
    obtain ⟨pb, poff, ba, bcap, rfl, -, -, -, c2, -, -, -, -, -⟩ := HP.out.at 0 _ (fnAt_some h00)
    have c2' : w1.cell? ⟨pb, poff + 2, none⟩ = some (.int .i64 (fnAt p 0).params) := by
      have h := (hbw1.cell (World.block_lt_of_cell? w _ c2)).trans c2
      simpa using h
    have HGV := hid (runArgs_any p aa acap args w1 (by rw [← HAL.out]; exact HA.out.below hbw1 (Nat.le_refl _)))
    rw [← HAL.out] at HGV
    have HGIV : Hid (givenB p args = true → (args.length : Int) = (fnAt p 0).params) := fun h => (given_true h).1
    obtain ⟨pr, hpr⟩ : ∃ v, v = (fnAt p 0).params := ⟨_, rfl⟩
    rw [← hpr] at HGV c2' HGIV hfp
    have hpl0 : (0 : Int) < (pl : Int) := by have := HPL.out; omega
    obtain ⟨fl, hfle⟩ : ∃ v, v = (fnAt p 0).locals := ⟨_, rfl⟩
    rw [← hfle] at hfl hfp
    clear hck hc hg c2 hf0 hpr hfle h00
    cases hgv : givenB p args with
    | false =>
      rw [hgv] at HGV
      go_wp2_with fail
      refine HGV.out.mono ?_
      rintro e w2 ⟨rfl, hb2⟩
      have i1 := (hb2.block (w.heap.size + 1) (by omega)).trans j1
      have x0 : w2.cell? ⟨w.heap.size + 1, 0, none⟩ = some (.slice none 0 0) := by simp [World.cell?, i1]
      have x1 : w2.cell? ⟨w.heap.size + 1, 1, none⟩ = some (.slice none 0 0) := by simp [World.cell?, i1]
      have x2 : w2.cell? ⟨w.heap.size + 1, 2, none⟩ = some (.int .i64 0) := by simp [World.cell?, i1]
      have x3 : w2.cell? ⟨w.heap.size + 1, 3, none⟩ = some (.int .i64 0) := by simp [World.cell?, i1]
      have f0 : w2.frozen? ⟨w.heap.size + 1, 0, none⟩ = false := by simp [World.frozen?, i1]
      have f1 : w2.frozen? ⟨w.heap.size + 1, 1, none⟩ = false := by simp [World.frozen?, i1]
      have f2 : w2.frozen? ⟨w.heap.size + 1, 2, none⟩ = false := by simp [World.frozen?, i1]
      have f3 : w2.frozen? ⟨w.heap.size + 1, 3, none⟩ = false := by simp [World.frozen?, i1]
      have HBE := hid (below_box4 (bx := w.heap.size + 1) (hbw1.trans (hb2.mono hbw1.size)) (by omega) (.slice none 0 0) (.slice none 0 0) (.int .i64 0) (.int .i64 0))
      go_wp2
      exact bodyPost_ret (v := .tuple #[.agg noRun, .int .i64 1]) (by simp [results, Tryz.results146, go_sem, x0, x1, x2, x3, noRun]) rfl ⟨HBE.out, .inr (.inl ⟨HC0.out, hgv, rfl⟩)⟩
    | true =>
      rw [hgv] at HGV
      have hal8 : al ≤ 8 := by have := HGIV.out hgv; have := HAL.out; omega
      have HGT := hid hgv
      clear HGIV hgv
      go_wp2_with fail
      refine HGV.out.mono ?_
      rintro e w2 ⟨rfl, hb2⟩
      have hsz2 := hb2.size
      have hbw2 := hbw1.trans (hb2.mono hbw1.size)
      have i0 := (hb2.block w.heap.size (by omega)).trans j0
      have i1 := (hb2.block (w.heap.size + 1) (by omega)).trans j1
      have HI0 := hid i0
      have HI1 := hid i1
      clear i0 i1 j0 j1 HGV r0 c2'
      obtain ⟨wc, hwc⟩ : ∃ wc, wc = w2.alloc (Obj.cells #[.int .i64 0, .int .i64 0, .int .i64 0, .int .i64 0, .int .i64 0, .int .i64 0, .int .i64 0, .int .i64 0, .int .i64 0, .int .i64 0] 248) := ⟨_, rfl⟩
      have hbc : Below w2.heap.size w2 wc := by rw [hwc]; exact (Below.refl _ _).alloc (Nat.le_refl _) _
      have hsc : wc.heap.size = w2.heap.size + 1 := by rw [hwc]; simp
      have kc : wc.heap[w2.heap.size]? = some (.cells #[.int .i64 0, .int .i64 0, .int .i64 0, .int .i64 0, .int .i64 0, .int .i64 0, .int .i64 0, .int .i64 0, .int .i64 0, .int .i64 0] 248 (0, 0)) := by rw [hwc]; exact heap_new_at rfl
      have HROW : Hid (wc.ownsRow w2.heap.size 248 10 (.slice (some ⟨w2.heap.size, 0, none⟩) 1 1) 1 (.int .i64 0 :: .int .i64 0 :: (pad8 (args.take 0)).map (Value.int .i64))) := ⟨rfl, .inr ⟨w2.heap.size, 1, _, rfl, Nat.le_refl _, kc, Nat.le_refl _, by unfold maxLen; omega, rfl, rfl⟩⟩
      go_wp2
      rw [← hwc]
      clear hwc kc
      go_loopw [34] (fun i wr => ∃ j : Nat, i = .int .i64 j ∧ j ≤ al ∧ wr.ownsRow w2.heap.size 248 10 (.slice (some ⟨w2.heap.size, 0, none⟩) 1 1) 1 (.int .i64 0 :: .int .i64 0 :: (pad8 (args.take j)).map (Value.int .i64)) ∧ Below w2.heap.size w2 wr ∧ wr.heap.size = w2.heap.size + 1) (fun i _ => al - (intOf i).toNat)
      case atStart => exact ⟨0, rfl, by omega, HROW.out, hbc, hsc⟩
      case round =>
        clear HROW hbc hsc
        obtain ⟨j, rfl, hj, hrow, hbel, hsw⟩ := hrel
        have hbw := hbw2.trans (hbel.mono hbw2.size)
        by_cases hjn : j < al
        · obtain ⟨b1, off1, rfl, c1⟩ := (HA.out.below hbw (Nat.le_refl _)).cell j hjn
          have hpl8 : (pad8 (args.take j)).length = 8 := pad8_len (by rw [List.length_take]; omega)
          obtain ⟨y, hy⟩ : ∃ y, (pad8 (args.take j))[j]? = some y := ⟨_, List.getElem?_eq_getElem (by omega)⟩
          have q2 : wr.cell? ⟨w2.heap.size, 2 + j, none⟩ = some (.int .i64 y) := by
            rw [hrow.cellAt (2 + j) (by omega), Nat.add_comm 2 j]
            show ((pad8 (args.take j)).map (Value.int .i64))[j]? = _
            rw [List.getElem?_map, hy]; rfl
          have f2 := hrow.frozenAt (2 + j)
          have hst := (hrow.stored (2 + j) (.int .i64 (args.getD j 0))).1
          have hset : (Value.int .i64 0 :: .int .i64 0 :: (pad8 (args.take j)).map (Value.int .i64)).set (2 + j) (.int .i64 (args.getD j 0)) = .int .i64 0 :: .int .i64 0 :: (pad8 (args.take (j + 1))).map (Value.int .i64) := by
            rw [Nat.add_comm 2 j, List.set_cons_succ, List.set_cons_succ, ← List.map_set, pad8_grow (by rw [← HAL.out]; exact hjn) (by rw [← HAL.out]; exact hal8)]
          rw [hset] at hst
          have HST := hid hst
          generalize args.getD j 0 = vv at *
          have hjn' : (j : Int) < (al : Int) := by omega
          have hj8' : (j : Int) < 8 := by omega
          clear hst hset hrow hy hpl8
          go_wp2
          go_roundw
          case rel => exact ⟨j + 1, by go_num, by omega, HST.out, hbel.setCell (p := ⟨w2.heap.size, 2 + j, none⟩) (Nat.le_refl _) _, by simp [World.setCell, hsw]⟩
          case measure => simp [intOf]; omega
        · have hje : j = al := by omega
          subst hje
          have hjn' : decide ((j : Int) < (j : Int)) = false := by simp
          have htk : args.take j = args := List.take_of_length_le (by rw [HAL.out]; exact Nat.le_refl _)
          rw [htk] at hrow
          obtain ⟨m0, m1, m2, m3, m4, m5, m6, m7, hm⟩ := eight (pad8_len (l := args) (by rw [← HAL.out]; exact hal8))
          rw [hm] at hrow
          simp only [List.map_cons, List.map_nil] at hrow
          have kr0 := (hbel.block w.heap.size (by omega)).trans HI0.out
          have kr1 := (hbel.block (w.heap.size + 1) (by omega)).trans HI1.out
          have r0 : wr.cell? ⟨w.heap.size, 0, none⟩ = some (.slice (some ⟨pb, poff, none⟩) pl pcap) := by simp [World.cell?, kr0]
          have HCP := hid (Copy_any (some ⟨pb, poff, none⟩) pcap p wr (by rw [← HPL.out]; exact HP.out.below hbw) HG.out)
          rw [← HPL.out] at HCP
          have HM := hid hm
          clear hm htk
          go_wp2_with fail
          refine HCP.out.mono ?_
          rintro e w4 ⟨qa, qcap, rfl, hrq, hUq, hb4⟩
          have hs4 := hb4.size
          have hrow4 := ownsRow_below hrow hb4
          have k1 := (hb4.block (w.heap.size + 1) (by omega)).trans kr1
          have t0 : w4.cell? ⟨w2.heap.size, 0, none⟩ = some (.int .i64 0) := hrow4.cellAt 0 (by omega)
          have t1 : w4.cell? ⟨w2.heap.size, 1, none⟩ = some (.int .i64 0) := hrow4.cellAt 1 (by omega)
          have t2 : w4.cell? ⟨w2.heap.size, 2, none⟩ = some (.int .i64 m0) := hrow4.cellAt 2 (by omega)
          have t3 : w4.cell? ⟨w2.heap.size, 3, none⟩ = some (.int .i64 m1) := hrow4.cellAt 3 (by omega)
          have t4 : w4.cell? ⟨w2.heap.size, 4, none⟩ = some (.int .i64 m2) := hrow4.cellAt 4 (by omega)
          have t5 : w4.cell? ⟨w2.heap.size, 5, none⟩ = some (.int .i64 m3) := hrow4.cellAt 5 (by omega)
          have t6 : w4.cell? ⟨w2.heap.size, 6, none⟩ = some (.int .i64 m4) := hrow4.cellAt 6 (by omega)
          have t7 : w4.cell? ⟨w2.heap.size, 7, none⟩ = some (.int .i64 m5) := hrow4.cellAt 7 (by omega)
          have t8 : w4.cell? ⟨w2.heap.size, 8, none⟩ = some (.int .i64 m6) := hrow4.cellAt 8 (by omega)
          have t9 : w4.cell? ⟨w2.heap.size, 9, none⟩ = some (.int .i64 m7) := hrow4.cellAt 9 (by omega)
          have x0 : w4.cell? ⟨w.heap.size + 1, 0, none⟩ = some (.slice none 0 0) := by simp [World.cell?, k1]
          have x1 : w4.cell? ⟨w.heap.size + 1, 1, none⟩ = some (.slice none 0 0) := by simp [World.cell?, k1]
          have x2 : w4.cell? ⟨w.heap.size + 1, 2, none⟩ = some (.int .i64 0) := by simp [World.cell?, k1]
          have x3 : w4.cell? ⟨w.heap.size + 1, 3, none⟩ = some (.int .i64 0) := by simp [World.cell?, k1]
          have f0 : w4.frozen? ⟨w.heap.size + 1, 0, none⟩ = false := by simp [World.frozen?, k1]
          have f1 : w4.frozen? ⟨w.heap.size + 1, 1, none⟩ = false := by simp [World.frozen?, k1]
          have f2 : w4.frozen? ⟨w.heap.size + 1, 2, none⟩ = false := by simp [World.frozen?, k1]
          have f3 : w4.frozen? ⟨w.heap.size + 1, 3, none⟩ = false := by simp [World.frozen?, k1]
          have ltb : w2.heap.size < w4.heap.size := by omega
          have ltx : w.heap.size + 1 < w4.heap.size := by omega
          have ltx1 : w.heap.size + 1 < w4.heap.size + 1 := by omega
          have ltb1 : w2.heap.size < w4.heap.size + 1 := by omega
          obtain ⟨W0, hW0⟩ : ∃ W0, W0 = (((w4.setCell ⟨w.heap.size + 1, 0, none⟩ (.slice qa pl qcap)).setCell ⟨w.heap.size + 1, 1, none⟩ (.slice (some ⟨w4.heap.size + 1, 0, none⟩) 1 1)).setCell ⟨w.heap.size + 1, 2, none⟩ (.int .i64 0)).setCell ⟨w.heap.size + 1, 3, none⟩ (.int .i64 0) := ⟨_, rfl⟩
          have hbw4 := hbw.trans (hb4.mono hbw.size)
          have hB0 : Below w.heap.size w W0 := by rw [hW0]; exact below_box4 (bx := w.heap.size + 1) hbw4 (by omega) _ _ _ _
          have hs0 : W0.heap.size = w4.heap.size := by rw [hW0]; simp
          have hkk : Keeps (fun b => wr.heap.size ≤ b) w4 W0 := fun b hb hlt => by
            have hb' : wr.heap.size ≤ b := hb
            rw [hW0]
            iterate 4 rw [heap_setCell_other _ _ _ _ (by show b ≠ w.heap.size + 1; omega)]
          have hrp : RdP W0 qa pl qcap (strip p) := rdP_keeps hrq hUq hkk
          obtain ⟨WE, hWE⟩ : ∃ WE, WE = (W0.alloc (Obj.cells #[.slice qa pl qcap] 44)).alloc (Obj.cells #[.int .i64 0, .int .i64 0, .int .i64 m0, .int .i64 m1, .int .i64 m2, .int .i64 m3, .int .i64 m4, .int .i64 m5, .int .i64 m6, .int .i64 m7] 248) := ⟨_, rfl⟩
          have hBE : Below W0.heap.size W0 WE := by rw [hWE]; exact ((Below.refl _ _).alloc (Nat.le_refl _) _).alloc (by simp) _
          have kE : WE.heap[w4.heap.size + 1]? = some (.cells #[.int .i64 0, .int .i64 0, .int .i64 m0, .int .i64 m1, .int .i64 m2, .int .i64 m3, .int .i64 m4, .int .i64 m5, .int .i64 m6, .int .i64 m7] 248 (0, 0)) := by rw [hWE]; exact heap_new_at (by simp [hs0])
          have hRE : WE.ownsRow W0.heap.size 248 10 (.slice (some ⟨w4.heap.size + 1, 0, none⟩) 1 1) 1 (frmCells ⟨0, 0, args⟩) := by
            unfold frmCells
            dsimp only
            rw [HM.out]
            exact ⟨rfl, .inr ⟨w4.heap.size + 1, 1, _, rfl, by omega, kE, Nat.le_refl _, by unfold maxLen; omega, rfl, rfl⟩⟩
          have HE := hid (⟨hrp, hB0, hBE, hRE⟩ : RdP W0 qa pl qcap (strip p) ∧ Below w.heap.size w W0 ∧ Below W0.heap.size W0 WE ∧ WE.ownsRow W0.heap.size 248 10 (.slice (some ⟨w4.heap.size + 1, 0, none⟩) 1 1) 1 (frmCells ⟨0, 0, args⟩))
          have kx := heap_setCell_same _ (w.heap.size + 1) 3 _ _ (.int .i64 0) (heap_setCell_same _ (w.heap.size + 1) 2 _ _ (.int .i64 0) (heap_setCell_same _ (w.heap.size + 1) 1 _ _ (.slice (some ⟨w4.heap.size + 1, 0, none⟩) 1 1) (heap_setCell_same w4 (w.heap.size + 1) 0 _ _ (.slice qa pl qcap) k1)))
          rw [← hW0] at kx
          have kxE := (hBE.block (w.heap.size + 1) (by omega)).trans kx
          have y0 : WE.cell? ⟨w.heap.size + 1, 0, none⟩ = some (.slice qa pl qcap) := by simp [World.cell?, kxE]
          have y1 : WE.cell? ⟨w.heap.size + 1, 1, none⟩ = some (.slice (some ⟨w4.heap.size + 1, 0, none⟩) 1 1) := by simp [World.cell?, kxE]
          have y2 : WE.cell? ⟨w.heap.size + 1, 2, none⟩ = some (.int .i64 0) := by simp [World.cell?, kxE]
          have y3 : WE.cell? ⟨w.heap.size + 1, 3, none⟩ = some (.int .i64 0) := by simp [World.cell?, kxE]
          clear hrp hB0 hBE hRE kE hkk hrq hUq hrow hrow4 kr0 kr1 r0 k1 kx kxE
          go_wp2
          rw [← hW0, ← hWE]
          clear hW0 hWE
          obtain ⟨e1, e2, e3, e4⟩ := HE.out
          exact bodyPost_ret (v := .tuple #[.agg #[.slice qa pl qcap, .slice (some ⟨w4.heap.size + 1, 0, none⟩) 1 1, .int .i64 0, .int .i64 0], .int .i64 0]) (by simp [results, Tryz.results146, go_sem, y0, y1, y2, y3]) rfl ⟨e2.trans (e3.mono e2.size), .inr (.inr ⟨HC0.out, HGT.out, qa, qcap, _, W0, rfl, e1, e2, e3, e4⟩)⟩
  · have x0 : w1.cell? ⟨w.heap.size + 1, 0, none⟩ = some (.slice none 0 0) := by simp [World.cell?, j1]
    have x1 : w1.cell? ⟨w.heap.size + 1, 1, none⟩ = some (.slice none 0 0) := by simp [World.cell?, j1]
    have x2 : w1.cell? ⟨w.heap.size + 1, 2, none⟩ = some (.int .i64 0) := by simp [World.cell?, j1]
    have x3 : w1.cell? ⟨w.heap.size + 1, 3, none⟩ = some (.int .i64 0) := by simp [World.cell?, j1]
    have f0 : w1.frozen? ⟨w.heap.size + 1, 0, none⟩ = false := by simp [World.frozen?, j1]
    have f1 : w1.frozen? ⟨w.heap.size + 1, 1, none⟩ = false := by simp [World.frozen?, j1]
    have f2 : w1.frozen? ⟨w.heap.size + 1, 2, none⟩ = false := by simp [World.frozen?, j1]
    have f3 : w1.frozen? ⟨w.heap.size + 1, 3, none⟩ = false := by simp [World.frozen?, j1]
    obtain ⟨ck, hck⟩ : ∃ q, q = (chk p).1 := ⟨_, rfl⟩
    have HC0 := hid hc
    rw [← hck] at hc ⊢
    have HCK := hid hck
    have hc' : (ck != 0) = true := by simpa using hc
    have HBE := hid (below_box4 (bx := w.heap.size + 1) hbw1 (by omega) (.slice none 0 0) (.slice none 0 0) (.int .i64 0) (.int .i64 0))
    clear hck
    go_wp2
    exact bodyPost_ret (v := .tuple #[.agg noRun, .int .i64 ck]) (by simp [results, Tryz.results146, go_sem, x0, x1, x2, x3, noRun]) rfl ⟨HBE.out, .inl ⟨HC0.out, by rw [← HCK.out]⟩⟩
end Go.Proofs.YtooinlilplecpaaGreatDoor
namespace Go.Proofs.YtooinlilplecpaaGreatDoor
open Go.RowKit

theorem RunAt.like {X : RX} {w0 w : World} {P : List FnD} {rb : Nat} {s s' : StandD} (h : RunAt X w0 P rb w s) (h1 : s'.status = s.status) (h2 : s'.value = s.value) (h3 : s'.live.map frmCells = s.live.map frmCells) : RunAt X w0 P rb w s' := by
  obtain ⟨pa, pcap, v, k1, k2, k3, k4, k5, k6, k7⟩ := h
  have hl : s'.live.length = s.live.length := by simpa using congrArg List.length h3
  exact ⟨pa, pcap, v, by rw [h1, h2]; exact k1, k2, k3, k4, by rw [hl, h3]; exact k5, k6, k7⟩

theorem calls_like {X : RX} {w0 w : World} {P : List FnD} {rb : Nat} {f : FuncId} {args : Array Value} {s s' : StandD} (h : Calls Tryz.prog f args w fun e w' => e = .returned (.tuple #[]) ∧ RunAt X w0 P rb w' s) (he : s = s') : Calls Tryz.prog f args w fun e w' => e = .returned (.tuple #[]) ∧ RunAt X w0 P rb w' s' := he ▸ h

theorem wf8 {P : List FnD} {x : LiveD} (hg : Good P) (hx : WfLive P x) : x.locals.length ≤ 8 := by
  have h1 := hx.locals
  have h2 := (hx.fnOk hg).locals
  omega

theorem step_any (X : RX) (w0 : World) (P : List FnD) (rb : Nat) (s : StandD) (w : World) (hgd : Good P) (hw : Wf P s) (hs : s.status = 0) (hR : RunAt X w0 P rb w s) :
    Calls Tryz.prog 200 #[.pointer (some ⟨rb, 0, none⟩)] w fun e w' => e = .returned (.tuple #[]) ∧ RunAt X w0 P rb w' (nextD P s) := by
  obtain ⟨st, vl, live⟩ := s
  obtain rfl : st = 0 := hs
  obtain ⟨hne, hv0⟩ := hw.runs rfl
  obtain rfl : vl = 0 := hv0
  obtain ⟨x, hx⟩ : ∃ x, live.getLast? = some x := by
    cases h : live.getLast? with
    | none => rw [List.getLast?_eq_none_iff] at h; exact absurd h hne
    | some x => exact ⟨x, rfl⟩
  have hl := dropLast_getLast hx
  have hnext : nextD P ⟨0, 0, live⟩ = stepTop P live.dropLast x := by unfold nextD; simp [hx]
  rw [hnext]
  have hlive := hw.live
  have hlen := hw.len
  have hcal := hw.calls
  dsimp only at hlive hlen hcal
  generalize live.dropLast = ini at *
  subst hl
  have wx : WfLive P x := hlive x (by simp)
  have wi : ∀ y ∈ ini, WfLive P y := fun y hy => hlive y (by simp [hy])
  have h8 : ∀ y ∈ ini, y.locals.length ≤ 8 := fun y hy => wf8 hgd (wi y hy)
  have hl1 : ini.length + 1 ≤ 20 := by simpa using hlen
  have ok := wx.opOk hgd
  have hc := ok.code
  have hxl := wx.locals
  unfold stepTop
  by_cases h5 : (opOf P x).code = 5
  · rw [if_pos h5]
    have hxc := ok.call h5
    have hfb := hgd.fns _ _ (fnAt_some ⟨hxc.1, hxc.2.1⟩)
    have hfl := hfb.locals
    have hfp := hfb.params
    have hpa := hxc.2.2.1
    refine (step_call X w0 P rb ini x w hgd hR wx h8 hl1 h5).mono fun e w' ⟨he, hr⟩ => ⟨he, ?_⟩
    by_cases h20 : ini.length + 1 = 20
    · rw [if_pos (by simpa using h20)] at hr
      rw [if_pos h20]
      exact hr
    · rw [if_neg (by simpa using h20)] at hr
      rw [if_neg h20]
      refine hr.like rfl rfl ?_
      simp only [List.map_append, List.map_cons, List.map_nil]
      congr 2
      unfold calleeD frmCells
      dsimp only
      have hml : ((opOf P x).args.map (locOf x)).length = (opOf P x).args.length := by simp
      rw [← hml, pad8_fill (by rw [hml]; omega) (by omega)]
  · rw [if_neg h5]
    by_cases h6 : (opOf P x).code = 6
    · rw [if_pos h6]
      cases hi : ini.getLast? with
      | none =>
        rw [List.getLast?_eq_none_iff] at hi
        subst hi
        exact step_ret X w0 P rb [] x w hgd hR wx h8 (by simp) h6 (fun v => ⟨1, v, []⟩) (fun W v h => ret_done X w0 P rb ⟨0, 0, []⟩ x v W h)
      | some c =>
        have hl2 := dropLast_getLast hi
        have hcw : WfLive P c := wi c (by rw [hl2]; simp)
        dsimp only
        generalize ini.dropLast = ini2 at *
        subst hl2
        have hb : ini2.length ≤ 100 := by simp at hl1; omega
        exact step_ret X w0 P rb (ini2 ++ [c]) x w hgd hR wx h8 (by simp at hl1 ⊢; omega) h6 (fun v => ⟨0, 0, ini2 ++ [setL c (opOf P c).a v (c.next + 1)]⟩) (fun W v h => ret_back X w0 P rb 0 0 ini2 c x v W hgd h hcw (fun y hy => h8 y (by simp [hy])) hb)
    · rw [if_neg h6]
      by_cases h4 : (opOf P x).code = 4
      · rw [if_pos h4]
        exact step_jump X w0 P rb ini x w hgd hR wx h8 (by omega) h4
      · rw [if_neg h4]
        have hlt : (opOf P x).code < 4 := by omega
        by_cases h0 : (opOf P x).code = 0
        · rw [if_pos h0]
          refine step_val X w0 P rb ini x w hgd hR wx h8 (by omega) hlt _ (fun W oa ocap => ?_)
          rw [h0]
          exact result_set x _ _ _ _ oa _ ocap W (wf8 hgd wx)
        · rw [if_neg h0]
          have h3 := ok.three (by omega)
          have eb : (opOf P x).b = ((opOf P x).b.toNat : Int) := by omega
          have ec : (opOf P x).c = ((opOf P x).c.toNat : Int) := by omega
          have hres := fun (W : World) (oa : Option Addr) (ocap : Nat) => result_num x (opOf P x).code (opOf P x).a (opOf P x).line (opOf P x).b.toNat (opOf P x).c.toNat oa (opOf P x).args.length ocap W (wf8 hgd wx) (by omega) (by omega) wx.vals (by omega)
          rw [← eb, ← ec] at hres
          by_cases hz : (opOf P x).code = 3 ∧ locOf x (opOf P x).c = 0
          · rw [if_pos hz]
            refine step_zero X w0 P rb ini x w hgd hR wx h8 (by omega) hlt (fun W oa ocap => ?_)
            have h := hres W oa ocap
            rw [if_pos hz, decide_eq_true hz] at h
            exact h
          · rw [if_neg hz]
            refine step_val X w0 P rb ini x w hgd hR wx h8 (by omega) hlt _ (fun W oa ocap => ?_)
            have h := hres W oa ocap
            rw [if_neg hz, decide_eq_false hz] at h
            exact h

theorem runD_stop {P : List FnD} {s : StandD} {j : Nat} (h : (runD P s j).status ≠ 0) : ∀ n, j ≤ n → runD P s n = runD P s j
  | 0, hn => by rw [Nat.le_zero.1 hn]
  | n + 1, hn => by
    rcases Nat.lt_or_eq_of_le hn with h1 | h1
    · have ih := runD_stop h n (by omega)
      show nextD P (runD P s n) = _
      rw [ih]
      unfold nextD
      rw [if_pos h]
    · rw [h1]

/-- How many of n steps are taken. -/
def takenD (P : List FnD) (s : StandD) : Nat → Nat
  | 0 => 0
  | n + 1 => if (runD P s n).status = 0 then takenD P s n + 1 else takenD P s n

theorem takenD_stop {P : List FnD} {s : StandD} {j : Nat} (h : (runD P s j).status ≠ 0) : ∀ n, j ≤ n → takenD P s n = takenD P s j
  | 0, hn => by rw [Nat.le_zero.1 hn]
  | n + 1, hn => by
    rcases Nat.lt_or_eq_of_le hn with h1 | h1
    · have ih := takenD_stop h n (by omega)
      show (if (runD P s n).status = 0 then takenD P s n + 1 else takenD P s n) = _
      rw [if_neg (by rw [runD_stop h n (by omega)]; exact h)]
      exact ih
    · rw [h1]

theorem takenD_go {P : List FnD} {s : StandD} {j : Nat} (h : (runD P s j).status = 0) (ht : takenD P s j = j) : takenD P s (j + 1) = j + 1 := by
  show (if (runD P s j).status = 0 then takenD P s j + 1 else takenD P s j) = _
  rw [if_pos h, ht]

set_option maxHeartbeats 4000000 in
set_option maxRecDepth 100000 in
theorem Step_any (X : RX) (w0 : World) (P : List FnD) (rb : Nat) (s : StandD) (n : Nat) (w : World) (hgd : Good P) (hw : Wf P s) (hR : RunAt X w0 P rb w s) (hn : n ≤ 2000) :
    Calls Tryz.prog 147 #[.pointer (some ⟨rb, 0, none⟩), .int .i64 n] w fun e w' => e = .returned (.tuple #[.int .i64 (takenD P s n : Nat), .int .i64 0]) ∧ RunAt X w0 P rb w' (runD P s n) := by
  have HW := hid (fun j => wf_run hgd hw j)
  have HG := hid hgd
  have HR := hid hR
  clear hw hgd hR
  have hn0 : decide ((n : Int) < 0) = false := by simp
  have hn1 : decide ((2000 : Int) < (n : Int)) = false := by simp; omega
  go_enter Tryz.func147, Tryz.ntmps147
  go_wp2
  clear hn0 hn1
  go_loopw [6] (fun i wr => ∃ j : Nat, i = .int .i64 j ∧ j ≤ n ∧ takenD P s j = j ∧ RunAt X w0 P rb wr (runD P s j)) (fun i _ => n - (intOf i).toNat)
  case atStart => exact ⟨0, rfl, by omega, rfl, HR.out⟩
  case round =>
    clear HR
    obtain ⟨j, rfl, hj, htk, hr⟩ := hrel
    by_cases hjn : j < n
    · have hjn' : (j : Int) < (n : Int) := by omega
      have hwj := HW.out j
      have hlj := hwj.len
      have hrj := hwj.runs
      have hr2 := hr
      obtain ⟨pa, pcap, fv, hk, -, -, -, hown, -, -⟩ := hr2
      obtain ⟨fa, fcap, rfl⟩ : ∃ fa fcap, fv = .slice fa (runD P s j).live.length fcap := by
        rcases hown.2 with ⟨h1, h2⟩ | ⟨g, c', cur, h1, _⟩
        · exact ⟨none, 0, by rw [h1, h2]⟩
        · exact ⟨_, _, h1⟩
      have HGO := hid (goesOn_any rb fa (runD P s j).live.length fcap (runD P s j).status wr (by simp [World.cell?, hk]) (by simp [World.cell?, hk]) (by omega) (fun h => by
        have := (hrj h).1
        exact List.length_pos_iff.2 this))
      have HRJ := hid hr
      clear hk hown hr
      by_cases hst : (runD P s j).status = 0
      · rw [hst] at HGO
        have HST := hid (fun (W : World) (hW : Below wr.heap.size wr W) => step_any X w0 P rb (runD P s j) W HG.out hwj hst (HRJ.out.below hW))
        have HTK := hid (takenD_go hst htk)
        clear hwj hrj hst htk
        go_wp2_with (go_at_call 199; refine HGO.out.mono ?_; rintro e w1 ⟨rfl, hb1⟩)
        go_wp2_with fail
        refine (HST.out _ hb1).mono ?_
        rintro e w2 ⟨rfl, hr2⟩
        have HR2 := hid hr2
        clear hr2
        go_wp2
        go_roundw
        case rel => exact ⟨j + 1, by go_num, by omega, HTK.out, HR2.out⟩
        case measure => simp [intOf]; omega
      · have hd : decide ((runD P s j).status = 0) = false := by simpa using hst
        rw [hd] at HGO
        have HE := hid (runD_stop hst n (by omega))
        have HT := hid (takenD_stop hst n (by omega))
        have HTK := hid htk
        clear hwj hrj hst hd htk
        go_wp2_with (go_at_call 199; refine HGO.out.mono ?_; rintro e w1 ⟨rfl, hb1⟩)
        go_wp2
        exact bodyPost_ret (v := .tuple #[.int .i64 j, .int .i64 0]) (by simp [results, Tryz.results147, go_sem]) rfl ⟨by rw [HT.out, HTK.out], by rw [HE.out]; exact HRJ.out.below hb1⟩
    · have hje : j = n := by omega
      subst hje
      have hjn' : decide ((j : Int) < (j : Int)) = false := by simp
      have HRJ := hid hr
      have HTK := hid htk
      clear hr htk
      go_wp2
      exact bodyPost_ret (v := .tuple #[.int .i64 j, .int .i64 0]) (by simp [results, Tryz.results147, go_sem]) rfl ⟨by rw [HTK.out], HRJ.out⟩

set_option maxHeartbeats 4000000 in
set_option maxRecDepth 100000 in
theorem Step_bad (rb : Nat) (n : Int) (w : World) (hb : ¬ (0 ≤ n ∧ n ≤ 2000)) :
    Calls Tryz.prog 147 #[.pointer (some ⟨rb, 0, none⟩), .int .i64 n] w fun e w' => e = .returned (.tuple #[.int .i64 0, .int .i64 1]) ∧ w' = w := by
  by_cases h0 : n < 0
  · go_enter Tryz.func147, Tryz.ntmps147
    go_wp2
    exact bodyPost_ret (v := .tuple #[.int .i64 0, .int .i64 1]) (by simp [results, Tryz.results147, go_sem]) rfl ⟨rfl, rfl⟩
  · have h1 : (2000 : Int) < n := by omega
    go_enter Tryz.func147, Tryz.ntmps147
    go_wp2
    exact bodyPost_ret (v := .tuple #[.int .i64 0, .int .i64 1]) (by simp [results, Tryz.results147, go_sem]) rfl ⟨rfl, rfl⟩
end Go.Proofs.YtooinlilplecpaaGreatDoor
namespace Go.Proofs.YtooinlilplecpaaGreatDoor
open Go.RowKit

theorem wf8' {P : List FnD} {x : LiveD} (hg : Good P) (hx : WfLive P x) : x.locals.length ≤ 8 := by
  have h1 := hx.locals
  have h2 := (hx.fnOk hg).locals
  omega

theorem three_new_at {w : World} {n : Nat} (h : w.heap.size = n) (a b c : Value) (t : TypeId) : ∀ j u, [a, b, c][j]? = some u → (w.alloc (.cells #[a, b, c] t)).cell? ((⟨n, 0, none⟩ : Addr).add j) = some u := by subst h; exact three_new w a b c t

set_option maxHeartbeats 4000000 in
set_option maxRecDepth 100000 in
theorem State_any (X : RX) (w0 : World) (P : List FnD) (rb : Nat) (s : StandD) (w : World) (hgd : Good P) (hw : Wf P s) (hR : RunAt X w0 P rb w s) :
    Calls Tryz.prog 148 #[.pointer (some ⟨rb, 0, none⟩)] w fun e w' => ∃ a cap, e = .returned (.agg #[.int .i64 s.status, .int .i64 s.value, .slice a (toldD P s).length cap]) ∧
      w'.ownsRow w.heap.size 107 3 (.slice a (toldD P s).length cap) (toldD P s).length ((toldD P s).map frCells).flatten ∧ Below w.heap.size w w' := by
  obtain ⟨pa, pcap, fv, hk, hp0, hb, hrb, hown0, hvr, hkx⟩ := hR
  replace hkx := hid hkx
  have hp : RdP w pa P.length pcap P := hp0.below hb
  have HLV := hid hw.live
  have HP := hid hp
  have HG := hid hgd
  have hlen := hw.len
  have htd : toldD P s = s.live.reverse.map (tellD P) := rfl
  rw [htd]
  obtain ⟨st, sv, live⟩ := s
  simp only at *
  obtain ⟨nl, hnl⟩ : ∃ v, v = live.length := ⟨_, rfl⟩
  rw [← hnl] at hown0 hlen
  obtain ⟨va, vcap, rfl, hvc, hvm, hvg⟩ : ∃ va vcap, fv = .slice va nl vcap ∧ nl ≤ vcap ∧ vcap ≤ maxLen ∧ (0 < nl → ∃ g, va = some ⟨g, 0, none⟩) := by
    rcases hown0.2 with ⟨h1, h2⟩ | ⟨g, c', cur, h1, _, _, h3, h4, _⟩
    · exact ⟨none, 0, by rw [h1, h2], by omega, by unfold maxLen; omega, fun h => by omega⟩
    · exact ⟨_, c', h1, h3, h4, fun _ => ⟨g, rfl⟩⟩
  have HNL := hid hnl
  have HROW : Hid (∀ k x g, live[k]? = some x → x.locals.length ≤ 8 → va = some ⟨g, 0, none⟩ → ∀ i u, (frmCells x)[i]? = some u → w.cell? ⟨g, k * 10 + i, none⟩ = some u) := fun k x g hx h8 hva i u hu => by
    subst hva
    have hkl : k < live.length := (List.getElem?_eq_some_iff.1 hx).1
    have hi : i < 10 := by
      have := (List.getElem?_eq_some_iff.1 hu).1
      simp [frmCells, pad8_len h8] at this; omega
    have hall : ∀ c ∈ live.map frmCells, c.length = 10 := fun c hc => by
      obtain ⟨y, hy, rfl⟩ := List.mem_map.1 hc
      simp [frmCells, pad8_len (wf8' HG.out (HLV.out y hy))]
    rw [hown0.cellAt (k * 10 + i) (by omega), flatten_get 10 _ k i hall (by simpa using hkl) hi]
    simp only [List.getD, List.getElem?_map, hx, Option.map_some, Option.getD_some]
    exact hu
  have hpc1 := hp.2.1
  have hpc2 := hp.2.2.1
  unfold maxLen at hpc2 hvm
  obtain ⟨pl, hpl⟩ : ∃ v, v = P.length := ⟨_, rfl⟩
  rw [← hpl] at HP hpc1 hk
  have HPL := hid hpl
  obtain ⟨fr, hfr⟩ : ∃ v, v = live.reverse.map (tellD P) := ⟨_, rfl⟩
  rw [← hfr]
  have hfl : fr.length = nl := by rw [hfr, HNL.out]; simp
  have HGET : Hid (∀ j x, j < nl → live[nl - 1 - j]? = some x → fr[j]? = some (tellD P x)) := fun j x hj hx => by
    rw [hfr, List.getElem?_map, List.getElem?_reverse (by rw [← HNL.out]; exact hj), ← HNL.out, hx]; rfl
  have HFL := hid hfl
  rw [hfl]
  have r2 : w.cell? ⟨rb, 2, none⟩ = some (.int .i64 st) := by simp [World.cell?, hk]
  have r3 : w.cell? ⟨rb, 3, none⟩ = some (.int .i64 sv) := by simp [World.cell?, hk]
  have r1 : w.cell? ⟨rb, 1, none⟩ = some (.slice va nl vcap) := by simp [World.cell?, hk]
  have lt0 : rb < w.heap.size := World.block_lt_of_cell? w _ r1
  have lt1 : rb < w.heap.size + 1 := by omega
  have lt2 : rb < w.heap.size + 1 + 1 := by omega
  obtain ⟨wb, hwb⟩ : ∃ wb, wb = ((w.alloc (Obj.cells #[.int .i64 0, .int .i64 0, .slice none 0 0] 72)).alloc (Obj.cells #[.int .i64 st, .int .i64 sv, .slice none 0 0] 72)).drew := ⟨_, rfl⟩
  have hbb : Below w.heap.size w wb := by rw [hwb]; exact (((Below.refl _ _).alloc (Nat.le_refl _) _).alloc (by simp) _).drew
  have hbs : wb.heap.size = w.heap.size + 2 := by rw [hwb]; show (World.alloc (World.alloc _ _) _).heap.size = _; simp
  have k2b : wb.heap[w.heap.size]? = some (.cells #[.int .i64 0, .int .i64 0, .slice none 0 0] 72 (0, 0)) := by rw [hwb]; exact heap_at1 (by simp) (heap_new_at rfl)
  have k3b : wb.heap[w.heap.size + 1]? = some (.cells #[.int .i64 st, .int .i64 sv, .slice none 0 0] 72 (0, 0)) := by rw [hwb]; exact heap_new_at (by simp)
  have r1b : wb.cell? ⟨rb, 1, none⟩ = some (.slice va nl vcap) := (hbb.cell (p := ⟨rb, 1, none⟩) lt0).trans r1
  have hwr : IntKind.i64.wrap ((nl : Int) - 1) = (nl : Int) - 1 := by rw [IntKind.wrap_i64]; omega
  have HK := hid hk
  have HOP := hid (fun (x : LiveD) (hx : WfLive P x) (W : World) (hW : Below w.heap.size w W) => op_any rb P pa pcap x W ((hW.cell (p := ⟨rb, 0, none⟩) lt0).trans (by rw [← HPL.out]; simp [World.cell?, hk])) (by rw [← HPL.out]; exact HP.out.below hW) hx (wf8' HG.out hx))
  clear hnl hpl hfr hfl htd hown0 hp hp0 hw hgd hk hb hvr
  go_enter Tryz.func148, Tryz.ntmps148
  go_wp2
  go_region
  rw [← hwb]
  clear hwb
  go_wp2
  clear r1 r2 r3 r1b
  have HK2 := hid k2b
  have HK3 := hid k3b
  clear k2b k3b
  go_loopw [4] (fun i wr => ∃ (j : Nat) (lv : Value), i = .int .i64 ((nl : Int) - 1 - j) ∧ j ≤ nl ∧ wr.heap[w.heap.size]? = some (.cells #[.int .i64 0, .int .i64 0, .slice none 0 0] 72 (0, 0)) ∧ wr.heap[w.heap.size + 1]? = some (.cells #[.int .i64 st, .int .i64 sv, lv] 72 (0, 0)) ∧ wr.ownsRow wb.heap.size 107 3 lv j ((fr.take j).map frCells).flatten ∧ Below w.heap.size w wr ∧ wb.heap.size ≤ wr.heap.size) (fun i _ => (intOf i + 1).toNat)
  case atStart => exact ⟨0, .slice none 0 0, by simp, by omega, HK2.out, HK3.out, ⟨rfl, .inl ⟨rfl, rfl⟩⟩, hbb, Nat.le_refl _⟩
  case round =>
    clear HK2 HK3 hwr
    obtain ⟨j, lv, rfl, hj, k2, k3, hown, hbel, hsz⟩ := hrel
    have hlv : ∀ k, lv.ownBlock = some k → wb.heap.size ≤ k := fun k hk => (hown.lt k hk).1
    have hlvs : lv.ownBlock ≠ some (w.heap.size + 1) := fun e => by have := hlv _ e; omega
    have hlv0 : lv.ownBlock ≠ some w.heap.size := fun e => by have := hlv _ e; omega
    by_cases hjn : j < nl
    · obtain ⟨k, hk⟩ : ∃ k, k = nl - 1 - j := ⟨_, rfl⟩
      have hki : (nl : Int) - 1 - j = (k : Int) := by omega
      rw [hki]
      have hkn : (k : Int) < (nl : Int) := by omega
      have hk0 : (0 : Int) ≤ (k : Int) := by omega
      obtain ⟨x, hx⟩ : ∃ x, live[k]? = some x := ⟨_, List.getElem?_eq_getElem (by rw [← HNL.out]; omega)⟩
      have hfx := HGET.out j x hjn (by rw [← hk]; exact hx)
      have hwx := HLV.out x (List.mem_of_getElem? hx)
      have hx8 := wf8' HG.out hwx
      obtain ⟨g, rfl⟩ := hvg (by omega)
      have hcell := HROW.out k x g hx hx8 rfl
      obtain ⟨l0, l1, l2, l3, l4, l5, l6, l7, hpad⟩ := frm_array x hx8
      obtain ⟨x1, hx1⟩ : ∃ v, v = x.next := ⟨_, rfl⟩
      obtain ⟨fN, hfN⟩ : ∃ n : Nat, x.fn = n := ⟨x.fn.toNat, by have := hwx.fn; omega⟩
      have hfc : frmCells x = [.int .i64 fN, .int .i64 x1, .int .i64 l0, .int .i64 l1, .int .i64 l2, .int .i64 l3, .int .i64 l4, .int .i64 l5, .int .i64 l6, .int .i64 l7] := by unfold frmCells; rw [hpad, hx1, hfN]; rfl
      rw [hfc] at hcell
      have up : ∀ (q : Addr) (u : Value), w.cell? q = some u → wr.cell? q = some u := fun q u h => (hbel.cell (World.block_lt_of_cell? w _ h)).trans h
      have t0 : wr.cell? ⟨g, k * 10, none⟩ = some (.int .i64 fN) := up _ _ (hcell 0 _ rfl)
      have t1 : wr.cell? ⟨g, k * 10 + 1, none⟩ = some (.int .i64 x1) := up _ _ (hcell 1 _ rfl)
      have t2 : wr.cell? ⟨g, k * 10 + 2, none⟩ = some (.int .i64 l0) := up _ _ (hcell 2 _ rfl)
      have t3 : wr.cell? ⟨g, k * 10 + 3, none⟩ = some (.int .i64 l1) := up _ _ (hcell 3 _ rfl)
      have t4 : wr.cell? ⟨g, k * 10 + 4, none⟩ = some (.int .i64 l2) := up _ _ (hcell 4 _ rfl)
      have t5 : wr.cell? ⟨g, k * 10 + 5, none⟩ = some (.int .i64 l3) := up _ _ (hcell 5 _ rfl)
      have t6 : wr.cell? ⟨g, k * 10 + 6, none⟩ = some (.int .i64 l4) := up _ _ (hcell 6 _ rfl)
      have t7 : wr.cell? ⟨g, k * 10 + 7, none⟩ = some (.int .i64 l5) := up _ _ (hcell 7 _ rfl)
      have t8 : wr.cell? ⟨g, k * 10 + 8, none⟩ = some (.int .i64 l6) := up _ _ (hcell 8 _ rfl)
      have t9 : wr.cell? ⟨g, k * 10 + 9, none⟩ = some (.int .i64 l7) := up _ _ (hcell 9 _ rfl)
      obtain ⟨pb, poff, ba, bcap, rfl, -, d0, d1, d2, d3, d4, -, -, -⟩ := HP.out.at x.fn.toNat _ (fnOf_some hwx)
      replace d0 := up _ _ d0
      replace d1 := up _ _ d1
      replace d2 := up _ _ d2
      replace d3 := up _ _ d3
      replace d4 := up _ _ d4
      have hfp : fN < pl := by have := HPL.out; have := hwx.fn; omega
      rw [hfN] at d0 d1 d2 d3 d4
      simp only [Int.toNat_natCast] at d0 d1 d2 d3 d4
      have htl : frCells (tellD P x) = [.string (fnOf P x).name, .string (fnOf P x).file, .int .i64 (opOf P x).line] := rfl
      have hfl2 : ((fr.take j).map frCells).flatten ++ [.string (fnOf P x).name, .string (fnOf P x).file, .int .i64 (opOf P x).line] = ((fr.take (j + 1)).map frCells).flatten := by
        obtain ⟨hjf, he⟩ := List.getElem?_eq_some_iff.1 hfx
        rw [List.take_succ_eq_append_getElem hjf, he, List.map_append, List.flatten_append]
        simp [htl]
      have HF2 := hid hfl2
      have HOX := hid (HOP.out x hwx)
      rw [hfc] at HOX
      have r0r : wr.cell? ⟨rb, 0, none⟩ = some (.slice (some ⟨pb, poff, none⟩) pl pcap) := up _ _ (by simp [World.cell?, HK.out])
      have r1r : wr.cell? ⟨rb, 1, none⟩ = some (.slice (some ⟨g, 0, none⟩) nl vcap) := up _ _ (by simp [World.cell?, HK.out])
      clear hfl2 htl hcell up hwx hx hfx hfN hk hfc hpad hx1
      generalize (fnOf P x).name = nm at *
      generalize (fnOf P x).file = fl at *
      generalize (fnOf P x).params = fp at *
      generalize (fnOf P x).locals = fo at *
      generalize (fnOf P x).body.length = bl at *
      generalize opOf P x = o at *
      obtain ⟨oc, ol, oA, ob, od, oargs⟩ := o
      dsimp only at *
      obtain ⟨na, hna⟩ : ∃ v, v = oargs.length := ⟨_, rfl⟩
      rw [← hna] at HOX
      clear hna
      have lt3 := World.block_lt_of_cell? wr _ t0
      have lt4 := World.block_lt_of_cell? wr _ d0
      have lt5 := World.block_lt_of_cell? wr _ r0r
      simp only at lt3 lt4 lt5
      have lt4a : pb < wr.heap.size + 1 := by omega
      have lt4b : pb < wr.heap.size + 1 + 1 := by omega
      have lt5a : rb < wr.heap.size + 1 := by omega
      have lt5b : rb < wr.heap.size + 1 + 1 := by omega
      obtain ⟨w2, hw2⟩ : ∃ w2, w2 = ((wr.alloc (Obj.cells #[.int .i64 fN, .int .i64 x1, .int .i64 l0, .int .i64 l1, .int .i64 l2, .int .i64 l3, .int .i64 l4, .int .i64 l5, .int .i64 l6, .int .i64 l7] 248)).alloc (Obj.cells #[.string nm, .string fl, .int .i64 fp, .int .i64 fo, .slice ba bl bcap] 122)).drew := ⟨_, rfl⟩
      have hb2 : Below wr.heap.size wr w2 := by rw [hw2]; exact (((Below.refl _ _).alloc (Nat.le_refl _) _).alloc (by simp) _).drew
      have hs2 : w2.heap.size = wr.heap.size + 2 := by rw [hw2]; show (World.alloc (World.alloc _ _) _).heap.size = _; simp
      have m0 : w2.heap[wr.heap.size]? = some (.cells #[.int .i64 fN, .int .i64 x1, .int .i64 l0, .int .i64 l1, .int .i64 l2, .int .i64 l3, .int .i64 l4, .int .i64 l5, .int .i64 l6, .int .i64 l7] 248 (0, 0)) := by rw [hw2]; exact heap_at1 (by simp) (heap_new_at rfl)
      have m1 : w2.heap[wr.heap.size + 1]? = some (.cells #[.string nm, .string fl, .int .i64 fp, .int .i64 fo, .slice ba bl bcap] 122 (0, 0)) := by rw [hw2]; exact heap_new_at (by simp)
      go_wp2
      go_region
      rw [← hw2]
      clear hw2 t0 t1 t2 t3 t4 t5 t6 t7 t8 t9 d0 d1 d2 d3 d4 r0r r1r
      have q0 : w2.cell? ⟨wr.heap.size, 0, none⟩ = some (.int .i64 fN) := by simp [World.cell?, m0]
      have q1 : w2.cell? ⟨wr.heap.size, 1, none⟩ = some (.int .i64 x1) := by simp [World.cell?, m0]
      have q2 : w2.cell? ⟨wr.heap.size, 2, none⟩ = some (.int .i64 l0) := by simp [World.cell?, m0]
      have q3 : w2.cell? ⟨wr.heap.size, 3, none⟩ = some (.int .i64 l1) := by simp [World.cell?, m0]
      have q4 : w2.cell? ⟨wr.heap.size, 4, none⟩ = some (.int .i64 l2) := by simp [World.cell?, m0]
      have q5 : w2.cell? ⟨wr.heap.size, 5, none⟩ = some (.int .i64 l3) := by simp [World.cell?, m0]
      have q6 : w2.cell? ⟨wr.heap.size, 6, none⟩ = some (.int .i64 l4) := by simp [World.cell?, m0]
      have q7 : w2.cell? ⟨wr.heap.size, 7, none⟩ = some (.int .i64 l5) := by simp [World.cell?, m0]
      have q8 : w2.cell? ⟨wr.heap.size, 8, none⟩ = some (.int .i64 l6) := by simp [World.cell?, m0]
      have q9 : w2.cell? ⟨wr.heap.size, 9, none⟩ = some (.int .i64 l7) := by simp [World.cell?, m0]
      have hbw2 := hbel.trans (hb2.mono hbel.size)
      have hwsz := hbel.size
      have n3 := (hb2.block (w.heap.size + 1) (by omega)).trans k3
      have n2 := (hb2.block w.heap.size (by omega)).trans k2
      have hown2 := ownsRow_below hown hb2
      have HX2 := hid (HOX.out w2 hbw2)
      clear m0 k2 k3 HOX hown
      go_wp2_with fail
      refine HX2.out.mono ?_
      clear HX2 q0 q1 q2 q3 q4 q5 q6 q7 q8 q9
      rintro e w3 ⟨oa, ocap, rfl, hro, hb3⟩
      have hs3 := hb3.size
      have p3 := (hb3.block (w.heap.size + 1) (by omega)).trans n3
      have p2 := (hb3.block w.heap.size (by omega)).trans n2
      have p1 := (hb3.block (wr.heap.size + 1) (by omega)).trans m1
      have hown3 := ownsRow_below hown2 hb3
      have hbw3 := hbw2.trans (hb3.mono hbw2.size)
      clear hro n3 n2 m1 hown2 hb2
      have y0 : w3.cell? ⟨wr.heap.size + 1, 0, none⟩ = some (.string nm) := by simp [World.cell?, p1]
      have y1 : w3.cell? ⟨wr.heap.size + 1, 1, none⟩ = some (.string fl) := by simp [World.cell?, p1]
      have y2 : w3.cell? ⟨w.heap.size + 1, 2, none⟩ = some lv := by simp [World.cell?, p3]
      have lt6 : wr.heap.size + 1 < w3.heap.size := by omega
      have lt7 : w.heap.size + 1 < w3.heap.size := by omega
      have lt7a : w.heap.size + 1 < w3.heap.size + 1 := by omega
      have lt6a : wr.heap.size + 1 < w3.heap.size + 1 := by omega
      obtain ⟨i0, hi, hz0, hz1, hz2⟩ := info_parts Tryz.infoFrame
      have hszb : wb.heap.size ≤ w3.heap.size := by omega
      have HOWX := hid hown3
      have HP2 := hid p2
      have HP3 := hid p3
      clear p1 p2 p3 hown3
      go_wp2_with (at_builtin; refine wpList_append_lies _ rfl (.tmp 46) (.tmp 54) 38 rfl wb.heap.size 107 i0 (.agg #[.string ⟨#[]⟩, .string ⟨#[]⟩, .int .i64 0]) 3 40 Tryz.underlying38 hi hz0 hz1 hz2 rfl (by decide) _ _ _ rfl ((HOWX.out.alloc _).alloc _) ⟨w3.heap.size + 1, 0, none⟩ 1 1 [.string nm, .string fl, .int .i64 ol] rfl rfl (three_new_at (by simp) _ _ _ _) (three_one_sf _ _ _) (by decide) (by unfold maxLen; omega) (by omega) (by simp; omega) _ rfl ?_)
      intro g' cap' w5 hown5 hgrow5 hat5 hlt5'
      have hold : ∀ b, b < w3.heap.size → lv.ownBlock ≠ some b → w5.heap[b]? = w3.heap[b]? := fun b hb hne => (hgrow5.block b (by simp; omega) (fun e => hne e.symm)).trans ((heap_alloc_old _ _ (by simp; omega)).trans (heap_alloc_old _ _ hb))
      have p3 := (hold (w.heap.size + 1) (by omega) hlvs).trans HP3.out
      have p2 := (hold w.heap.size (by omega) hlv0).trans HP2.out
      have hb5 : Below w.heap.size w w5 := ((hbw3.alloc (by omega) _).alloc (by simp; omega) _).grown hgrow5 (by simp; omega) (fun k hk => by have := hlv k hk; omega)
      have hs5 : wb.heap.size ≤ w5.heap.size := by
        have := hgrow5.size
        simp at this
        omega
      rw [← hbs, ← List.map_take, HF2.out] at hown5
      have hg'b : wb.heap.size ≤ g' := (hown5.lt g' rfl).1
      have z2 : w5.cell? ⟨w.heap.size + 1, 2, none⟩ = some lv := by simp [World.cell?, p3]
      have fz2 : w5.frozen? ⟨w.heap.size + 1, 2, none⟩ = false := by simp [World.frozen?, p3]
      have HE1 := hid (heap_setCell_same w5 (w.heap.size + 1) 2 _ _ (.slice (some ⟨g', 0, none⟩) (j + 1) cap') p3)
      have HE2 := hid ((heap_setCell_other w5 ⟨w.heap.size + 1, 2, none⟩ w.heap.size (.slice (some ⟨g', 0, none⟩) (j + 1) cap') (by show w.heap.size ≠ w.heap.size + 1; omega)).trans p2)
      have HE3 : Hid ((w5.setCell ⟨w.heap.size + 1, 2, none⟩ (.slice (some ⟨g', 0, none⟩) (j + 1) cap')).ownsRow wb.heap.size 107 3 (.slice (some ⟨g', 0, none⟩) (j + 1) cap') (j + 1) ((fr.take (j + 1)).map frCells).flatten) := ownsRow_setCell_other hown5 (by simp [Value.ownBlock]; omega) _
      have HE4 := hid (hb5.setCell (p := ⟨w.heap.size + 1, 2, none⟩) (Nat.le_succ _) (.slice (some ⟨g', 0, none⟩) (j + 1) cap'))
      clear hown5 hgrow5 hat5 hlt5' hold p2 p3 HP2 HP3 HOWX y0 y1 y2 hb5 hbw3 hb3 hbw2 hbel
      go_wp2
      go_roundw
      case rel => exact ⟨j + 1, .slice (some ⟨g', 0, none⟩) (j + 1) cap', by first | (rw [← hki]; congr 1; omega) | (congr 1; omega), by omega, HE2.out, HE1.out, HE3.out, HE4.out, by simp; exact hs5⟩
      case measure => simp [intOf] <;> omega
    · have hje : j = nl := by omega
      subst hje
      have hneg : ((j : Int) - 1 - j) = -1 := by omega
      rw [hneg]
      have htk : fr.take j = fr := List.take_of_length_le (by rw [HFL.out]; exact Nat.le_refl _)
      rw [htk] at hown
      obtain ⟨la, lcap, rfl⟩ : ∃ la lcap, lv = .slice la j lcap := by
        rcases hown.2 with ⟨h1, h2⟩ | ⟨g, c', cur, h1, _⟩
        · exact ⟨none, 0, by rw [h1, h2]⟩
        · exact ⟨_, _, h1⟩
      have z0 : wr.cell? ⟨w.heap.size + 1, 0, none⟩ = some (.int .i64 st) := by simp [World.cell?, k3]
      have z1 : wr.cell? ⟨w.heap.size + 1, 1, none⟩ = some (.int .i64 sv) := by simp [World.cell?, k3]
      have z2 : wr.cell? ⟨w.heap.size + 1, 2, none⟩ = some (.slice la j lcap) := by simp [World.cell?, k3]
      have y0 : wr.cell? ⟨w.heap.size, 0, none⟩ = some (.int .i64 0) := by simp [World.cell?, k2]
      have y1 : wr.cell? ⟨w.heap.size, 1, none⟩ = some (.int .i64 0) := by simp [World.cell?, k2]
      have y2 : wr.cell? ⟨w.heap.size, 2, none⟩ = some (.slice none 0 0) := by simp [World.cell?, k2]
      have f0 : wr.frozen? ⟨w.heap.size, 0, none⟩ = false := by simp [World.frozen?, k2]
      have f1 : wr.frozen? ⟨w.heap.size, 1, none⟩ = false := by simp [World.frozen?, k2]
      have f2 : wr.frozen? ⟨w.heap.size, 2, none⟩ = false := by simp [World.frozen?, k2]
      have HBE := hid (below_boxed (bx := w.heap.size) hbel (Nat.le_refl _) (.int .i64 st) (.int .i64 sv) (.slice la j lcap))
      have h3 := ownsRow_setCell_other (ownsRow_setCell_other (ownsRow_setCell_other hown (a := ⟨w.heap.size, 0, none⟩) hlv0 (.int .i64 st)) (a := ⟨w.heap.size, 1, none⟩) hlv0 (.int .i64 sv)) (a := ⟨w.heap.size, 2, none⟩) hlv0 (.slice la j lcap)
      have HOW := hid (owns_lower h3 (base' := w.heap.size) (by omega))
      clear hown htk h3 k2 k3
      go_wp2
      exact bodyPost_ret (v := .agg #[.int .i64 st, .int .i64 sv, .slice la j lcap]) (by simp [results, Tryz.results148, go_sem, y0, y1, y2]) rfl ⟨la, lcap, rfl, HOW.out, HBE.out⟩
end Go.Proofs.YtooinlilplecpaaGreatDoor
namespace Go.Proofs.YtooinlilplecpaaGreatDoor
open Go.RowKit

theorem strip_len (p : List FnD) : (strip p).length = p.length := by unfold strip; simp

/-- What is asked of run.Behind, and of unfold.Run. -/
def Answers (f : FuncId) : Prop := ∀ (pa : Option Addr) (pcap : Nat) (p : List FnD) (aa : Option Addr) (acap : Nat) (args : List Int) (n : Int) (w : World), RdP w pa p.length pcap p → Rd .i64 w aa args.length acap args → R64 n →
  Calls Tryz.prog f #[.agg #[.slice pa p.length pcap], .slice aa args.length acap, .int .i64 n] w fun e w' =>
    ∃ a cap, e = .returned (.tuple #[.agg #[.int .i64 (runS p args n).status, .int .i64 (runS p args n).value, .slice a (toldD p (runS p args n)).length cap], .int .i64 (runE p args n)]) ∧
      w'.ownsRow w.heap.size 107 3 (.slice a (toldD p (runS p args n)).length cap) (toldD p (runS p args n)).length ((toldD p (runS p args n)).map frCells).flatten ∧ Below w.heap.size w w'

set_option maxHeartbeats 4000000 in
set_option maxRecDepth 100000 in
theorem Behind_any : Answers 98 := by
  intro pa pcap p aa acap args n w hp ha hn
  have HNW := hid (fun (W : World) (hW : Below w.heap.size w W) => New_any pa pcap p aa acap args W (hp.below hW) (ha.below hW (Nat.le_refl _)))
  obtain ⟨hn1, hn2⟩ := hn
  obtain ⟨wb, hwb⟩ : ∃ wb, wb = (w.alloc (Obj.cells #[.slice pa p.length pcap] 44)).alloc (Obj.cells #[.int .i64 0, .int .i64 0, .slice none 0 0] 72) := ⟨_, rfl⟩
  have hbb : Below w.heap.size w wb := by rw [hwb]; exact ((Below.refl _ _).alloc (Nat.le_refl _) _).alloc (by simp) _
  have hbs : wb.heap.size = w.heap.size + 2 := by rw [hwb]; simp
  have k1 : wb.heap[w.heap.size + 1]? = some (.cells #[.int .i64 0, .int .i64 0, .slice none 0 0] 72 (0, 0)) := by rw [hwb]; exact heap_new_at (by simp)
  have HNB := hid (HNW.out wb hbb)
  have hE : runE p args n = if (chk p).1 ≠ 0 then (chk p).1 else if givenB p args = true ∧ 0 ≤ n ∧ n ≤ 2000 then 0 else 1 := rfl
  have hS : runS p args n = if runE p args n = 0 then runD p (begunD p args) n.toNat else ⟨0, 0, []⟩ := rfl
  obtain ⟨E, hE2⟩ : ∃ E, E = runE p args n := ⟨_, rfl⟩
  obtain ⟨R, hS2⟩ : ∃ R, R = runS p args n := ⟨_, rfl⟩
  rw [← hE2, ← hS2]
  rw [← hE2] at hE hS
  rw [← hS2] at hS
  clear hE2 hS2 HNW hp ha
  have HE := hid hE
  have HS := hid hS
  have HK1 := hid k1
  clear hE hS k1
  obtain ⟨pl, hpl2⟩ : ∃ v, v = p.length := ⟨_, rfl⟩
  obtain ⟨al, hal2⟩ : ∃ v, v = args.length := ⟨_, rfl⟩
  rw [← hpl2] at HNB hwb ⊢
  rw [← hal2] at HNB ⊢
  have HPL := hid hpl2
  have HAL := hid hal2
  clear hpl2 hal2
  go_enter Tryz.func98, Tryz.ntmps98
  go_wp2_with fail
  rw [← hwb]
  clear hwb
  refine HNB.out.mono ?_
  clear HNB
  rintro e w1 ⟨hb1, hcase⟩
  have hs1 := hb1.size
  have hbw1 := hbb.trans (hb1.mono hbb.size)
  have j1 := (hb1.block (w.heap.size + 1) (by omega)).trans HK1.out
  have x0 : w1.cell? ⟨w.heap.size + 1, 0, none⟩ = some (.int .i64 0) := by simp [World.cell?, j1]
  have x1 : w1.cell? ⟨w.heap.size + 1, 1, none⟩ = some (.int .i64 0) := by simp [World.cell?, j1]
  have x2 : w1.cell? ⟨w.heap.size + 1, 2, none⟩ = some (.slice none 0 0) := by simp [World.cell?, j1]
  have f0 : w1.frozen? ⟨w.heap.size + 1, 0, none⟩ = false := by simp [World.frozen?, j1]
  have f1 : w1.frozen? ⟨w.heap.size + 1, 1, none⟩ = false := by simp [World.frozen?, j1]
  have f2 : w1.frozen? ⟨w.heap.size + 1, 2, none⟩ = false := by simp [World.frozen?, j1]
  have lt1 : w.heap.size + 1 < w1.heap.size := by omega
  have hsw := hbw1.size
  rcases hcase with ⟨hc, rfl⟩ | ⟨hc, hgv, rfl⟩ | ⟨hc, hgv, qa, qcap, v, w0, rfl, hrp, hbw0, hb01, hrow⟩
  · have hE1 : E = (chk p).1 := by rw [HE.out, if_pos hc]
    have hS1 : R = ⟨0, 0, []⟩ := by rw [HS.out, if_neg (by rw [hE1]; exact hc)]
    rw [← hE1] at hc ⊢
    have hc' : (E != 0) = true := by simpa using hc
    subst hS1
    simp only [noRun]
    have HBE := hid (fun (A : Obj) => (below_boxed (bx := w.heap.size + 1) hbw1 (by omega) (.int .i64 0) (.int .i64 0) (.slice none 0 0)).alloc (by simp; omega) A)
    clear hE1 HE HS j1
    go_wp2
    exact bodyPost_ret (v := .tuple #[.agg #[.int .i64 0, .int .i64 0, .slice none 0 0], .int .i64 E]) (by simp [results, Tryz.results98, go_sem, x0, x1, x2, lt1]) rfl ⟨none, 0, rfl, World.ownsRow_nil _ _ _ _, HBE.out _⟩
  · have hE1 : E = 1 := by rw [HE.out, if_neg (by simpa using hc), if_neg (fun h => by rw [hgv] at h; cases h.1)]
    have hS1 : R = ⟨0, 0, []⟩ := by rw [HS.out, if_neg (by rw [hE1]; decide)]
    subst hS1
    subst hE1
    simp only [noRun]
    have HBE := hid (fun (A : Obj) => (below_boxed (bx := w.heap.size + 1) hbw1 (by omega) (.int .i64 0) (.int .i64 0) (.slice none 0 0)).alloc (by simp; omega) A)
    clear HE HS j1
    go_wp2
    exact bodyPost_ret (v := .tuple #[.agg #[.int .i64 0, .int .i64 0, .slice none 0 0], .int .i64 1]) (by simp [results, Tryz.results98, go_sem, x0, x1, x2, lt1]) rfl ⟨none, 0, rfl, World.ownsRow_nil _ _ _ _, HBE.out _⟩
  · obtain ⟨va, vc, rfl⟩ : ∃ va vc, v = .slice va 1 vc := by
      rcases hrow.2 with ⟨h1, h2⟩ | ⟨g, c', cur, h1, _⟩
      · omega
      · exact ⟨_, _, h1⟩
    have hg := good_of (chk_zero hc)
    have hgt := given_true hgv
    have hf0 := hg.fns 0 _ (fnAt_some (p := p) (n := 0) (by have := hg.len; omega))
    obtain ⟨w2, hw2⟩ : ∃ w2, w2 = w1.alloc (Obj.cells #[.slice qa pl qcap, .slice va 1 vc, .int .i64 0, .int .i64 0] 164) := ⟨_, rfl⟩
    have hb2 : Below w1.heap.size w1 w2 := by rw [hw2]; exact (Below.refl _ _).alloc (Nat.le_refl _) _
    have hs2 : w2.heap.size = w1.heap.size + 1 := by rw [hw2]; simp
    have hs01 := hb01.size
    have hR : RunAt ⟨164, [], fun _ => none⟩ w0 (strip p) w1.heap.size w2 (begunD (strip p) args) := by
      rw [begunD_strip]
      have hfl := hf0.locals
      have hfp := hf0.params
      have hfm : ((begunD p args).live.map frmCells).flatten = frmCells ⟨0, 0, args⟩ := by
        show (([(⟨0, 0, fillI args (fnAt p 0).locals.toNat args.length⟩ : LiveD)]).map frmCells).flatten = _
        simp only [List.map_cons, List.map_nil, List.flatten_cons, List.flatten_nil, List.append_nil]
        unfold frmCells
        dsimp only
        rw [pad8_fill (by have := hgt.1; omega) (by omega)]
      refine ⟨qa, qcap, .slice va 1 vc, ?_, ?_, hb01.trans (hb2.mono hs01), hs01, ?_, fun e => ?_, fun _ _ h => by cases h⟩
      · rw [hw2, strip_len, ← HPL.out]
        exact heap_new_at rfl
      · rw [strip_len, ← HPL.out]; exact hrp
      · rw [hfm]
        exact ownsRow_below hrow hb2
      · have := (hrow.lt _ e).2
        omega
    by_cases hnn : 0 ≤ n ∧ n ≤ 2000
    · have hE1 : E = 0 := by rw [HE.out, if_neg (by simpa using hc), if_pos ⟨hgv, hnn⟩]
      have hS1 : R = runD p (begunD p args) n.toNat := by rw [HS.out, if_pos hE1]
      obtain ⟨nN, rfl⟩ : ∃ nN : Nat, n = (nN : Int) := ⟨n.toNat, by omega⟩
      have hS2 : R = runD (strip p) (begunD (strip p) args) nN := by rw [hS1, runD_strip, begunD_strip]; simp
      have hT : toldD p R = toldD (strip p) R := (toldD_strip p R).symm
      have HT := hid hT
      have hgs := good_strip hg
      have hwfs : Wf (strip p) (begunD (strip p) args) := wf_begun hgs (by rw [fnAt_strip]; exact hgt.1) hgt.2
      have HST := hid (Step_any _ w0 (strip p) w1.heap.size (begunD (strip p) args) nN w2 hgs hwfs hR (by omega))
      have HWR := hid (wf_run hgs hwfs nN)
      rw [← hS2] at HST HWR
      have HGS := hid hgs
      subst hE1
      have h1' : (nN : Int) ≤ 2000 := hnn.2
      clear hS1 hS2 hT hgs hwfs hR HE HS hgt hf0 hrow hrp hc hgv hg
      go_wp2_with fail
      rw [← hw2]
      refine HST.out.mono ?_
      clear HST hw2 x0 x1 x2 f0 f1 f2
      rintro e w3 ⟨rfl, hr3⟩
      have hb03 : Below w0.heap.size w0 w3 := by
        obtain ⟨_, _, _, _, _, h, _, _⟩ := hr3
        exact h
      have HSA := hid (State_any _ w0 (strip p) w1.heap.size R w3 HGS.out HWR.out hr3)
      have hs03 := hb03.size
      have hsb0 := hbw0.size
      have hbb3 := hbw0.trans (hb03.mono hsb0)
      have hs3 := hbb3.size
      clear hr3
      go_wp2_with fail
      refine HSA.out.mono ?_
      clear HSA
      rintro e w4 ⟨a, cap, rfl, how, hb4⟩
      have hbb4 := hbb3.trans (hb4.mono hs3)
      have hbw4 := hbb.trans (hbb4.mono hbb.size)
      have j4 := (hbb4.block (w.heap.size + 1) (by omega)).trans HK1.out
      have x0 : w4.cell? ⟨w.heap.size + 1, 0, none⟩ = some (.int .i64 0) := by simp [World.cell?, j4]
      have x1 : w4.cell? ⟨w.heap.size + 1, 1, none⟩ = some (.int .i64 0) := by simp [World.cell?, j4]
      have x2 : w4.cell? ⟨w.heap.size + 1, 2, none⟩ = some (.slice none 0 0) := by simp [World.cell?, j4]
      have f0 : w4.frozen? ⟨w.heap.size + 1, 0, none⟩ = false := by simp [World.frozen?, j4]
      have f1 : w4.frozen? ⟨w.heap.size + 1, 1, none⟩ = false := by simp [World.frozen?, j4]
      have f2 : w4.frozen? ⟨w.heap.size + 1, 2, none⟩ = false := by simp [World.frozen?, j4]
      obtain ⟨tl, htl⟩ : ∃ v, v = (toldD (strip p) R).length := ⟨_, rfl⟩
      rw [← htl] at how
      rw [← htl]
      have hne : (Value.slice a tl cap).ownBlock ≠ some (w.heap.size + 1) := fun e => by have := (how.lt _ e).1; omega
      have HBE := hid (below_boxed (bx := w.heap.size + 1) hbw4 (by omega) (.int .i64 R.status) (.int .i64 R.value) (.slice a tl cap))
      have h3 := ownsRow_setCell_other (ownsRow_setCell_other (ownsRow_setCell_other how (a := ⟨w.heap.size + 1, 0, none⟩) hne (.int .i64 R.status)) (a := ⟨w.heap.size + 1, 1, none⟩) hne (.int .i64 R.value)) (a := ⟨w.heap.size + 1, 2, none⟩) hne (.slice a tl cap)
      have HOW := hid (owns_lower h3 (base' := w.heap.size) (by omega))
      have HTL := hid htl
      clear how h3 j4 htl
      go_wp2
      exact bodyPost_ret (v := .tuple #[.agg #[.int .i64 R.status, .int .i64 R.value, .slice a tl cap], .int .i64 0]) (by simp [results, Tryz.results98, go_sem, x0, x1, x2]) rfl ⟨a, cap, by rw [HT.out, ← HTL.out], by rw [HT.out, ← HTL.out]; exact HOW.out, HBE.out⟩
    · have hE1 : E = 1 := by rw [HE.out, if_neg (by simpa using hc), if_neg (fun h => hnn h.2)]
      have hS1 : R = ⟨0, 0, []⟩ := by rw [HS.out, if_neg (by rw [hE1]; decide)]
      subst hS1
      subst hE1
      have HBE := hid (fun (A : Obj) => (below_boxed (bx := w.heap.size + 1) hbw1 (by omega) (.int .i64 0) (.int .i64 0) (.slice none 0 0)).alloc (by simp; omega) A)
      clear HE HS j1 hw2 hR hgt hf0 hrow hrp hc hgv hg hb2
      have HSB := hid (fun (W : World) => Step_bad w1.heap.size n W hnn)
      go_wp2_with fail
      refine (HSB.out _).mono ?_
      rintro e w3 ⟨rfl, rfl⟩
      go_wp2
      exact bodyPost_ret (v := .tuple #[.agg #[.int .i64 0, .int .i64 0, .slice none 0 0], .int .i64 1]) (by simp [results, Tryz.results98, go_sem, x0, x1, x2, lt1]) rfl ⟨none, 0, rfl, World.ownsRow_nil _ _ _ _, HBE.out _⟩

set_option maxHeartbeats 4000000 in
set_option maxRecDepth 100000 in
theorem run_answers : Answers 50 := by
  intro pa pcap p aa acap args n w hp ha hn
  have HB := hid (fun (W : World) (hW : Below w.heap.size w W) => Behind_any pa pcap p aa acap args n W (hp.below hW) (ha.below hW (Nat.le_refl _)) hn)
  obtain ⟨wb, hwb⟩ : ∃ wb, wb = (w.alloc (Obj.cells #[.slice pa p.length pcap] 44)).alloc (Obj.cells #[.int .i64 0, .int .i64 0, .slice none 0 0] 72) := ⟨_, rfl⟩
  have hbb : Below w.heap.size w wb := by rw [hwb]; exact ((Below.refl _ _).alloc (Nat.le_refl _) _).alloc (by simp) _
  have hbs : wb.heap.size = w.heap.size + 2 := by rw [hwb]; simp
  have k1 : wb.heap[w.heap.size + 1]? = some (.cells #[.int .i64 0, .int .i64 0, .slice none 0 0] 72 (0, 0)) := by rw [hwb]; exact heap_new_at (by simp)
  have HBB := hid (HB.out wb hbb)
  clear HB hp ha
  generalize runE p args n = E at *
  generalize runS p args n = R at *
  generalize toldD p R = fr at *
  obtain ⟨tl, htl⟩ : ∃ v, v = fr.length := ⟨_, rfl⟩
  rw [← htl] at HBB ⊢
  have HK1 := hid k1
  generalize p.length = pl at *
  generalize args.length = al at *
  clear k1 htl
  go_enter Tryz.func50, Tryz.ntmps50
  go_wp2_with fail
  rw [← hwb]
  clear hwb
  refine HBB.out.mono ?_
  clear HBB
  rintro e w4 ⟨a, cap, rfl, how, hb4⟩
  have hbw4 := hbb.trans (hb4.mono hbb.size)
  have j4 := (hb4.block (w.heap.size + 1) (by omega)).trans HK1.out
  have x0 : w4.cell? ⟨w.heap.size + 1, 0, none⟩ = some (.int .i64 0) := by simp [World.cell?, j4]
  have x1 : w4.cell? ⟨w.heap.size + 1, 1, none⟩ = some (.int .i64 0) := by simp [World.cell?, j4]
  have x2 : w4.cell? ⟨w.heap.size + 1, 2, none⟩ = some (.slice none 0 0) := by simp [World.cell?, j4]
  have f0 : w4.frozen? ⟨w.heap.size + 1, 0, none⟩ = false := by simp [World.frozen?, j4]
  have f1 : w4.frozen? ⟨w.heap.size + 1, 1, none⟩ = false := by simp [World.frozen?, j4]
  have f2 : w4.frozen? ⟨w.heap.size + 1, 2, none⟩ = false := by simp [World.frozen?, j4]
  have hne : (Value.slice a tl cap).ownBlock ≠ some (w.heap.size + 1) := fun e => by have := (how.lt _ e).1; omega
  have HBE := hid (below_boxed (bx := w.heap.size + 1) hbw4 (by omega) (.int .i64 R.status) (.int .i64 R.value) (.slice a tl cap))
  have h3 := ownsRow_setCell_other (ownsRow_setCell_other (ownsRow_setCell_other how (a := ⟨w.heap.size + 1, 0, none⟩) hne (.int .i64 R.status)) (a := ⟨w.heap.size + 1, 1, none⟩) hne (.int .i64 R.value)) (a := ⟨w.heap.size + 1, 2, none⟩) hne (.slice a tl cap)
  have HOW := hid (owns_lower h3 (base' := w.heap.size) (by omega))
  clear how h3 j4
  go_wp2
  exact bodyPost_ret (v := .tuple #[.agg #[.int .i64 R.status, .int .i64 R.value, .slice a tl cap], .int .i64 E]) (by simp [results, Tryz.results50, go_sem, x0, x1, x2]) rfl ⟨a, cap, rfl, HOW.out, HBE.out⟩

theorem run_gives : RunGives := run_answers
end Go.Proofs.YtooinlilplecpaaGreatDoor
