/- Contracts of the developers' run.New: where the program or the arguments are refused, and where they are let in. Contracts of the developers' (*run.Run).step and Step: a step, and so many, of the plain run. -/
import Derived.Test.YtffnfjkjlmlonaaGreatDoorZ34
import Derived.Test.YtffnfjkjlmlonaaGreatDoorZ39
import Derived.Test.YtffnfjkjlmlonaaGreatDoorZ27
import Derived.Test.YtffnfjkjlmlonaaGreatDoorR13
import Derived.Test.YtffnfjkjlmlonaaGreatDoorZ35
import Derived.Test.YtffnfjkjlmlonaaGreatDoorZ36
import Derived.Test.YtffnfjkjlmlonaaGreatDoorD10d
namespace Go.Proofs.YtffnfjkjlmlonaaGreatDoor
open Go.RowKit

def noRun : Array Value := #[.slice none 0 0, .slice none 0 0, .int .i64 0, .int .i64 0]

theorem pad8_fill {args : List Int} {n : Nat} (h : args.length ≤ n) (h8 : n ≤ 8) : pad8 (fillI args n args.length) = pad8 args := by
  have hl := fillI_len args n args.length (Nat.le_refl _) h
  unfold pad8
  rw [hl]
  unfold fillI
  rw [List.take_of_length_le (Nat.le_refl _), List.append_assoc, List.replicate_append_replicate]
  congr 2
  omega

/-- Four cells stored into a box that came later. -/
theorem below_box4 {w W : World} {bx : Nat} (h : Below w.heap.size w W) (hb : w.heap.size ≤ bx) (a b c d : Value) : Below w.heap.size w ((((W.setCell ⟨bx, 0, none⟩ a).setCell ⟨bx, 1, none⟩ b).setCell ⟨bx, 2, none⟩ c).setCell ⟨bx, 3, none⟩ d) :=
  (((h.setCell (p := ⟨bx, 0, none⟩) hb _).setCell (p := ⟨bx, 1, none⟩) hb _).setCell (p := ⟨bx, 2, none⟩) hb _).setCell (p := ⟨bx, 3, none⟩) hb _

set_option maxHeartbeats 4000000 in
set_option maxRecDepth 100000 in
theorem New_any (pa : Option Addr) (pcap : Nat) (p : List FnD) (aa : Option Addr) (acap : Nat) (args : List Int) (w : World) (hp : RdP w pa p.length pcap p) (ha : Rd .i64 w aa args.length acap args) :
    Calls Tryz.prog 141 #[.agg #[.slice pa p.length pcap], .slice aa args.length acap] w fun e w' => Below w.heap.size w w' ∧
      (((chk p).1 ≠ 0 ∧ e = .returned (.tuple #[.agg noRun, .int .i64 (chk p).1])) ∨
       ((chk p).1 = 0 ∧ givenB p args = false ∧ e = .returned (.tuple #[.agg noRun, .int .i64 1])) ∨
       ((chk p).1 = 0 ∧ givenB p args = true ∧ ∃ (qa : Option Addr) (qcap : Nat) (v : Value) (w0 : World), e = .returned (.tuple #[.agg #[.slice qa p.length qcap, v, .int .i64 0, .int .i64 0], .int .i64 0]) ∧
         (∀ W : World, (∀ b, w.heap.size ≤ b → b < w0.heap.size → W.heap[b]? = w0.heap[b]?) → RdP W qa p.length qcap (strip p)) ∧ Below w.heap.size w w0 ∧ Below w0.heap.size w0 w' ∧ w'.ownsRow w0.heap.size 248 10 v 1 (frmCells ⟨0, 0, args⟩))) := by
  have HCK := hid (fun (W : World) (hW : Below w.heap.size w W) => pCheck_any pa p.length pcap p W (hp.below hW))
  have hac := ha.hcap
  have ham := ha.hmax
  unfold maxLen at ham
  obtain ⟨wb, hwb⟩ : ∃ wb, wb = (w.alloc (Obj.cells #[.slice pa p.length pcap] 44)).alloc (Obj.cells #[.slice none 0 0, .slice none 0 0, .int .i64 0, .int .i64 0] 164) := ⟨_, rfl⟩
  have hbb : Below w.heap.size w wb := by rw [hwb]; exact ((Below.refl _ _).alloc (Nat.le_refl _) _).alloc (by simp) _
  have hbs : wb.heap.size = w.heap.size + 2 := by rw [hwb]; simp
  have k0 : wb.heap[w.heap.size]? = some (.cells #[.slice pa p.length pcap] 44 (0, 0)) := by rw [hwb]; exact heap_at1 (by simp <;> omega) (heap_new_at (by simp))
  have k1 : wb.heap[w.heap.size + 1]? = some (.cells #[.slice none 0 0, .slice none 0 0, .int .i64 0, .int .i64 0] 164 (0, 0)) := by rw [hwb]; exact heap_new_at (by simp)
  have HCW := hid (HCK.out wb hbb)
  clear HCK
  have HP := hid hp
  have HA := hid ha
  have HK0 := hid k0
  have HK1 := hid k1
  have hpl := hp.2.2.1
  have hpl1 := hp.2.1
  unfold maxLen at hpl
  clear hp ha k0 k1
  obtain ⟨pl, hpl2⟩ : ∃ v, v = p.length := ⟨_, rfl⟩
  obtain ⟨al, hal2⟩ : ∃ v, v = args.length := ⟨_, rfl⟩
  rw [← hpl2] at HP HCW hwb HK0 hpl1 ⊢
  rw [← hal2] at HA hac ⊢
  have HPL := hid hpl2
  have HAL := hid hal2
  clear hpl2 hal2
  go_enter Tryz.func141, Tryz.ntmps141
  go_wp2_with fail
  rw [← hwb]
  clear hwb
  refine HCW.out.mono ?_
  rintro e w1 ⟨rfl, hb1⟩
  have hsz1 := hb1.size
  have hbw1 := hbb.trans (hb1.mono hbb.size)
  have j0 := (hb1.block w.heap.size (by omega)).trans HK0.out
  have j1 := (hb1.block (w.heap.size + 1) (by omega)).trans HK1.out
  have r0 : w1.cell? ⟨w.heap.size, 0, none⟩ = some (.slice pa pl pcap) := by simp [World.cell?, j0]
  by_cases hc : (chk p).1 = 0
  · have HC0 := hid hc
    have hck := chk_zero hc
    have hg := good_of hck
    have hlen := hg.len
    have HG := hid hg
    rw [hck]
    have h00 : (0 : Int) ≤ 0 ∧ (0 : Int) < p.length := by omega
    have hf0 := hg.fns 0 _ (fnAt_some h00)
    have hfl := hf0.locals
    have hfp := hf0.params
    obtain ⟨pb, poff, ba, bcap, rfl, -, -, -, c2, -, -, -, -, -⟩ := HP.out.at 0 _ (fnAt_some h00)
    have c2' : w1.cell? ⟨pb, poff + 2, none⟩ = some (.int .i64 (fnAt p 0).params) := by
      have h := (hbw1.cell (World.block_lt_of_cell? w _ c2)).trans c2
      simpa using h
    have HGV := hid (runArgs_any p aa acap args w1 (by rw [← HAL.out]; exact HA.out.below hbw1 (Nat.le_refl _)))
    rw [← HAL.out] at HGV
    have HGIV : Hid (givenB p args = true → (args.length : Int) = (fnAt p 0).params) := fun h => (given_true h).1
    obtain ⟨pr, hpr⟩ : ∃ v, v = (fnAt p 0).params := ⟨_, rfl⟩
    rw [← hpr] at HGV c2' HGIV hfp
    have hpl0 : (0 : Int) < (pl : Int) := by have := HPL.out; omega
    obtain ⟨fl, hfle⟩ : ∃ v, v = (fnAt p 0).locals := ⟨_, rfl⟩
    rw [← hfle] at hfl hfp
    clear hck hc hg c2 hf0 hpr hfle h00
    cases hgv : givenB p args with
    | false =>
      rw [hgv] at HGV
      go_wp2_with fail
      refine HGV.out.mono ?_
      rintro e w2 ⟨rfl, hb2⟩
      have i1 := (hb2.block (w.heap.size + 1) (by omega)).trans j1
      have x0 : w2.cell? ⟨w.heap.size + 1, 0, none⟩ = some (.slice none 0 0) := by simp [World.cell?, i1]
      have x1 : w2.cell? ⟨w.heap.size + 1, 1, none⟩ = some (.slice none 0 0) := by simp [World.cell?, i1]
      have x2 : w2.cell? ⟨w.heap.size + 1, 2, none⟩ = some (.int .i64 0) := by simp [World.cell?, i1]
      have x3 : w2.cell? ⟨w.heap.size + 1, 3, none⟩ = some (.int .i64 0) := by simp [World.cell?, i1]
      have f0 : w2.frozen? ⟨w.heap.size + 1, 0, none⟩ = false := by simp [World.frozen?, i1]
      have f1 : w2.frozen? ⟨w.heap.size + 1, 1, none⟩ = false := by simp [World.frozen?, i1]
      have f2 : w2.frozen? ⟨w.heap.size + 1, 2, none⟩ = false := by simp [World.frozen?, i1]
      have f3 : w2.frozen? ⟨w.heap.size + 1, 3, none⟩ = false := by simp [World.frozen?, i1]
      have HBE := hid (below_box4 (bx := w.heap.size + 1) (hbw1.trans (hb2.mono hbw1.size)) (by omega) (.slice none 0 0) (.slice none 0 0) (.int .i64 0) (.int .i64 0))
      go_wp2
      exact bodyPost_ret (v := .tuple #[.agg noRun, .int .i64 1]) (by simp [results, Tryz.results141, go_sem, x0, x1, x2, x3, noRun]) rfl ⟨HBE.out, .inr (.inl ⟨HC0.out, hgv, rfl⟩)⟩
    | true =>
      rw [hgv] at HGV
      have hal8 : al ≤ 8 := by have := HGIV.out hgv; have := HAL.out; omega
      have HGT := hid hgv
      clear HGIV hgv
      go_wp2_with fail
      refine HGV.out.mono ?_
      rintro e w2 ⟨rfl, hb2⟩
      have hsz2 := hb2.size
      have hbw2 := hbw1.trans (hb2.mono hbw1.size)
      have i0 := (hb2.block w.heap.size (by omega)).trans j0
      have i1 := (hb2.block (w.heap.size + 1) (by omega)).trans j1
      have HI0 := hid i0
      have HI1 := hid i1
      clear i0 i1 j0 j1 HGV r0 c2'
      obtain ⟨wc, hwc⟩ : ∃ wc, wc = w2.alloc (Obj.cells #[.int .i64 0, .int .i64 0, .int .i64 0, .int .i64 0, .int .i64 0, .int .i64 0, .int .i64 0, .int .i64 0, .int .i64 0, .int .i64 0] 248) := ⟨_, rfl⟩
      have hbc : Below w2.heap.size w2 wc := by rw [hwc]; exact (Below.refl _ _).alloc (Nat.le_refl _) _
      have hsc : wc.heap.size = w2.heap.size + 1 := by rw [hwc]; simp
      have kc : wc.heap[w2.heap.size]? = some (.cells #[.int .i64 0, .int .i64 0, .int .i64 0, .int .i64 0, .int .i64 0, .int .i64 0, .int .i64 0, .int .i64 0, .int .i64 0, .int .i64 0] 248 (0, 0)) := by rw [hwc]; exact heap_new_at rfl
      have HROW : Hid (wc.ownsRow w2.heap.size 248 10 (.slice (some ⟨w2.heap.size, 0, none⟩) 1 1) 1 (.int .i64 0 :: .int .i64 0 :: (pad8 (args.take 0)).map (Value.int .i64))) := ⟨rfl, .inr ⟨w2.heap.size, 1, _, rfl, Nat.le_refl _, kc, Nat.le_refl _, by unfold maxLen; omega, rfl, rfl⟩⟩
      go_wp2
      rw [← hwc]
      clear hwc kc
      go_loopw [34] (fun i wr => ∃ j : Nat, i = .int .i64 j ∧ j ≤ al ∧ wr.ownsRow w2.heap.size 248 10 (.slice (some ⟨w2.heap.size, 0, none⟩) 1 1) 1 (.int .i64 0 :: .int .i64 0 :: (pad8 (args.take j)).map (Value.int .i64)) ∧ Below w2.heap.size w2 wr ∧ wr.heap.size = w2.heap.size + 1) (fun i _ => al - (intOf i).toNat)
      case atStart => exact ⟨0, rfl, by omega, HROW.out, hbc, hsc⟩
      case round =>
        clear HROW hbc hsc
        obtain ⟨j, rfl, hj, hrow, hbel, hsw⟩ := hrel
        have hbw := hbw2.trans (hbel.mono hbw2.size)
        by_cases hjn : j < al
        · obtain ⟨b1, off1, rfl, c1⟩ := (HA.out.below hbw (Nat.le_refl _)).cell j hjn
          have hpl8 : (pad8 (args.take j)).length = 8 := pad8_len (by rw [List.length_take]; omega)
          obtain ⟨y, hy⟩ : ∃ y, (pad8 (args.take j))[j]? = some y := ⟨_, List.getElem?_eq_getElem (by omega)⟩
          have q2 : wr.cell? ⟨w2.heap.size, 2 + j, none⟩ = some (.int .i64 y) := by
            rw [hrow.cellAt (2 + j) (by omega), Nat.add_comm 2 j]
            show ((pad8 (args.take j)).map (Value.int .i64))[j]? = _
            rw [List.getElem?_map, hy]; rfl
          have f2 := hrow.frozenAt (2 + j)
          have hst := (hrow.stored (2 + j) (.int .i64 (args.getD j 0))).1
          have hset : (Value.int .i64 0 :: .int .i64 0 :: (pad8 (args.take j)).map (Value.int .i64)).set (2 + j) (.int .i64 (args.getD j 0)) = .int .i64 0 :: .int .i64 0 :: (pad8 (args.take (j + 1))).map (Value.int .i64) := by
            rw [Nat.add_comm 2 j, List.set_cons_succ, List.set_cons_succ, ← List.map_set, pad8_grow (by rw [← HAL.out]; exact hjn) (by rw [← HAL.out]; exact hal8)]
          rw [hset] at hst
          have HST := hid hst
          generalize args.getD j 0 = vv at *
          have hjn' : (j : Int) < (al : Int) := by omega
          have hj8' : (j : Int) < 8 := by omega
          clear hst hset hrow hy hpl8
          go_wp2
          go_roundw
          case rel => exact ⟨j + 1, by go_num, by omega, HST.out, hbel.setCell (p := ⟨w2.heap.size, 2 + j, none⟩) (Nat.le_refl _) _, by simp [World.setCell, hsw]⟩
          case measure => simp [intOf]; omega
        · have hje : j = al := by omega
          subst hje
          have hjn' : decide ((j : Int) < (j : Int)) = false := by simp
          have htk : args.take j = args := List.take_of_length_le (by rw [HAL.out]; exact Nat.le_refl _)
          rw [htk] at hrow
          obtain ⟨m0, m1, m2, m3, m4, m5, m6, m7, hm⟩ := eight (pad8_len (l := args) (by rw [← HAL.out]; exact hal8))
          rw [hm] at hrow
          simp only [List.map_cons, List.map_nil] at hrow
          have kr0 := (hbel.block w.heap.size (by omega)).trans HI0.out
          have kr1 := (hbel.block (w.heap.size + 1) (by omega)).trans HI1.out
          have r0 : wr.cell? ⟨w.heap.size, 0, none⟩ = some (.slice (some ⟨pb, poff, none⟩) pl pcap) := by simp [World.cell?, kr0]
          have HCP := hid (Copy_any (some ⟨pb, poff, none⟩) pcap p wr (by rw [← HPL.out]; exact HP.out.below hbw) HG.out)
          rw [← HPL.out] at HCP
          have HM := hid hm
          clear hm htk
          go_wp2_with fail
          refine HCP.out.mono ?_
          rintro e w4 ⟨qa, qcap, rfl, hrq, hUq, hb4⟩
          have hs4 := hb4.size
          have hrow4 := ownsRow_below hrow hb4
          have k1 := (hb4.block (w.heap.size + 1) (by omega)).trans kr1
          have t0 : w4.cell? ⟨w2.heap.size, 0, none⟩ = some (.int .i64 0) := hrow4.cellAt 0 (by omega)
          have t1 : w4.cell? ⟨w2.heap.size, 1, none⟩ = some (.int .i64 0) := hrow4.cellAt 1 (by omega)
          have t2 : w4.cell? ⟨w2.heap.size, 2, none⟩ = some (.int .i64 m0) := hrow4.cellAt 2 (by omega)
          have t3 : w4.cell? ⟨w2.heap.size, 3, none⟩ = some (.int .i64 m1) := hrow4.cellAt 3 (by omega)
          have t4 : w4.cell? ⟨w2.heap.size, 4, none⟩ = some (.int .i64 m2) := hrow4.cellAt 4 (by omega)
          have t5 : w4.cell? ⟨w2.heap.size, 5, none⟩ = some (.int .i64 m3) := hrow4.cellAt 5 (by omega)
          have t6 : w4.cell? ⟨w2.heap.size, 6, none⟩ = some (.int .i64 m4) := hrow4.cellAt 6 (by omega)
          have t7 : w4.cell? ⟨w2.heap.size, 7, none⟩ = some (.int .i64 m5) := hrow4.cellAt 7 (by omega)
          have t8 : w4.cell? ⟨w2.heap.size, 8, none⟩ = some (.int .i64 m6) := hrow4.cellAt 8 (by omega)
          have t9 : w4.cell? ⟨w2.heap.size, 9, none⟩ = some (.int .i64 m7) := hrow4.cellAt 9 (by omega)
          have x0 : w4.cell? ⟨w.heap.size + 1, 0, none⟩ = some (.slice none 0 0) := by simp [World.cell?, k1]
          have x1 : w4.cell? ⟨w.heap.size + 1, 1, none⟩ = some (.slice none 0 0) := by simp [World.cell?, k1]
          have x2 : w4.cell? ⟨w.heap.size + 1, 2, none⟩ = some (.int .i64 0) := by simp [World.cell?, k1]
          have x3 : w4.cell? ⟨w.heap.size + 1, 3, none⟩ = some (.int .i64 0) := by simp [World.cell?, k1]
          have f0 : w4.frozen? ⟨w.heap.size + 1, 0, none⟩ = false := by simp [World.frozen?, k1]
          have f1 : w4.frozen? ⟨w.heap.size + 1, 1, none⟩ = false := by simp [World.frozen?, k1]
          have f2 : w4.frozen? ⟨w.heap.size + 1, 2, none⟩ = false := by simp [World.frozen?, k1]
          have f3 : w4.frozen? ⟨w.heap.size + 1, 3, none⟩ = false := by simp [World.frozen?, k1]
          have ltb : w2.heap.size < w4.heap.size := by omega
          have ltx : w.heap.size + 1 < w4.heap.size := by omega
          have ltx1 : w.heap.size + 1 < w4.heap.size + 1 := by omega
          have ltb1 : w2.heap.size < w4.heap.size + 1 := by omega
          obtain ⟨W0, hW0⟩ : ∃ W0, W0 = (((w4.setCell ⟨w.heap.size + 1, 0, none⟩ (.slice qa pl qcap)).setCell ⟨w.heap.size + 1, 1, none⟩ (.slice (some ⟨w4.heap.size + 1, 0, none⟩) 1 1)).setCell ⟨w.heap.size + 1, 2, none⟩ (.int .i64 0)).setCell ⟨w.heap.size + 1, 3, none⟩ (.int .i64 0) := ⟨_, rfl⟩
          have hbw4 := hbw.trans (hb4.mono hbw.size)
          have hB0 : Below w.heap.size w W0 := by rw [hW0]; exact below_box4 (bx := w.heap.size + 1) hbw4 (by omega) _ _ _ _
          have hs0 : W0.heap.size = w4.heap.size := by rw [hW0]; simp
          have hkk : Keeps (fun b => wr.heap.size ≤ b) w4 W0 := fun b hb hlt => by
            have hb' : wr.heap.size ≤ b := hb
            rw [hW0]
            iterate 4 rw [heap_setCell_other _ _ _ _ (by show b ≠ w.heap.size + 1; omega)]
          have hrp : ∀ W : World, (∀ b, w.heap.size ≤ b → b < W0.heap.size → W.heap[b]? = W0.heap[b]?) → RdP W qa pl qcap (strip p) := fun W hW => rdP_keeps hrq hUq (fun b hb hlt => (hW b (by have hb' : wr.heap.size ≤ b := hb; have := hbw.size; omega) (by omega)).trans (hkk b hb hlt))
          obtain ⟨WE, hWE⟩ : ∃ WE, WE = (W0.alloc (Obj.cells #[.slice qa pl qcap] 44)).alloc (Obj.cells #[.int .i64 0, .int .i64 0, .int .i64 m0, .int .i64 m1, .int .i64 m2, .int .i64 m3, .int .i64 m4, .int .i64 m5, .int .i64 m6, .int .i64 m7] 248) := ⟨_, rfl⟩
          have hBE : Below W0.heap.size W0 WE := by rw [hWE]; exact ((Below.refl _ _).alloc (Nat.le_refl _) _).alloc (by simp) _
          have kE : WE.heap[w4.heap.size + 1]? = some (.cells #[.int .i64 0, .int .i64 0, .int .i64 m0, .int .i64 m1, .int .i64 m2, .int .i64 m3, .int .i64 m4, .int .i64 m5, .int .i64 m6, .int .i64 m7] 248 (0, 0)) := by rw [hWE]; exact heap_new_at (by simp [hs0])
          have hRE : WE.ownsRow W0.heap.size 248 10 (.slice (some ⟨w4.heap.size + 1, 0, none⟩) 1 1) 1 (frmCells ⟨0, 0, args⟩) := by
            unfold frmCells
            dsimp only
            rw [HM.out]
            exact ⟨rfl, .inr ⟨w4.heap.size + 1, 1, _, rfl, by omega, kE, Nat.le_refl _, by unfold maxLen; omega, rfl, rfl⟩⟩
          have HE := hid (⟨hrp, hB0, hBE, hRE⟩ : (∀ W : World, (∀ b, w.heap.size ≤ b → b < W0.heap.size → W.heap[b]? = W0.heap[b]?) → RdP W qa pl qcap (strip p)) ∧ Below w.heap.size w W0 ∧ Below W0.heap.size W0 WE ∧ WE.ownsRow W0.heap.size 248 10 (.slice (some ⟨w4.heap.size + 1, 0, none⟩) 1 1) 1 (frmCells ⟨0, 0, args⟩))
          have kx := heap_setCell_same _ (w.heap.size + 1) 3 _ _ (.int .i64 0) (heap_setCell_same _ (w.heap.size + 1) 2 _ _ (.int .i64 0) (heap_setCell_same _ (w.heap.size + 1) 1 _ _ (.slice (some ⟨w4.heap.size + 1, 0, none⟩) 1 1) (heap_setCell_same w4 (w.heap.size + 1) 0 _ _ (.slice qa pl qcap) k1)))
          rw [← hW0] at kx
          have kxE := (hBE.block (w.heap.size + 1) (by omega)).trans kx
          have y0 : WE.cell? ⟨w.heap.size + 1, 0, none⟩ = some (.slice qa pl qcap) := by simp [World.cell?, kxE]
          have y1 : WE.cell? ⟨w.heap.size + 1, 1, none⟩ = some (.slice (some ⟨w4.heap.size + 1, 0, none⟩) 1 1) := by simp [World.cell?, kxE]
          have y2 : WE.cell? ⟨w.heap.size + 1, 2, none⟩ = some (.int .i64 0) := by simp [World.cell?, kxE]
          have y3 : WE.cell? ⟨w.heap.size + 1, 3, none⟩ = some (.int .i64 0) := by simp [World.cell?, kxE]
          clear hrp hB0 hBE hRE kE hkk hrq hUq hrow hrow4 kr0 kr1 r0 k1 kx kxE
          go_wp2
          rw [← hW0, ← hWE]
          clear hW0 hWE
          obtain ⟨e1, e2, e3, e4⟩ := HE.out
          exact bodyPost_ret (v := .tuple #[.agg #[.slice qa pl qcap, .slice (some ⟨w4.heap.size + 1, 0, none⟩) 1 1, .int .i64 0, .int .i64 0], .int .i64 0]) (by simp [results, Tryz.results141, go_sem, y0, y1, y2, y3]) rfl ⟨e2.trans (e3.mono e2.size), .inr (.inr ⟨HC0.out, HGT.out, qa, qcap, _, W0, rfl, e1, e2, e3, e4⟩)⟩
  · have x0 : w1.cell? ⟨w.heap.size + 1, 0, none⟩ = some (.slice none 0 0) := by simp [World.cell?, j1]
    have x1 : w1.cell? ⟨w.heap.size + 1, 1, none⟩ = some (.slice none 0 0) := by simp [World.cell?, j1]
    have x2 : w1.cell? ⟨w.heap.size + 1, 2, none⟩ = some (.int .i64 0) := by simp [World.cell?, j1]
    have x3 : w1.cell? ⟨w.heap.size + 1, 3, none⟩ = some (.int .i64 0) := by simp [World.cell?, j1]
    have f0 : w1.frozen? ⟨w.heap.size + 1, 0, none⟩ = false := by simp [World.frozen?, j1]
    have f1 : w1.frozen? ⟨w.heap.size + 1, 1, none⟩ = false := by simp [World.frozen?, j1]
    have f2 : w1.frozen? ⟨w.heap.size + 1, 2, none⟩ = false := by simp [World.frozen?, j1]
    have f3 : w1.frozen? ⟨w.heap.size + 1, 3, none⟩ = false := by simp [World.frozen?, j1]
    obtain ⟨ck, hck⟩ : ∃ q, q = (chk p).1 := ⟨_, rfl⟩
    have HC0 := hid hc
    rw [← hck] at hc ⊢
    have HCK := hid hck
    have hc' : (ck != 0) = true := by simpa using hc
    have HBE := hid (below_box4 (bx := w.heap.size + 1) hbw1 (by omega) (.slice none 0 0) (.slice none 0 0) (.int .i64 0) (.int .i64 0))
    clear hck
    go_wp2
    exact bodyPost_ret (v := .tuple #[.agg noRun, .int .i64 ck]) (by simp [results, Tryz.results141, go_sem, x0, x1, x2, x3, noRun]) rfl ⟨HBE.out, .inl ⟨HC0.out, by rw [← HCK.out]⟩⟩
end Go.Proofs.YtffnfjkjlmlonaaGreatDoor
namespace Go.Proofs.YtffnfjkjlmlonaaGreatDoor
open Go.RowKit

theorem RunAt.like {X : RX} {w0 w : World} {P : List FnD} {rb : Nat} {s s' : StandD} (h : RunAt X w0 P rb w s) (h1 : s'.status = s.status) (h2 : s'.value = s.value) (h3 : s'.live.map frmCells = s.live.map frmCells) : RunAt X w0 P rb w s' := by
  obtain ⟨pa, pcap, v, k1, k2, k3, k4, k5, k6, k7⟩ := h
  have hl : s'.live.length = s.live.length := by simpa using congrArg List.length h3
  exact ⟨pa, pcap, v, by rw [h1, h2]; exact k1, k2, k3, k4, by rw [hl, h3]; exact k5, k6, k7⟩

theorem calls_like {X : RX} {w0 w : World} {P : List FnD} {rb : Nat} {f : FuncId} {args : Array Value} {s s' : StandD} (h : Calls Tryz.prog f args w fun e w' => e = .returned (.tuple #[]) ∧ RunAt X w0 P rb w' s) (he : s = s') : Calls Tryz.prog f args w fun e w' => e = .returned (.tuple #[]) ∧ RunAt X w0 P rb w' s' := he ▸ h

theorem wf8 {P : List FnD} {x : LiveD} (hg : Good P) (hx : WfLive P x) : x.locals.length ≤ 8 := by
  have h1 := hx.locals
  have h2 := (hx.fnOk hg).locals
  omega

theorem step_any (X : RX) (w0 : World) (P : List FnD) (rb : Nat) (s : StandD) (w : World) (hgd : Good P) (hw : Wf P s) (hs : s.status = 0) (hR : RunAt X w0 P rb w s) :
    Calls Tryz.prog 195 #[.pointer (some ⟨rb, 0, none⟩)] w fun e w' => e = .returned (.tuple #[]) ∧ RunAt X w0 P rb w' (nextD P s) := by
  obtain ⟨st, vl, live⟩ := s
  obtain rfl : st = 0 := hs
  obtain ⟨hne, hv0⟩ := hw.runs rfl
  obtain rfl : vl = 0 := hv0
  obtain ⟨x, hx⟩ : ∃ x, live.getLast? = some x := by
    cases h : live.getLast? with
    | none => rw [List.getLast?_eq_none_iff] at h; exact absurd h hne
    | some x => exact ⟨x, rfl⟩
  have hl := dropLast_getLast hx
  have hnext : nextD P ⟨0, 0, live⟩ = stepTop P live.dropLast x := by unfold nextD; simp [hx]
  rw [hnext]
  have hlive := hw.live
  have hlen := hw.len
  have hcal := hw.calls
  dsimp only at hlive hlen hcal
  generalize live.dropLast = ini at *
  subst hl
  have wx : WfLive P x := hlive x (by simp)
  have wi : ∀ y ∈ ini, WfLive P y := fun y hy => hlive y (by simp [hy])
  have h8 : ∀ y ∈ ini, y.locals.length ≤ 8 := fun y hy => wf8 hgd (wi y hy)
  have hl1 : ini.length + 1 ≤ 20 := by simpa using hlen
  have ok := wx.opOk hgd
  have hc := ok.code
  have hxl := wx.locals
  unfold stepTop
  by_cases h5 : (opOf P x).code = 5
  · rw [if_pos h5]
    have hxc := ok.call h5
    have hfb := hgd.fns _ _ (fnAt_some ⟨hxc.1, hxc.2.1⟩)
    have hfl := hfb.locals
    have hfp := hfb.params
    have hpa := hxc.2.2.1
    refine (step_call X w0 P rb ini x w hgd hR wx h8 hl1 h5).mono fun e w' ⟨he, hr⟩ => ⟨he, ?_⟩
    by_cases h20 : ini.length + 1 = 20
    · rw [if_pos (by simpa using h20)] at hr
      rw [if_pos h20]
      exact hr
    · rw [if_neg (by simpa using h20)] at hr
      rw [if_neg h20]
      refine hr.like rfl rfl ?_
      simp only [List.map_append, List.map_cons, List.map_nil]
      congr 2
      unfold calleeD frmCells
      dsimp only
      have hml : ((opOf P x).args.map (locOf x)).length = (opOf P x).args.length := by simp
      rw [← hml, pad8_fill (by rw [hml]; omega) (by omega)]
  · rw [if_neg h5]
    by_cases h6 : (opOf P x).code = 6
    · rw [if_pos h6]
      cases hi : ini.getLast? with
      | none =>
        rw [List.getLast?_eq_none_iff] at hi
        subst hi
        exact step_ret X w0 P rb [] x w hgd hR wx h8 (by simp) h6 (fun v => ⟨1, v, []⟩) (fun W v h => ret_done X w0 P rb ⟨0, 0, []⟩ x v W h)
      | some c =>
        have hl2 := dropLast_getLast hi
        have hcw : WfLive P c := wi c (by rw [hl2]; simp)
        dsimp only
        generalize ini.dropLast = ini2 at *
        subst hl2
        have hb : ini2.length ≤ 100 := by simp at hl1; omega
        exact step_ret X w0 P rb (ini2 ++ [c]) x w hgd hR wx h8 (by simp at hl1 ⊢; omega) h6 (fun v => ⟨0, 0, ini2 ++ [setL c (opOf P c).a v (c.next + 1)]⟩) (fun W v h => ret_back X w0 P rb 0 0 ini2 c x v W hgd h hcw (fun y hy => h8 y (by simp [hy])) hb)
    · rw [if_neg h6]
      by_cases h4 : (opOf P x).code = 4
      · rw [if_pos h4]
        exact step_jump X w0 P rb ini x w hgd hR wx h8 (by omega) h4
      · rw [if_neg h4]
        have hlt : (opOf P x).code < 4 := by omega
        by_cases h0 : (opOf P x).code = 0
        · rw [if_pos h0]
          refine step_val X w0 P rb ini x w hgd hR wx h8 (by omega) hlt _ (fun W oa ocap => ?_)
          rw [h0]
          exact result_set x _ _ _ _ oa _ ocap W (wf8 hgd wx)
        · rw [if_neg h0]
          have h3 := ok.three (by omega)
          have eb : (opOf P x).b = ((opOf P x).b.toNat : Int) := by omega
          have ec : (opOf P x).c = ((opOf P x).c.toNat : Int) := by omega
          have hres := fun (W : World) (oa : Option Addr) (ocap : Nat) => result_num x (opOf P x).code (opOf P x).a (opOf P x).line (opOf P x).b.toNat (opOf P x).c.toNat oa (opOf P x).args.length ocap W (wf8 hgd wx) (by omega) (by omega) wx.vals (by omega)
          rw [← eb, ← ec] at hres
          by_cases hz : (opOf P x).code = 3 ∧ locOf x (opOf P x).c = 0
          · rw [if_pos hz]
            refine step_zero X w0 P rb ini x w hgd hR wx h8 (by omega) hlt (fun W oa ocap => ?_)
            have h := hres W oa ocap
            rw [if_pos hz, decide_eq_true hz] at h
            exact h
          · rw [if_neg hz]
            refine step_val X w0 P rb ini x w hgd hR wx h8 (by omega) hlt _ (fun W oa ocap => ?_)
            have h := hres W oa ocap
            rw [if_neg hz, decide_eq_false hz] at h
            exact h

theorem runD_stop {P : List FnD} {s : StandD} {j : Nat} (h : (runD P s j).status ≠ 0) : ∀ n, j ≤ n → runD P s n = runD P s j
  | 0, hn => by rw [Nat.le_zero.1 hn]
  | n + 1, hn => by
    rcases Nat.lt_or_eq_of_le hn with h1 | h1
    · have ih := runD_stop h n (by omega)
      show nextD P (runD P s n) = _
      rw [ih]
      unfold nextD
      rw [if_pos h]
    · rw [h1]

/-- How many of n steps are taken. -/
def takenD (P : List FnD) (s : StandD) : Nat → Nat
  | 0 => 0
  | n + 1 => if (runD P s n).status = 0 then takenD P s n + 1 else takenD P s n

theorem takenD_stop {P : List FnD} {s : StandD} {j : Nat} (h : (runD P s j).status ≠ 0) : ∀ n, j ≤ n → takenD P s n = takenD P s j
  | 0, hn => by rw [Nat.le_zero.1 hn]
  | n + 1, hn => by
    rcases Nat.lt_or_eq_of_le hn with h1 | h1
    · have ih := takenD_stop h n (by omega)
      show (if (runD P s n).status = 0 then takenD P s n + 1 else takenD P s n) = _
      rw [if_neg (by rw [runD_stop h n (by omega)]; exact h)]
      exact ih
    · rw [h1]

theorem takenD_go {P : List FnD} {s : StandD} {j : Nat} (h : (runD P s j).status = 0) (ht : takenD P s j = j) : takenD P s (j + 1) = j + 1 := by
  show (if (runD P s j).status = 0 then takenD P s j + 1 else takenD P s j) = _
  rw [if_pos h, ht]

set_option maxHeartbeats 4000000 in
set_option maxRecDepth 100000 in
theorem Step_any (X : RX) (w0 : World) (P : List FnD) (rb : Nat) (s : StandD) (n : Nat) (w : World) (hgd : Good P) (hw : Wf P s) (hR : RunAt X w0 P rb w s) (hn : n ≤ 2000) :
    Calls Tryz.prog 142 #[.pointer (some ⟨rb, 0, none⟩), .int .i64 n] w fun e w' => e = .returned (.tuple #[.int .i64 (takenD P s n : Nat), .int .i64 0]) ∧ RunAt X w0 P rb w' (runD P s n) := by
  have HW := hid (fun j => wf_run hgd hw j)
  have HG := hid hgd
  have HR := hid hR
  clear hw hgd hR
  have hn0 : decide ((n : Int) < 0) = false := by simp
  have hn1 : decide ((2000 : Int) < (n : Int)) = false := by simp; omega
  go_enter Tryz.func142, Tryz.ntmps142
  go_wp2
  clear hn0 hn1
  go_loopw [6] (fun i wr => ∃ j : Nat, i = .int .i64 j ∧ j ≤ n ∧ takenD P s j = j ∧ RunAt X w0 P rb wr (runD P s j)) (fun i _ => n - (intOf i).toNat)
  case atStart => exact ⟨0, rfl, by omega, rfl, HR.out⟩
  case round =>
    clear HR
    obtain ⟨j, rfl, hj, htk, hr⟩ := hrel
    by_cases hjn : j < n
    · have hjn' : (j : Int) < (n : Int) := by omega
      have hwj := HW.out j
      have hlj := hwj.len
      have hrj := hwj.runs
      have hr2 := hr
      obtain ⟨pa, pcap, fv, hk, -, -, -, hown, -, -⟩ := hr2
      obtain ⟨fa, fcap, rfl⟩ : ∃ fa fcap, fv = .slice fa (runD P s j).live.length fcap := by
        rcases hown.2 with ⟨h1, h2⟩ | ⟨g, c', cur, h1, _⟩
        · exact ⟨none, 0, by rw [h1, h2]⟩
        · exact ⟨_, _, h1⟩
      have HGO := hid (goesOn_any rb fa (runD P s j).live.length fcap (runD P s j).status wr (by simp [World.cell?, hk]) (by simp [World.cell?, hk]) (by omega) (fun h => by
        have := (hrj h).1
        exact List.length_pos_iff.2 this))
      have HRJ := hid hr
      clear hk hown hr
      by_cases hst : (runD P s j).status = 0
      · rw [hst] at HGO
        have HST := hid (fun (W : World) (hW : Below wr.heap.size wr W) => step_any X w0 P rb (runD P s j) W HG.out hwj hst (HRJ.out.below hW))
        have HTK := hid (takenD_go hst htk)
        clear hwj hrj hst htk
        go_wp2_with (go_at_call 194; refine HGO.out.mono ?_; rintro e w1 ⟨rfl, hb1⟩)
        go_wp2_with fail
        refine (HST.out _ hb1).mono ?_
        rintro e w2 ⟨rfl, hr2⟩
        have HR2 := hid hr2
        clear hr2
        go_wp2
        go_roundw
        case rel => exact ⟨j + 1, by go_num, by omega, HTK.out, HR2.out⟩
        case measure => simp [intOf]; omega
      · have hd : decide ((runD P s j).status = 0) = false := by simpa using hst
        rw [hd] at HGO
        have HE := hid (runD_stop hst n (by omega))
        have HT := hid (takenD_stop hst n (by omega))
        have HTK := hid htk
        clear hwj hrj hst hd htk
        go_wp2_with (go_at_call 194; refine HGO.out.mono ?_; rintro e w1 ⟨rfl, hb1⟩)
        go_wp2
        exact bodyPost_ret (v := .tuple #[.int .i64 j, .int .i64 0]) (by simp [results, Tryz.results142, go_sem]) rfl ⟨by rw [HT.out, HTK.out], by rw [HE.out]; exact HRJ.out.below hb1⟩
    · have hje : j = n := by omega
      subst hje
      have hjn' : decide ((j : Int) < (j : Int)) = false := by simp
      have HRJ := hid hr
      have HTK := hid htk
      clear hr htk
      go_wp2
      exact bodyPost_ret (v := .tuple #[.int .i64 j, .int .i64 0]) (by simp [results, Tryz.results142, go_sem]) rfl ⟨by rw [HTK.out], HRJ.out⟩

set_option maxHeartbeats 4000000 in
set_option maxRecDepth 100000 in
theorem Step_bad (rb : Nat) (n : Int) (w : World) (hb : ¬ (0 ≤ n ∧ n ≤ 2000)) :
    Calls Tryz.prog 142 #[.pointer (some ⟨rb, 0, none⟩), .int .i64 n] w fun e w' => e = .returned (.tuple #[.int .i64 0, .int .i64 1]) ∧ w' = w := by
  by_cases h0 : n < 0
  · go_enter Tryz.func142, Tryz.ntmps142
    go_wp2
    exact bodyPost_ret (v := .tuple #[.int .i64 0, .int .i64 1]) (by simp [results, Tryz.results142, go_sem]) rfl ⟨rfl, rfl⟩
  · have h1 : (2000 : Int) < n := by omega
    go_enter Tryz.func142, Tryz.ntmps142
    go_wp2
    exact bodyPost_ret (v := .tuple #[.int .i64 0, .int .i64 1]) (by simp [results, Tryz.results142, go_sem]) rfl ⟨rfl, rfl⟩
end Go.Proofs.YtffnfjkjlmlonaaGreatDoor
