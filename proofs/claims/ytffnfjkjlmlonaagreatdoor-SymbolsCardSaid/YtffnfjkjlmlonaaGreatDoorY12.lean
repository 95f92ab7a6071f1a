/- The contract of the reference's readEntry: a plain function; nothing that was there is written. -/
import Derived.Test.YtffnfjkjlmlonaaGreatDoorY11
import Derived.Test.YtffnfjkjlmlonaaGreatDoorZB24
namespace Go.Proofs.YtffnfjkjlmlonaaGreatDoor
open Go.RowKit
def noEnt : EntD := ⟨⟨#[]⟩, ⟨#[]⟩, [], [], []⟩
/-- A function, read at a place, behind others. -/
def rdEn (bs : List Int) (at_ funcs : Int) (names files : List ByteArray) (all : Int) : EntD × Int × Int :=
  if (rdTx bs at_ names).2.2 ≠ 0 then (noEnt, (rdTx bs at_ names).2.1, (rdTx bs at_ names).2.2) else
  if (rdFl bs (rdTx bs at_ names).2.1 files).2.2 ≠ 0 then (noEnt, (rdFl bs (rdTx bs at_ names).2.1 files).2.1, (rdFl bs (rdTx bs at_ names).2.1 files).2.2) else
  if (rdLn bs (rdFl bs (rdTx bs at_ names).2.1 files).2.1 all).2.2 ≠ 0 then (noEnt, (rdLn bs (rdFl bs (rdTx bs at_ names).2.1 files).2.1 all).2.1, (rdLn bs (rdFl bs (rdTx bs at_ names).2.1 files).2.1 all).2.2) else
  if (rdTb bs (rdLn bs (rdFl bs (rdTx bs at_ names).2.1 files).2.1 all).2.1).2.2 ≠ 0 then (noEnt, (rdTb bs (rdLn bs (rdFl bs (rdTx bs at_ names).2.1 files).2.1 all).2.1).2.1, (rdTb bs (rdLn bs (rdFl bs (rdTx bs at_ names).2.1 files).2.1 all).2.1).2.2) else
  if (unroll (rdTb bs (rdLn bs (rdFl bs (rdTx bs at_ names).2.1 files).2.1 all).2.1).1).length ≠ (rdLn bs (rdFl bs (rdTx bs at_ names).2.1 files).2.1 all).1.length then (noEnt, (rdLn bs (rdFl bs (rdTx bs at_ names).2.1 files).2.1 all).2.1, 8) else
  if (rdTr bs (rdTb bs (rdLn bs (rdFl bs (rdTx bs at_ names).2.1 files).2.1 all).2.1).2.1 (unroll (rdTb bs (rdLn bs (rdFl bs (rdTx bs at_ names).2.1 files).2.1 all).2.1).1) funcs).2.2 ≠ 0 then
    (noEnt, (rdTr bs (rdTb bs (rdLn bs (rdFl bs (rdTx bs at_ names).2.1 files).2.1 all).2.1).2.1 (unroll (rdTb bs (rdLn bs (rdFl bs (rdTx bs at_ names).2.1 files).2.1 all).2.1).1) funcs).2) else
  (⟨(rdTx bs at_ names).1, (rdFl bs (rdTx bs at_ names).2.1 files).1, (rdTb bs (rdFl bs (rdTx bs at_ names).2.1 files).2.1).1, (rdTb bs (rdLn bs (rdFl bs (rdTx bs at_ names).2.1 files).2.1 all).2.1).1,
     (rdTr bs (rdTb bs (rdLn bs (rdFl bs (rdTx bs at_ names).2.1 files).2.1 all).2.1).2.1 (unroll (rdTb bs (rdLn bs (rdFl bs (rdTx bs at_ names).2.1 files).2.1 all).2.1).1) funcs).1⟩,
   (rdTr bs (rdTb bs (rdLn bs (rdFl bs (rdTx bs at_ names).2.1 files).2.1 all).2.1).2.1 (unroll (rdTb bs (rdLn bs (rdFl bs (rdTx bs at_ names).2.1 files).2.1 all).2.1).1) funcs).2)
theorem rdLn_tb (bs : List Int) (at_ all : Int) : (rdLn bs at_ all).2.2 = 0 → (rdLn bs at_ all).1 = unroll (rdTb bs at_).1 ∧ (rdLn bs at_ all).2.1 = (rdTb bs at_).2.1 := by
  unfold rdLn
  split
  · intro h; exact absurd h (by assumption)
  · split
    · intro _; exact ⟨rfl, rfl⟩
    · intro h; simp at h
theorem owns7 {w : World} {B : Nat} {e : TypeId} {size : Nat} {v : Value} {n : Nat} {xs : List Value} {b1 b2 b3 b4 b5 b6 b7 j1 j2 j3 j4 j5 j6 j7 : Nat} {v1 v2 v3 v4 v5 v6 v7 : Value} (h : w.ownsRow B e size v n xs) (h1 : b1 < B) (h2 : b2 < B) (h3 : b3 < B) (h4 : b4 < B) (h5 : b5 < B) (h6 : b6 < B) (h7 : b7 < B) :
    (((((((w.setCell ⟨b1, j1, none⟩ v1).setCell ⟨b2, j2, none⟩ v2).setCell ⟨b3, j3, none⟩ v3).setCell ⟨b4, j4, none⟩ v4).setCell ⟨b5, j5, none⟩ v5).setCell ⟨b6, j6, none⟩ v6).setCell ⟨b7, j7, none⟩ v7).ownsRow B e size v n xs := by
  have ne : ∀ b, b < B → v.ownBlock ≠ some b := fun b hb e => by have := (h.lt b e).1; omega
  exact ownsRow_setCell_other (ownsRow_setCell_other (ownsRow_setCell_other (ownsRow_setCell_other (ownsRow_setCell_other (ownsRow_setCell_other (ownsRow_setCell_other h (ne _ h1) _) (ne _ h2) _) (ne _ h3) _) (ne _ h4) _) (ne _ h5) _) (ne _ h6) _) (ne _ h7) _
theorem below7 {B : Nat} {w W : World} {b1 b2 b3 b4 b5 b6 b7 j1 j2 j3 j4 j5 j6 j7 : Nat} {v1 v2 v3 v4 v5 v6 v7 : Value} (h : Below B w W) (h1 : B ≤ b1) (h2 : B ≤ b2) (h3 : B ≤ b3) (h4 : B ≤ b4) (h5 : B ≤ b5) (h6 : B ≤ b6) (h7 : B ≤ b7) :
    Below B w (((((((W.setCell ⟨b1, j1, none⟩ v1).setCell ⟨b2, j2, none⟩ v2).setCell ⟨b3, j3, none⟩ v3).setCell ⟨b4, j4, none⟩ v4).setCell ⟨b5, j5, none⟩ v5).setCell ⟨b6, j6, none⟩ v6).setCell ⟨b7, j7, none⟩ v7) :=
  ((((((h.setCell (p := ⟨b1, j1, none⟩) h1 _).setCell (p := ⟨b2, j2, none⟩) h2 _).setCell (p := ⟨b3, j3, none⟩) h3 _).setCell (p := ⟨b4, j4, none⟩) h4 _).setCell (p := ⟨b5, j5, none⟩) h5 _).setCell (p := ⟨b6, j6, none⟩) h6 _).setCell (p := ⟨b7, j7, none⟩) h7 _
set_option maxHeartbeats 4000000 in
set_option maxRecDepth 100000 in
theorem readEntry_any (a : Option Addr) (len cap : Nat) (bs : List Int) (at_ : Int) (funcs : Int) (na : Option Addr) (nlen ncap : Nat) (names : List ByteArray) (fa : Option Addr) (flen fcap : Nat) (files : List ByteArray) (all : Int) (w : World) (hr : Rd .u8 w a len cap bs) (hx : ∀ j, 0 ≤ bs.getD j 0 ∧ bs.getD j 0 ≤ 255) (hn : RdT w na nlen ncap names) (hf : RdT w fa flen fcap files) (hbig : len ≤ 4611686018427387904) (hf0 : 1 ≤ funcs) (hf1 : funcs ≤ 12) (h0 : 0 ≤ all) (h1 : all ≤ 100000) :
    Calls Tryz.prog 100 #[.slice a len cap, hereV at_ 0, .int .i64 funcs, .slice na nlen ncap, .slice fa flen fcap, .int .i64 all] w fun e w' => ∃ v1 v2 v3, e = .returned (.tuple #[.agg #[.string (rdEn bs at_ funcs names files all).1.name, .string (rdEn bs at_ funcs names files all).1.file, v1, v2, v3], hereV (rdEn bs at_ funcs names files all).2.1 (rdEn bs at_ funcs names files all).2.2]) ∧
      w'.ownsRow w.heap.size 109 2 v1 (rdEn bs at_ funcs names files all).1.lines.length (flat (rdEn bs at_ funcs names files all).1.lines) ∧ w'.ownsRow w.heap.size 109 2 v2 (rdEn bs at_ funcs names files all).1.index.length (flat (rdEn bs at_ funcs names files all).1.index) ∧
      w'.ownsRow w.heap.size 112 2 v3 (rdEn bs at_ funcs names files all).1.tree.length (flat (rdEn bs at_ funcs names files all).1.tree) ∧ Below w.heap.size w w' := by
  have HT := hid (fun (W : World) (hW : Below w.heap.size w W) => readText_any a len cap bs at_ 0 na nlen ncap names W (hr.below hW (Nat.le_refl _)) hx (hn.below hW) hbig)
  have HFI := hid (fun (W : World) (hW : Below w.heap.size w W) (p : Int) => readFile_any a len cap bs p 0 fa flen fcap files W (hr.below hW (Nat.le_refl _)) hx (hf.below hW) hbig)
  have HLI := hid (fun (W : World) (hW : Below w.heap.size w W) (p : Int) => readLines_any a len cap bs p 0 all W (hr.below hW (Nat.le_refl _)) hx h0 h1)
  have HTA := hid (fun (W : World) (hW : Below w.heap.size w W) (p : Int) => readTable_any a len cap bs p 0 W (hr.below hW (Nat.le_refl _)) hx)
  have HTR := hid (fun (W : World) (hW : Below w.heap.size w W) (p : Int) (ia : Option Addr) (ilen icap : Nat) (inst : List Int) (hi : Rd .i64 W ia ilen icap inst) (q0 : 0 ≤ mostL inst) (q1 : mostL inst ≤ 2147483647) => readTree_any a len cap bs p ia ilen icap inst funcs W (hr.below hW (Nat.le_refl _)) hx hi q0 q1 hf0 hf1)
  unfold hereV at HT HFI HLI HTA HTR ⊢
  obtain ⟨wA, hwA⟩ : ∃ v, v = ((w.alloc (Obj.cells #[.int .i64 at_, .int .i64 0] 135)).alloc (Obj.cells #[.string ⟨#[]⟩, .string ⟨#[]⟩, .slice none 0 0, .slice none 0 0, .slice none 0 0] 115)).alloc (Obj.cells #[.int .i64 0, .int .i64 0] 135) := ⟨_, rfl⟩
  have hbA : Below w.heap.size w wA := by rw [hwA]; exact (((Below.refl _ _).alloc (Nat.le_refl _) _).alloc (by simp) _).alloc (by simp; omega) _
  have hsA : wA.heap.size = w.heap.size + 3 := by rw [hwA]; simp
  have kE : wA.heap[w.heap.size + 1]? = some (.cells #[.string ⟨#[]⟩, .string ⟨#[]⟩, .slice none 0 0, .slice none 0 0, .slice none 0 0] 115 (0, 0)) := by
    rw [hwA, heap_alloc_old _ _ (by simp)]
    have := heap_alloc_new (w.alloc (Obj.cells #[.int .i64 at_, .int .i64 0] 135)) (Obj.cells #[.string ⟨#[]⟩, .string ⟨#[]⟩, .slice none 0 0, .slice none 0 0, .slice none 0 0] 115)
    simpa using this
  have kQ : wA.heap[w.heap.size + 1 + 1]? = some (.cells #[.int .i64 0, .int .i64 0] 135 (0, 0)) := by
    rw [hwA]
    have := heap_alloc_new ((w.alloc (Obj.cells #[.int .i64 at_, .int .i64 0] 135)).alloc (Obj.cells #[.string ⟨#[]⟩, .string ⟨#[]⟩, .slice none 0 0, .slice none 0 0, .slice none 0 0] 115)) (Obj.cells #[.int .i64 0, .int .i64 0] 135)
    simpa using this
  have HCEL : Hid (∀ W, Below wA.heap.size wA W → W.cell? ⟨w.heap.size + 1, 0, none⟩ = some (.string ⟨#[]⟩) ∧ W.cell? ⟨w.heap.size + 1, 1, none⟩ = some (.string ⟨#[]⟩) ∧ W.cell? ⟨w.heap.size + 1, 2, none⟩ = some (.slice none 0 0) ∧ W.cell? ⟨w.heap.size + 1, 3, none⟩ = some (.slice none 0 0) ∧ W.cell? ⟨w.heap.size + 1, 4, none⟩ = some (.slice none 0 0) ∧ W.cell? ⟨w.heap.size + 1 + 1, 0, none⟩ = some (.int .i64 0) ∧ W.cell? ⟨w.heap.size + 1 + 1, 1, none⟩ = some (.int .i64 0) ∧
      W.frozen? ⟨w.heap.size + 1, 0, none⟩ = false ∧ W.frozen? ⟨w.heap.size + 1, 1, none⟩ = false ∧ W.frozen? ⟨w.heap.size + 1, 2, none⟩ = false ∧ W.frozen? ⟨w.heap.size + 1, 3, none⟩ = false ∧ W.frozen? ⟨w.heap.size + 1, 4, none⟩ = false ∧ W.frozen? ⟨w.heap.size + 1 + 1, 0, none⟩ = false ∧ W.frozen? ⟨w.heap.size + 1 + 1, 1, none⟩ = false) := hid (fun W hW => by
    have d1 := (hW.block (w.heap.size + 1) (by omega)).trans kE
    have d2 := (hW.block (w.heap.size + 1 + 1) (by omega)).trans kQ
    refine ⟨?_, ?_, ?_, ?_, ?_, ?_, ?_, ?_, ?_, ?_, ?_, ?_, ?_, ?_⟩ <;> simp [World.cell?, World.frozen?, d1, d2])
  have HBA := hid hbA
  have hlc := hr.hcap
  have hlm := hr.hmax
  have hnc := hn.2.1
  have hnm := hn.2.2.1
  have hfc := hf.2.1
  have hfm := hf.2.2.1
  unfold maxLen at hlm hnm hfm
  obtain ⟨fin, hfin⟩ : ∃ v, v = rdEn bs at_ funcs names files all := ⟨_, rfl⟩
  rw [← hfin]
  unfold rdEn at hfin
  have HT1 := hid (HT.out wA hbA)
  obtain ⟨⟨nm, nx1, er1⟩, hq1⟩ : ∃ q, rdTx bs at_ names = q := ⟨_, rfl⟩
  rw [hq1] at HT1 hfin
  dsimp only at HT1 hfin
  have HFE1 := hid hfin
  have HX := hid hx
  clear hr hn hf hfin hq1 hbA kE kQ HT hx
  go_enter Tryz.func100, Tryz.ntmps100
  go_wp2_with fail
  rw [← hwA]
  clear hwA
  refine HT1.out.mono ?_
  rintro e w1 ⟨rfl, b1⟩
  obtain ⟨wB1, hwB1⟩ : ∃ v, v = w1.alloc (Obj.cells #[.int .i64 nx1, .int .i64 er1] 135) := ⟨_, rfl⟩
  have bb1 : Below w1.heap.size w1 wB1 := by rw [hwB1]; exact (Below.refl _ _).alloc (Nat.le_refl _) _
  have sb1 : wB1.heap.size = w1.heap.size + 1 := by rw [hwB1]; simp
  have s1 := b1.size
  have bp1 : Below wA.heap.size wA wB1 := b1.trans (bb1.mono b1.size)
  have HBB1 := hid (bp1 : Below wA.heap.size wA wB1)
  have kB1 : wB1.heap[w1.heap.size]? = some (.cells #[.int .i64 nx1, .int .i64 er1] 135 (0, 0)) := by rw [hwB1]; exact heap_alloc_new _ _
  have g10 : wB1.cell? ⟨w1.heap.size, 0, none⟩ = some (.int .i64 nx1) := by simp [World.cell?, kB1]
  have g11 : wB1.cell? ⟨w1.heap.size, 1, none⟩ = some (.int .i64 er1) := by simp [World.cell?, kB1]
  have lt1 : w1.heap.size < wB1.heap.size := by omega
  have HKB1 := hid kB1
  have HBP1 := hid bp1
  clear b1 bb1 bp1 kB1
  by_cases he1 : er1 = 0
  · subst he1
    have hfe := HFE1.out
    rw [if_neg (by simp)] at hfe
    have HR2 := hid (HFI.out wB1 (HBA.out.trans (HBB1.out.mono HBA.out.size)) nx1)
    obtain ⟨⟨fl, nx2, er2⟩, hq2⟩ : ∃ q, rdFl bs nx1 files = q := ⟨_, rfl⟩
    rw [hq2] at HR2 hfe
    dsimp only at HR2 hfe
    have HFE2 := hid hfe
    clear hfe hq2 HFE1 HFI HT1
    go_wp2_with fail
    rw [← hwB1]
    clear hwB1
    refine HR2.out.mono ?_
    rintro e w2 ⟨rfl, b2⟩
    obtain ⟨wB2, hwB2⟩ : ∃ v, v = w2.alloc (Obj.cells #[.int .i64 nx2, .int .i64 er2] 135) := ⟨_, rfl⟩
    have bb2 : Below w2.heap.size w2 wB2 := by rw [hwB2]; exact (Below.refl _ _).alloc (Nat.le_refl _) _
    have sb2 : wB2.heap.size = w2.heap.size + 1 := by rw [hwB2]; simp
    have s2 := b2.size
    have bp2 : Below wB1.heap.size wB1 wB2 := b2.trans (bb2.mono b2.size)
    have HBB2 := hid (HBB1.out.trans (bp2.mono HBB1.out.size) : Below wA.heap.size wA wB2)
    have kB2 : wB2.heap[w2.heap.size]? = some (.cells #[.int .i64 nx2, .int .i64 er2] 135 (0, 0)) := by rw [hwB2]; exact heap_alloc_new _ _
    have g20 : wB2.cell? ⟨w2.heap.size, 0, none⟩ = some (.int .i64 nx2) := by simp [World.cell?, kB2]
    have g21 : wB2.cell? ⟨w2.heap.size, 1, none⟩ = some (.int .i64 er2) := by simp [World.cell?, kB2]
    have lt2 : w2.heap.size < wB2.heap.size := by omega
    have HKB2 := hid kB2
    have HBP2 := hid bp2
    clear b2 bb2 bp2 kB2
    by_cases he2 : er2 = 0
    · subst he2
      have hfe := HFE2.out
      rw [if_neg (by simp)] at hfe
      have HR3 := hid (HLI.out wB2 (HBA.out.trans (HBB2.out.mono HBA.out.size)) nx2)
      have hln := rdLn_tb bs nx2 all
      obtain ⟨⟨ln, nx3, er3⟩, hq3⟩ : ∃ q, rdLn bs nx2 all = q := ⟨_, rfl⟩
      rw [hq3] at HR3 hfe hln
      dsimp only at HR3 hfe hln
      have HFE3 := hid hfe
      clear hfe hq3 HFE2 HLI HR2 g10 g11
      go_wp2_with fail
      rw [← hwB2]
      clear hwB2
      refine HR3.out.mono ?_
      rintro e w3 ⟨v3, rfl, ho3, b3⟩
      obtain ⟨wB3, hwB3⟩ : ∃ v, v = w3.alloc (Obj.cells #[.int .i64 nx3, .int .i64 er3] 135) := ⟨_, rfl⟩
      have bb3 : Below w3.heap.size w3 wB3 := by rw [hwB3]; exact (Below.refl _ _).alloc (Nat.le_refl _) _
      have sb3 : wB3.heap.size = w3.heap.size + 1 := by rw [hwB3]; simp
      have s3 := b3.size
      have bp3 : Below wB2.heap.size wB2 wB3 := b3.trans (bb3.mono b3.size)
      have HBB3 := hid (HBB2.out.trans (bp3.mono HBB2.out.size) : Below wA.heap.size wA wB3)
      have kB3 : wB3.heap[w3.heap.size]? = some (.cells #[.int .i64 nx3, .int .i64 er3] 135 (0, 0)) := by rw [hwB3]; exact heap_alloc_new _ _
      have g30 : wB3.cell? ⟨w3.heap.size, 0, none⟩ = some (.int .i64 nx3) := by simp [World.cell?, kB3]
      have g31 : wB3.cell? ⟨w3.heap.size, 1, none⟩ = some (.int .i64 er3) := by simp [World.cell?, kB3]
      have lt3 : w3.heap.size < wB3.heap.size := by omega
      have HKB3 := hid kB3
      have HBP3 := hid bp3
      clear b3 bp3 kB3
      have bb3' := bb3
      clear bb3
      obtain ⟨va3, vc3, rfl, hv31, hv32⟩ := owns_form ho3
      unfold maxLen at hv32
      have HO3 := hid (owns_below ho3 bb3')
      clear ho3 bb3' HR3
      by_cases he3 : er3 = 0
      · subst he3
        obtain ⟨hln1, hln2⟩ := hln rfl
        have hfe := HFE3.out
        rw [if_neg (by simp)] at hfe
        have HR4 := hid (HTA.out wB3 (HBA.out.trans (HBB3.out.mono HBA.out.size)) nx3)
        have hwf := rdTb_wf bs HX.out nx3
        have hwf0 := rdTb_wf bs HX.out nx2
        obtain ⟨⟨tb, nx4, er4⟩, hq4⟩ : ∃ q, rdTb bs nx3 = q := ⟨_, rfl⟩
        rw [hq4] at HR4 hfe hwf
        dsimp only at HR4 hfe hwf
        generalize (rdTb bs nx2).1 = tb1 at *
        have HFE4 := hid hfe
        have HWF := hid hwf
        have HWF0 := hid hwf0
        have HLN := hid hln1
        clear hfe hq4 HFE3 HTA hwf hwf0 hln hln1 hln2 g20 g21
        go_wp2_with fail
        rw [← hwB3]
        clear hwB3
        refine HR4.out.mono ?_
        rintro e w4 ⟨v4, rfl, ho4, b4⟩
        have bq4 := b4
        obtain ⟨wB4, hwB4⟩ : ∃ v, v = w4.alloc (Obj.cells #[.int .i64 nx4, .int .i64 er4] 135) := ⟨_, rfl⟩
        have bb4 : Below w4.heap.size w4 wB4 := by rw [hwB4]; exact (Below.refl _ _).alloc (Nat.le_refl _) _
        have sb4 : wB4.heap.size = w4.heap.size + 1 := by rw [hwB4]; simp
        have s4 := b4.size
        have bp4 : Below wB3.heap.size wB3 wB4 := b4.trans (bb4.mono b4.size)
        have HBB4 := hid (HBB3.out.trans (bp4.mono HBB3.out.size) : Below wA.heap.size wA wB4)
        have kB4 : wB4.heap[w4.heap.size]? = some (.cells #[.int .i64 nx4, .int .i64 er4] 135 (0, 0)) := by rw [hwB4]; exact heap_alloc_new _ _
        have g40 : wB4.cell? ⟨w4.heap.size, 0, none⟩ = some (.int .i64 nx4) := by simp [World.cell?, kB4]
        have g41 : wB4.cell? ⟨w4.heap.size, 1, none⟩ = some (.int .i64 er4) := by simp [World.cell?, kB4]
        have lt4 : w4.heap.size < wB4.heap.size := by omega
        have HKB4 := hid kB4
        have HBP4 := hid bp4
        clear b4 bp4 kB4
        have bb4' := bb4
        clear bb4
        obtain ⟨va4, vc4, rfl, hv41, hv42⟩ := owns_form ho4
        unfold maxLen at hv42
        have HO4 := hid (owns_below ho4 bb4')
        have HO34 := hid (owns_below HO3.out (bq4.trans (bb4'.mono bq4.size)))
        clear ho4 bb4' bq4 HR4 HO3
        by_cases he4 : er4 = 0
        · subst he4
          have hfe := HFE4.out
          rw [if_neg (by simp)] at hfe
          have hml : mostL (unroll tb) = mostT tb := mostL_unroll tb (-1) 1000 HWF.out 0
          have hm1 := mostT_le HWF.out
          have hm0 : 0 ≤ mostT tb := mostT_nn tb
          by_cases hle : (unroll tb).length = ln.length
          · rw [if_neg (by simp [hle])] at hfe
            obtain ⟨_, _, ev, hrd4, -⟩ := rd_of_owns64 HO4.out rfl
            cases ev
            have HR5 := hid (HTR.out wB4 (HBA.out.trans (HBB4.out.mono HBA.out.size)) nx4 va4 (unroll tb).length vc4 (unroll tb) hrd4 (by omega) (by omega))
            obtain ⟨⟨tr, nx5, er5⟩, hq5⟩ : ∃ q, rdTr bs nx4 (unroll tb) funcs = q := ⟨_, rfl⟩
            rw [hq5] at HR5 hfe
            dsimp only at HR5 hfe
            have HFE5 := hid hfe
            have hle' : (((unroll tb).length : Int) != (ln.length : Int)) = false := by simp [hle]
            obtain ⟨ul, hul⟩ : ∃ v, v = (unroll tb).length := ⟨_, rfl⟩
            obtain ⟨ll, hll⟩ : ∃ v, v = ln.length := ⟨_, rfl⟩
            rw [← hul] at HR5 HO4 hle' hv41
            rw [← hll] at HO34 hle' hv31
            have HUL := hid hul
            have HLL := hid hll
            rw [← hul, ← hll]
            clear hfe hq5 HFE4 HTR hrd4 hml hm1 hm0 g30 g31 hul hll hle
            go_wp2_with fail
            rw [← hwB4]
            clear hwB4
            refine HR5.out.mono ?_
            rintro e w5 ⟨v5, rfl, ho5, b5⟩
            have bq5 := b5
            obtain ⟨wB5, hwB5⟩ : ∃ v, v = w5.alloc (Obj.cells #[.int .i64 nx5, .int .i64 er5] 135) := ⟨_, rfl⟩
            have bb5 : Below w5.heap.size w5 wB5 := by rw [hwB5]; exact (Below.refl _ _).alloc (Nat.le_refl _) _
            have sb5 : wB5.heap.size = w5.heap.size + 1 := by rw [hwB5]; simp
            have s5 := b5.size
            have bp5 : Below wB4.heap.size wB4 wB5 := b5.trans (bb5.mono b5.size)
            have HBB5 := hid (HBB4.out.trans (bp5.mono HBB4.out.size) : Below wA.heap.size wA wB5)
            have kB5 : wB5.heap[w5.heap.size]? = some (.cells #[.int .i64 nx5, .int .i64 er5] 135 (0, 0)) := by rw [hwB5]; exact heap_alloc_new _ _
            have g50 : wB5.cell? ⟨w5.heap.size, 0, none⟩ = some (.int .i64 nx5) := by simp [World.cell?, kB5]
            have g51 : wB5.cell? ⟨w5.heap.size, 1, none⟩ = some (.int .i64 er5) := by simp [World.cell?, kB5]
            have lt5 : w5.heap.size < wB5.heap.size := by omega
            have HKB5 := hid kB5
            have HBP5 := hid bp5
            clear b5 bp5 kB5
            have bb5' := bb5
            clear bb5
            obtain ⟨va5, vc5, rfl, hv51, hv52⟩ := owns_form ho5
            unfold maxLen at hv52
            have HO5 := hid (owns_below ho5 bb5')
            have HO45 := hid (owns_below HO4.out (bq5.trans (bb5'.mono bq5.size)))
            have HO35 := hid (owns_below HO34.out (bq5.trans (bb5'.mono bq5.size)))
            clear ho5 bb5' bq5 HR5 HO4 HO34
            by_cases he5 : er5 = 0
            · subst he5
              have hfe := HFE5.out
              rw [if_neg (by simp)] at hfe
              obtain ⟨_, _, ev, hrd3, -⟩ := rd_of_owns64 HO35.out HLL.out.symm
              cases ev
              have hrd3' : Rd .i64 wB5 va3 ll vc3 (unroll tb1) := by rw [← HLN.out]; exact hrd3
              have HRL := hid (rrolled_any va3 ll vc3 tb1 wB5 HWF0.out hrd3')
              have HFE6 := hid hfe
              clear hfe hrd3 hrd3' HFE5 g40 g41
              go_wp2_with fail
              rw [← hwB5]
              clear hwB5
              refine HRL.out.mono ?_
              rintro e w6 ⟨v6, rfl, ho6, b6⟩
              obtain ⟨_, _, ev, hrd4, -⟩ := rd_of_owns64 (owns_below HO45.out b6) HUL.out.symm
              cases ev
              have HRI := hid (rrolled_any va4 ul vc4 tb w6 HWF.out hrd4)
              have HO56 := hid (owns_below HO5.out b6)
              have s6 := b6.size
              have HB6 := hid b6
              have HO6 := hid ho6
              clear hrd4 b6 ho6 HRL HO5 HO45 HO35
              go_wp2_with fail
              refine HRI.out.mono ?_
              rintro e w7 ⟨v7, rfl, ho7, b7⟩
              have s7 := b7.size
              have b57 : Below wB5.heap.size wB5 w7 := HB6.out.trans (b7.mono s6)
              have ho6' := owns_below HO6.out b7
              have ho5' := owns_below HO56.out b7
              obtain ⟨va6, vc6, rfl, -, -⟩ := owns_form ho6'
              obtain ⟨va7, vc7, rfl, -, -⟩ := owns_form ho7
              have bA7 : Below wA.heap.size wA w7 := HBB5.out.trans (b57.mono HBB5.out.size)
              obtain ⟨e0, e1, e2, e3, e4, q0, q1, fe0, fe1, fe2, fe3, fe4, fq0, fq1⟩ := HCEL.out w7 bA7
              have k57 := (b57.block w5.heap.size (by omega)).trans HKB5.out
              have g50 : w7.cell? ⟨w5.heap.size, 0, none⟩ = some (.int .i64 nx5) := by simp [World.cell?, k57]
              have g51 : w7.cell? ⟨w5.heap.size, 1, none⟩ = some (.int .i64 0) := by simp [World.cell?, k57]
              have l57 : w5.heap.size < w7.heap.size := by omega
              have HB7 := hid (HBA.out.trans (bA7.mono HBA.out.size))
              have HO6F := hid ho6'
              have HO5F := hid ho5'
              have HO7F := hid ho7
              have hsz0 := HBA.out.size
              have hszB := HBB4.out.size
              have hszB5 := HBB5.out.size
              clear b57 bA7 b7 ho6' ho5' ho7 k57 HRI HO6 HO56 HB6
              have HEND : Hid (∀ W, W = (((((((w7.setCell ⟨w.heap.size + 1, 0, none⟩ (.string nm)).setCell ⟨w.heap.size + 1, 1, none⟩ (.string fl)).setCell ⟨w.heap.size + 1, 2, none⟩ (.slice va6 tb1.length vc6)).setCell ⟨w.heap.size + 1, 3, none⟩ (.slice va7 tb.length vc7)).setCell ⟨w.heap.size + 1, 4, none⟩ (.slice va5 tr.length vc5)).setCell ⟨w.heap.size + 1 + 1, 0, none⟩ (.int .i64 nx5)).setCell ⟨w.heap.size + 1 + 1, 1, none⟩ (.int .i64 0)) →
                  ∃ v1 v2 v3, Ending.returned (.tuple #[.agg #[.string nm, .string fl, .slice va6 tb1.length vc6, .slice va7 tb.length vc7, .slice va5 tr.length vc5], .agg #[.int .i64 nx5, .int .i64 0]]) = Ending.returned (.tuple #[.agg #[.string fin.1.name, .string fin.1.file, v1, v2, v3], .agg #[.int .i64 fin.2.1, .int .i64 fin.2.2]]) ∧ W.drew.ownsRow w.heap.size 109 2 v1 fin.1.lines.length (flat fin.1.lines) ∧ W.drew.ownsRow w.heap.size 109 2 v2 fin.1.index.length (flat fin.1.index) ∧ W.drew.ownsRow w.heap.size 112 2 v3 fin.1.tree.length (flat fin.1.tree) ∧ Below w.heap.size w W.drew) := hid (fun W hW => by
                have hd : ∀ (e : TypeId) (v : Value) (n : Nat) (xs : List Value), W.ownsRow w.heap.size e 2 v n xs → W.drew.ownsRow w.heap.size e 2 v n xs := fun e v n xs h => h
                have r1 : W.ownsRow w.heap.size 109 2 (.slice va6 tb1.length vc6) tb1.length (flat tb1) := by
                  rw [hW]; exact owns_low7 (owns7 HO6F.out (by omega) (by omega) (by omega) (by omega) (by omega) (by omega) (by omega)) (by omega)
                have r2 : W.ownsRow w.heap.size 109 2 (.slice va7 tb.length vc7) tb.length (flat tb) := by
                  rw [hW]; exact owns_low7 (owns7 HO7F.out (by omega) (by omega) (by omega) (by omega) (by omega) (by omega) (by omega)) (by omega)
                have r3 : W.ownsRow w.heap.size 112 2 (.slice va5 tr.length vc5) tr.length (flat tr) := by
                  rw [hW]; exact owns_low7 (owns7 HO5F.out (by omega) (by omega) (by omega) (by omega) (by omega) (by omega) (by omega)) (by omega)
                have r4 : Below w.heap.size w W := by
                  rw [hW]; exact below7 HB7.out (by omega) (by omega) (by omega) (by omega) (by omega) (by omega) (by omega)
                clear hW
                rw [HFE6.out]
                exact ⟨_, _, _, rfl, hd _ _ _ _ r1, hd _ _ _ _ r2, hd _ _ _ _ r3, r4.drew⟩)
              clear HO6F HO5F HO7F HB7
              go_wp2
              go_region
              all_goals
                go_wp2
                exact bodyPost_ret (v := .tuple #[.agg #[.string nm, .string fl, .slice va6 tb1.length vc6, .slice va7 tb.length vc7, .slice va5 tr.length vc5], .agg #[.int .i64 nx5, .int .i64 0]]) (by simp [results, Tryz.results100, go_sem, e0, e1, e2, e3, e4, q0, q1]) rfl (HEND.out _ rfl)
            · skip
              have he' : (er5 != 0) = true := by simpa using he5
              have hfe := HFE5.out
              rw [if_pos he5] at hfe
              have HFX := hid hfe
              obtain ⟨e0, e1, e2, e3, e4, q0, q1, fe0, fe1, fe2, fe3, fe4, fq0, fq1⟩ := HCEL.out wB5 HBB5.out
              clear hfe
              go_wp2
              rw [← hwB5]
              clear hwB5
              go_region
              all_goals
                go_wp2
                exact bodyPost_ret (v := .tuple #[.agg #[.string ⟨#[]⟩, .string ⟨#[]⟩, .slice none 0 0, .slice none 0 0, .slice none 0 0], .agg #[.int .i64 nx5, .int .i64 er5]]) (by simp [results, Tryz.results100, go_sem, e0, e1, e2, e3, e4, q0, q1]) rfl ⟨.slice none 0 0, .slice none 0 0, .slice none 0 0, by rw [HFX.out]; rfl, by rw [HFX.out]; exact World.ownsRow_nil _ _ _ _, by rw [HFX.out]; exact World.ownsRow_nil _ _ _ _, by rw [HFX.out]; exact World.ownsRow_nil _ _ _ _, (below7 (HBA.out.trans (HBB5.out.mono HBA.out.size)) (by omega) (by omega) (by omega) (by omega) (by omega) (by omega) (by omega)).drew⟩
          · rw [if_pos hle] at hfe
            have HFE5 := hid hfe
            have hle' : (((unroll tb).length : Int) != (ln.length : Int)) = true := by simp; omega
            have k34 := (HBP4.out.block w3.heap.size (by omega)).trans HKB3.out
            have k34' : w4.heap[w3.heap.size]? = some (.cells #[.int .i64 nx3, .int .i64 0] 135 (0, 0)) := by
              rw [hwB4, heap_alloc_old _ _ (by omega)] at k34; exact k34
            have g34 : w4.cell? ⟨w3.heap.size, 0, none⟩ = some (.int .i64 nx3) := by simp [World.cell?, k34']
            have l34 : w3.heap.size < w4.heap.size := by omega
            have HWR := hid (wrong_any nx3 8 wB4)
            unfold hereV at HWR
            generalize (unroll tb).length = ul at *
            generalize ln.length = ll at *
            clear hfe HFE4 hml hm1 hm0 k34 k34' HO4 HO34 g30 g31
            go_wp2_with fail
            rw [← hwB4]
            clear hwB4
            refine HWR.out.mono ?_
            rintro e w5 ⟨rfl, b5⟩
            have bA5 : Below wA.heap.size wA w5 := HBB4.out.trans (b5.mono HBB4.out.size)
            obtain ⟨e0, e1, e2, e3, e4, q0, q1, fe0, fe1, fe2, fe3, fe4, fq0, fq1⟩ := HCEL.out w5 bA5
            have HB5 := hid (HBA.out.trans (bA5.mono HBA.out.size))
            clear b5 bA5 g34
            go_wp2
            exact bodyPost_ret (v := .tuple #[.agg #[.string ⟨#[]⟩, .string ⟨#[]⟩, .slice none 0 0, .slice none 0 0, .slice none 0 0], .agg #[.int .i64 nx3, .int .i64 8]]) (by simp [results, Tryz.results100, go_sem, e0, e1, e2, e3, e4, q0, q1]) rfl ⟨.slice none 0 0, .slice none 0 0, .slice none 0 0, by rw [HFE5.out]; rfl, by rw [HFE5.out]; exact World.ownsRow_nil _ _ _ _, by rw [HFE5.out]; exact World.ownsRow_nil _ _ _ _, by rw [HFE5.out]; exact World.ownsRow_nil _ _ _ _, below7 HB5.out (by omega) (by omega) (by omega) (by omega) (by omega) (by omega) (by omega)⟩
        · skip
          have he' : (er4 != 0) = true := by simpa using he4
          have hfe := HFE4.out
          rw [if_pos he4] at hfe
          have HFX := hid hfe
          obtain ⟨e0, e1, e2, e3, e4, q0, q1, fe0, fe1, fe2, fe3, fe4, fq0, fq1⟩ := HCEL.out wB4 HBB4.out
          clear hfe
          go_wp2
          rw [← hwB4]
          clear hwB4
          go_region
          all_goals
            go_wp2
            exact bodyPost_ret (v := .tuple #[.agg #[.string ⟨#[]⟩, .string ⟨#[]⟩, .slice none 0 0, .slice none 0 0, .slice none 0 0], .agg #[.int .i64 nx4, .int .i64 er4]]) (by simp [results, Tryz.results100, go_sem, e0, e1, e2, e3, e4, q0, q1]) rfl ⟨.slice none 0 0, .slice none 0 0, .slice none 0 0, by rw [HFX.out]; rfl, by rw [HFX.out]; exact World.ownsRow_nil _ _ _ _, by rw [HFX.out]; exact World.ownsRow_nil _ _ _ _, by rw [HFX.out]; exact World.ownsRow_nil _ _ _ _, (below7 (HBA.out.trans (HBB4.out.mono HBA.out.size)) (by omega) (by omega) (by omega) (by omega) (by omega) (by omega) (by omega)).drew⟩
      · skip
        have he' : (er3 != 0) = true := by simpa using he3
        have hfe := HFE3.out
        rw [if_pos he3] at hfe
        have HFX := hid hfe
        obtain ⟨e0, e1, e2, e3, e4, q0, q1, fe0, fe1, fe2, fe3, fe4, fq0, fq1⟩ := HCEL.out wB3 HBB3.out
        clear hfe
        go_wp2
        rw [← hwB3]
        clear hwB3
        go_region
        all_goals
          go_wp2
          exact bodyPost_ret (v := .tuple #[.agg #[.string ⟨#[]⟩, .string ⟨#[]⟩, .slice none 0 0, .slice none 0 0, .slice none 0 0], .agg #[.int .i64 nx3, .int .i64 er3]]) (by simp [results, Tryz.results100, go_sem, e0, e1, e2, e3, e4, q0, q1]) rfl ⟨.slice none 0 0, .slice none 0 0, .slice none 0 0, by rw [HFX.out]; rfl, by rw [HFX.out]; exact World.ownsRow_nil _ _ _ _, by rw [HFX.out]; exact World.ownsRow_nil _ _ _ _, by rw [HFX.out]; exact World.ownsRow_nil _ _ _ _, (below7 (HBA.out.trans (HBB3.out.mono HBA.out.size)) (by omega) (by omega) (by omega) (by omega) (by omega) (by omega) (by omega)).drew⟩
    · skip
      have he' : (er2 != 0) = true := by simpa using he2
      have hfe := HFE2.out
      rw [if_pos he2] at hfe
      have HFX := hid hfe
      obtain ⟨e0, e1, e2, e3, e4, q0, q1, fe0, fe1, fe2, fe3, fe4, fq0, fq1⟩ := HCEL.out wB2 HBB2.out
      clear hfe
      go_wp2
      rw [← hwB2]
      clear hwB2
      go_region
      all_goals
        go_wp2
        exact bodyPost_ret (v := .tuple #[.agg #[.string ⟨#[]⟩, .string ⟨#[]⟩, .slice none 0 0, .slice none 0 0, .slice none 0 0], .agg #[.int .i64 nx2, .int .i64 er2]]) (by simp [results, Tryz.results100, go_sem, e0, e1, e2, e3, e4, q0, q1]) rfl ⟨.slice none 0 0, .slice none 0 0, .slice none 0 0, by rw [HFX.out]; rfl, by rw [HFX.out]; exact World.ownsRow_nil _ _ _ _, by rw [HFX.out]; exact World.ownsRow_nil _ _ _ _, by rw [HFX.out]; exact World.ownsRow_nil _ _ _ _, (below7 (HBA.out.trans (HBB2.out.mono HBA.out.size)) (by omega) (by omega) (by omega) (by omega) (by omega) (by omega) (by omega)).drew⟩
  · skip
    have he' : (er1 != 0) = true := by simpa using he1
    have hfe := HFE1.out
    rw [if_pos he1] at hfe
    have HFX := hid hfe
    obtain ⟨e0, e1, e2, e3, e4, q0, q1, fe0, fe1, fe2, fe3, fe4, fq0, fq1⟩ := HCEL.out wB1 HBB1.out
    clear hfe
    go_wp2
    rw [← hwB1]
    clear hwB1
    go_region
    all_goals
      go_wp2
      exact bodyPost_ret (v := .tuple #[.agg #[.string ⟨#[]⟩, .string ⟨#[]⟩, .slice none 0 0, .slice none 0 0, .slice none 0 0], .agg #[.int .i64 nx1, .int .i64 er1]]) (by simp [results, Tryz.results100, go_sem, e0, e1, e2, e3, e4, q0, q1]) rfl ⟨.slice none 0 0, .slice none 0 0, .slice none 0 0, by rw [HFX.out]; rfl, by rw [HFX.out]; exact World.ownsRow_nil _ _ _ _, by rw [HFX.out]; exact World.ownsRow_nil _ _ _ _, by rw [HFX.out]; exact World.ownsRow_nil _ _ _ _, (below7 (HBA.out.trans (HBB1.out.mono HBA.out.size)) (by omega) (by omega) (by omega) (by omega) (by omega) (by omega) (by omega)).drew⟩
end Go.Proofs.YtffnfjkjlmlonaaGreatDoor
