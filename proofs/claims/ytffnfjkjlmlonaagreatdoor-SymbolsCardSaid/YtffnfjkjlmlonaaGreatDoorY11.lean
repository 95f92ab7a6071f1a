/- The contract of the reference's readTree: a plain function; nothing that was there is written. -/
import Derived.Test.YtffnfjkjlmlonaaGreatDoorZB26
import Derived.Deep.AppendLies
namespace Go.Proofs.YtffnfjkjlmlonaaGreatDoor
open Go.RowKit
/-- The nodes of a function, read from node k on. -/
def rdTrF (bs inst : List Int) (funcs : Int) : Nat → Int → Int → List (Int × Int) → Int → List (Int × Int) × Int × Int
  | 0, _, _, l, at_ => (l, at_, 0)
  | f + 1, k, before, l, at_ =>
    if (rdN bs at_ 0 (funcs - 1)).2.2 ≠ 0 then ([], (rdN bs at_ 0 (funcs - 1)).2.1, (rdN bs at_ 0 (funcs - 1)).2.2) else
    if (rdN bs (rdN bs at_ 0 (funcs - 1)).2.1 0 2147483647).2.2 ≠ 0 then ([], (rdN bs (rdN bs at_ 0 (funcs - 1)).2.1 0 2147483647).2.1, (rdN bs (rdN bs at_ 0 (funcs - 1)).2.1 0 2147483647).2.2) else
    if (withB (rdN bs at_ 0 (funcs - 1)).1 funcs && pcB (rdN bs (rdN bs at_ 0 (funcs - 1)).2.1 0 2147483647).1 before k inst) = true then
      rdTrF bs inst funcs f (k + 1) (rdN bs (rdN bs at_ 0 (funcs - 1)).2.1 0 2147483647).1 (l ++ [((rdN bs at_ 0 (funcs - 1)).1, (rdN bs (rdN bs at_ 0 (funcs - 1)).2.1 0 2147483647).1)]) (rdN bs (rdN bs at_ 0 (funcs - 1)).2.1 0 2147483647).2.1
    else ([], (rdN bs at_ 0 (funcs - 1)).2.1, 8)
def rdTr (bs : List Int) (at_ : Int) (inst : List Int) (funcs : Int) : List (Int × Int) × Int × Int := rdTrF bs inst funcs (mostL inst).toNat 1 (-1) [] at_
theorem cell_two_new (w : World) (a b : Value) (t : TypeId) : ∀ j u, [a, b][j]? = some u → (w.alloc (.cells #[a, b] t)).cell? ((⟨w.heap.size, 0, none⟩ : Addr).add j) = some u := by
  intro j u hu
  match j, hu with
  | 0, hu => simp at hu; subst hu; simp [Addr.add]
  | 1, hu => simp at hu; subst hu; simp [Addr.add]
set_option maxHeartbeats 4000000 in
set_option maxRecDepth 100000 in
theorem readTree_any (a : Option Addr) (len cap : Nat) (bs : List Int) (at_ : Int) (ia : Option Addr) (ilen icap : Nat) (inst : List Int) (funcs : Int) (w : World) (hr : Rd .u8 w a len cap bs) (hx : ∀ j, 0 ≤ bs.getD j 0 ∧ bs.getD j 0 ≤ 255) (hi : Rd .i64 w ia ilen icap inst) (hm0 : 0 ≤ mostL inst) (hm : mostL inst ≤ 2147483647) (hf0 : 1 ≤ funcs) (hf1 : funcs ≤ 12) :
    Calls Tryz.prog 154 #[.slice a len cap, hereV at_ 0, .slice ia ilen icap, .int .i64 funcs] w fun e w' => ∃ v, e = .returned (.tuple #[v, hereV (rdTr bs at_ inst funcs).2.1 (rdTr bs at_ inst funcs).2.2]) ∧ w'.ownsRow w.heap.size 112 2 v (rdTr bs at_ inst funcs).1.length (flat (rdTr bs at_ inst funcs).1) ∧ Below w.heap.size w w' := by
  obtain ⟨wA, hwA⟩ : ∃ wA, wA = (w.alloc (Obj.cells #[.int .i64 at_, .int .i64 0] 135)).alloc (Obj.cells #[.int .i64 0, .int .i64 0] 135) := ⟨_, rfl⟩
  have hbA : Below w.heap.size w wA := by rw [hwA]; exact ((Below.refl _ _).alloc (Nat.le_refl _) _).alloc (by simp) _
  have k0 : wA.heap[w.heap.size]? = some (.cells #[.int .i64 at_, .int .i64 0] 135 (0, 0)) := by
    rw [hwA, heap_alloc_old _ _ (by simp)]; exact heap_alloc_new _ _
  have k1 : wA.heap[w.heap.size + 1]? = some (.cells #[.int .i64 0, .int .i64 0] 135 (0, 0)) := by
    rw [hwA]
    have := heap_alloc_new (w.alloc (Obj.cells #[.int .i64 at_, .int .i64 0] 135)) (Obj.cells #[.int .i64 0, .int .i64 0] 135)
    simpa using this
  have hsA : wA.heap.size = w.heap.size + 2 := by rw [hwA]; simp
  have HMO := hid (rmost_any ia ilen icap inst wA (hi.below hbA (Nat.le_refl _)))
  have HRN := hid (fun (W : World) (hW : Below w.heap.size w W) (p lo hi' : Int) => readNumber_any a len cap bs p 0 lo hi' W (hr.below hW (Nat.le_refl _)) hx)
  have HGN := hid (fun (W : World) (hW : Below w.heap.size w W) (fn pc k before : Int) (hb : -1 ≤ before) => rgoodNode_any ia ilen icap inst fn pc k before funcs W (hi.below hW (Nat.le_refl _)) hb)
  have hic := hi.hcap
  have him := hi.hmax
  have hlc := hr.hcap
  have hlm := hr.hmax
  unfold maxLen at him hlm
  obtain ⟨n, hn⟩ : ∃ v : Nat, mostL inst = (v : Int) := ⟨(mostL inst).toNat, by omega⟩
  obtain ⟨fin, hfin⟩ : ∃ v, v = rdTr bs at_ inst funcs := ⟨_, rfl⟩
  rw [← hfin]
  have HFIN : Hid (fin = rdTrF bs inst funcs n 1 (-1) [] at_) := hid (by rw [hfin]; unfold rdTr; rw [hn]; rfl)
  rw [hn] at HMO hm
  have hn31 : n ≤ 2147483647 := by omega
  have HBA := hid hbA
  have K0 := hid k0
  have K1 := hid k1
  obtain ⟨i0, hif, hz0, hz1, hz2⟩ := info_parts Tryz.infoNode
  have ewf : IntKind.i64.wrap (funcs - 1) = funcs - 1 := by rw [IntKind.wrap_i64]; omega
  unfold hereV at HRN ⊢
  clear hr hx hi hn hfin hbA k0 k1 hm0 hm
  go_enter Tryz.func154, Tryz.ntmps154
  go_wp2_with fail
  rw [← hwA]
  clear hwA
  refine HMO.out.mono ?_
  rintro e w' ⟨rfl, he⟩
  rw [he]
  clear he w' HMO
  go_wp2
  go_loopw [10, 12, 13] (fun lv bv kv wr => ∃ (j : Nat) (pre : List (Int × Int)) (at1 b1 : Int), kv = .int .i64 ((j : Int) + 1) ∧ bv = .int .i64 b1 ∧ j ≤ n ∧ pre.length = j ∧ -1 ≤ b1 ∧ fin = rdTrF bs inst funcs (n - j) ((j : Int) + 1) b1 pre at1 ∧ wr.ownsRow (w.heap.size + 2) 112 2 lv j (flat pre) ∧ Below w.heap.size w wr ∧ wr.heap[w.heap.size]? = some (.cells #[.int .i64 at1, .int .i64 0] 135 (0, 0)) ∧ wr.heap[w.heap.size + 1]? = some (.cells #[.int .i64 0, .int .i64 0] 135 (0, 0))) (fun _ _ kv _ => n + 1 - (intOf kv).toNat)
  case atStart => exact ⟨0, [], at_, -1, rfl, rfl, by omega, rfl, by omega, HFIN.out, World.ownsRow_nil _ _ _ _, HBA.out, K0.out, K1.out⟩
  case round =>
    clear HFIN K0 K1 HBA
    obtain ⟨j, pre, at1, b1, rfl, rfl, hj, hpre, hb1, hfe, hown, hbel, hk0, hk1⟩ := hrel
    have hsz := hbel.size
    have h0 : wr.cell? ⟨w.heap.size, 0, none⟩ = some (.int .i64 at1) := by simp [World.cell?, hk0]
    have h1 : wr.cell? ⟨w.heap.size, 1, none⟩ = some (.int .i64 0) := by simp [World.cell?, hk0]
    have lt0 : w.heap.size < wr.heap.size := (Array.getElem?_eq_some_iff.1 hk0).1
    have lt1 : w.heap.size + 1 < wr.heap.size := (Array.getElem?_eq_some_iff.1 hk1).1
    obtain ⟨va, vc, rfl, hv1, hv2⟩ := owns_form hown
    unfold maxLen at hv2
    by_cases hjn : j < n
    · have hjn' : (j : Int) + 1 ≤ (n : Int) := by omega
      have hbd1 := rdN_bd bs at1 0 (funcs - 1)
      have hfe' : fin = rdTrF bs inst funcs ((n - (j + 1)) + 1) ((j : Int) + 1) b1 pre at1 := by rw [hfe, show n - j = (n - (j + 1)) + 1 by omega]
      unfold rdTrF at hfe'
      have HR1 := hid (HRN.out wr hbel at1 0 (funcs - 1))
      obtain ⟨⟨f1, nx1, er1⟩, hq1⟩ : ∃ q, rdN bs at1 0 (funcs - 1) = q := ⟨_, rfl⟩
      rw [hq1] at HR1 hbd1 hfe'
      dsimp only at HR1 hbd1 hfe'
      have HFE := hid hfe'
      have HOWN := hid hown
      have HBEL := hid hbel
      have HK0 := hid hk0
      have HK1 := hid hk1
      clear hfe hfe' hown hbel hk0 hk1 hq1
      go_wp2_with fail
      refine HR1.out.mono ?_
      rintro e w1 ⟨rfl, bb1⟩
      obtain ⟨wB, hwB⟩ : ∃ v, v = w1.alloc (Obj.cells #[.int .i64 nx1, .int .i64 er1] 135) := ⟨_, rfl⟩
      have bB1 : Below w1.heap.size w1 wB := by rw [hwB]; exact (Below.refl _ _).alloc (Nat.le_refl _) _
      have sB1 : wB.heap.size = w1.heap.size + 1 := by rw [hwB]; simp
      have bB : Below wr.heap.size wr wB := bb1.trans (bB1.mono bb1.size)
      have kB : wB.heap[w1.heap.size]? = some (.cells #[.int .i64 nx1, .int .i64 er1] 135 (0, 0)) := by rw [hwB]; exact heap_alloc_new _ _
      have g0 : wB.cell? ⟨w1.heap.size, 0, none⟩ = some (.int .i64 nx1) := by simp [World.cell?, kB]
      have g1 : wB.cell? ⟨w1.heap.size, 1, none⟩ = some (.int .i64 er1) := by simp [World.cell?, kB]
      have sr1 := bb1.size
      have kr := (bB.block (w.heap.size + 1) lt1).trans HK1.out
      have y0 : wB.cell? ⟨w.heap.size + 1, 0, none⟩ = some (.int .i64 0) := by simp [World.cell?, kr]
      have y1 : wB.cell? ⟨w.heap.size + 1, 1, none⟩ = some (.int .i64 0) := by simp [World.cell?, kr]
      have fy0 : wB.frozen? ⟨w.heap.size + 1, 0, none⟩ = false := by simp [World.frozen?, kr]
      have fy1 : wB.frozen? ⟨w.heap.size + 1, 1, none⟩ = false := by simp [World.frozen?, kr]
      have ltg : w1.heap.size < wB.heap.size := by omega
      have ltr : w.heap.size + 1 < wB.heap.size := by omega
      have hbwB := HBEL.out.trans (bB.mono hsz)
      have HFB := hid (fun (u v : Value) => (hbwB.setCell (p := ⟨w.heap.size + 1, 0, none⟩) (by show w.heap.size ≤ w.heap.size + 1; omega) u).setCell (p := ⟨w.heap.size + 1, 1, none⟩) (by show w.heap.size ≤ w.heap.size + 1; omega) v)
      have HBB := hid bB
      have HBWB := hid hbwB
      have HKB := hid kB
      clear bb1 bB1 bB kB kr hbwB HR1 h0 h1
      by_cases he1 : er1 = 0
      · subst he1
        obtain ⟨d1, d2, d3, d4, d5⟩ := hbd1 rfl
        have hbd2 := rdN_bd bs nx1 0 2147483647
        have hfe2 := HFE.out
        rw [if_neg (by simp)] at hfe2
        have HR2 := hid (HRN.out wB HBWB.out nx1 0 2147483647)
        obtain ⟨⟨f2, nx2, er2⟩, hq2⟩ : ∃ q, rdN bs nx1 0 2147483647 = q := ⟨_, rfl⟩
        rw [hq2] at HR2 hbd2 hfe2
        dsimp only at HR2 hbd2 hfe2
        have HFE2 := hid hfe2
        clear hfe2 hq2 hbd1 HFE y0 y1 fy0 fy1
        go_wp2_with fail
        rw [← hwB]
        clear hwB
        refine HR2.out.mono ?_
        rintro e w2 ⟨rfl, bb2⟩
        obtain ⟨wC, hwC⟩ : ∃ v, v = w2.alloc (Obj.cells #[.int .i64 nx2, .int .i64 er2] 135) := ⟨_, rfl⟩
        have bC1 : Below w2.heap.size w2 wC := by rw [hwC]; exact (Below.refl _ _).alloc (Nat.le_refl _) _
        have sC1 : wC.heap.size = w2.heap.size + 1 := by rw [hwC]; simp
        have sr2 := bb2.size
        have bBC : Below wB.heap.size wB wC := bb2.trans (bC1.mono bb2.size)
        have bC : Below wr.heap.size wr wC := HBB.out.trans (bBC.mono (by omega))
        have kC : wC.heap[w2.heap.size]? = some (.cells #[.int .i64 nx2, .int .i64 er2] 135 (0, 0)) := by rw [hwC]; exact heap_alloc_new _ _
        have kg := (bBC.block w1.heap.size (by omega)).trans HKB.out
        have i0' : wC.cell? ⟨w2.heap.size, 0, none⟩ = some (.int .i64 nx2) := by simp [World.cell?, kC]
        have i1' : wC.cell? ⟨w2.heap.size, 1, none⟩ = some (.int .i64 er2) := by simp [World.cell?, kC]
        have kr := (bC.block (w.heap.size + 1) lt1).trans HK1.out
        have y0 : wC.cell? ⟨w.heap.size + 1, 0, none⟩ = some (.int .i64 0) := by simp [World.cell?, kr]
        have y1 : wC.cell? ⟨w.heap.size + 1, 1, none⟩ = some (.int .i64 0) := by simp [World.cell?, kr]
        have fy0 : wC.frozen? ⟨w.heap.size + 1, 0, none⟩ = false := by simp [World.frozen?, kr]
        have fy1 : wC.frozen? ⟨w.heap.size + 1, 1, none⟩ = false := by simp [World.frozen?, kr]
        have lti : w2.heap.size < wC.heap.size := by omega
        have ltr2 : w.heap.size + 1 < wC.heap.size := by omega
        have hbwC := HBEL.out.trans (bC.mono hsz)
        have HFC := hid (fun (u v : Value) => (hbwC.setCell (p := ⟨w.heap.size + 1, 0, none⟩) (by show w.heap.size ≤ w.heap.size + 1; omega) u).setCell (p := ⟨w.heap.size + 1, 1, none⟩) (by show w.heap.size ≤ w.heap.size + 1; omega) v)
        have HBC := hid bC
        have HBWC := hid hbwC
        have HKC := hid kC
        have HKG := hid kg
        clear bb2 bC1 bBC bC kC kg kr hbwC HR2 HFB HBB HBWB HKB g0 g1 ltg ltr
        by_cases he2 : er2 = 0
        · subst he2
          obtain ⟨e1, e2, e3, e4, e5⟩ := hbd2 rfl
          have hfe3 := HFE2.out
          rw [if_neg (by simp)] at hfe3
          obtain ⟨wD, hwD⟩ : ∃ v, v = wC.alloc (Obj.cells #[.int .i64 f1, .int .i64 f2] 112) := ⟨_, rfl⟩
          have bD1 : Below wC.heap.size wC wD := by rw [hwD]; exact (Below.refl _ _).alloc (Nat.le_refl _) _
          have sD1 : wD.heap.size = wC.heap.size + 1 := by rw [hwD]; simp
          have kD : wD.heap[wC.heap.size]? = some (.cells #[.int .i64 f1, .int .i64 f2] 112 (0, 0)) := by rw [hwD]; exact heap_alloc_new _ _
          have bD : Below wr.heap.size wr wD := HBC.out.trans (bD1.mono (by omega))
          have hbwD := HBEL.out.trans (bD.mono hsz)
          have HG4 := hid (HGN.out wD hbwD f1 f2 ((j : Int) + 1) b1 hb1)
          obtain ⟨ok, hok⟩ : ∃ v, v = (withB f1 funcs && pcB f2 b1 ((j : Int) + 1) inst) := ⟨_, rfl⟩
          rw [← hok] at HG4 hfe3
          have HFE3 := hid hfe3
          have HKD := hid kD
          have HBD := hid bD
          have HKG2 := hid ((bD1.block w1.heap.size (by omega)).trans HKG.out)
          have HKC2 := hid ((bD1.block w2.heap.size (by omega)).trans HKC.out)
          clear hfe3 hok bD1 bD kD hbwD hbd2 HFE2 HKG HKC y0 y1 fy0 fy1
          go_wp2_with fail
          rw [← hwC, ← hwD]
          clear hwC hwD i0' i1'
          refine HG4.out.mono ?_
          rintro e w4 ⟨rfl, bb4⟩
          have sr4 := bb4.size
          have b4 : Below wr.heap.size wr w4 := HBD.out.trans (bb4.mono (by omega))
          have hbw4 := HBEL.out.trans (b4.mono hsz)
          have kg4 := (bb4.block w1.heap.size (by omega)).trans HKG2.out
          have ki4 := (bb4.block w2.heap.size (by omega)).trans HKC2.out
          have kx4 := (bb4.block wC.heap.size (by omega)).trans HKD.out
          have kh4 := (b4.block w.heap.size lt0).trans HK0.out
          have kr4 := (b4.block (w.heap.size + 1) lt1).trans HK1.out
          have g40 : w4.cell? ⟨w1.heap.size, 0, none⟩ = some (.int .i64 nx1) := by simp [World.cell?, kg4]
          rw [sC1] at kx4
          have x40 : w4.cell? ⟨w2.heap.size + 1, 0, none⟩ = some (.int .i64 f1) := by simp [World.cell?, kx4]
          have x41 : w4.cell? ⟨w2.heap.size + 1, 1, none⟩ = some (.int .i64 f2) := by simp [World.cell?, kx4]
          have l41 : w1.heap.size < w4.heap.size := by omega
          have l42 : w2.heap.size + 1 < w4.heap.size := by omega
          have HB4 := hid b4
          have HBW4 := hid hbw4
          have HKI4 := hid ki4
          have HKH4 := hid kh4
          have HKR4 := hid kr4
          clear bb4 b4 hbw4 kg4 ki4 kx4 kh4 kr4 HG4 HKG2 HKC2 HKD
          cases ok with
          | false =>
            have hfe4 := HFE3.out
            rw [if_neg (by simp)] at hfe4
            have HFE4 := hid hfe4
            have HWR := hid (wrong_any nx1 8 w4)
            unfold hereV at HWR
            clear hfe4 HFE3
            go_wp2_with fail
            refine HWR.out.mono ?_
            rintro e w5 ⟨rfl, bb5⟩
            have kr5 := (bb5.block (w.heap.size + 1) (by omega)).trans HKR4.out
            have y0 : w5.cell? ⟨w.heap.size + 1, 0, none⟩ = some (.int .i64 0) := by simp [World.cell?, kr5]
            have y1 : w5.cell? ⟨w.heap.size + 1, 1, none⟩ = some (.int .i64 0) := by simp [World.cell?, kr5]
            have fy0 : w5.frozen? ⟨w.heap.size + 1, 0, none⟩ = false := by simp [World.frozen?, kr5]
            have fy1 : w5.frozen? ⟨w.heap.size + 1, 1, none⟩ = false := by simp [World.frozen?, kr5]
            have hbw5 := HBW4.out.trans (bb5.mono HBW4.out.size)
            have HF5 := hid (fun (u v : Value) => (hbw5.setCell (p := ⟨w.heap.size + 1, 0, none⟩) (by show w.heap.size ≤ w.heap.size + 1; omega) u).setCell (p := ⟨w.heap.size + 1, 1, none⟩) (by show w.heap.size ≤ w.heap.size + 1; omega) v)
            clear bb5 kr5 hbw5 g40 x40 x41
            go_wp2
            exact bodyPost_ret (v := .tuple #[.slice none 0 0, .agg #[.int .i64 nx1, .int .i64 8]]) (by simp [results, Tryz.results154, go_sem, y0, y1]) rfl ⟨.slice none 0 0, by rw [HFE4.out], by rw [HFE4.out]; exact World.ownsRow_nil _ _ _ _, HF5.out _ _⟩
          | true =>
            have hfe4 := HFE3.out
            rw [if_pos rfl] at hfe4
            have HFE4 := hid hfe4
            have HO4 := hid (owns_below HOWN.out HB4.out)
            have HOWLT := hid (fun (b : Nat) (hb : (Value.slice va j vc).ownBlock = some b) => (HOWN.out.lt b hb).2)
            have s24 : w.heap.size + 2 ≤ w4.heap.size := by omega
            clear hfe4 HFE3 HOWN g40
            go_wp2_with (at_builtin; refine wpList_append_lies _ rfl (.tmp 63) (.tmp 65) 110 rfl (w.heap.size + 2) 112 i0 (.agg #[.int .i64 0, .int .i64 0]) 2 16 Tryz.underlying110 hif hz0 hz1 hz2 rfl (by decide) _ _ _ rfl (HO4.out.alloc _) ⟨w4.heap.size, 0, none⟩ 1 1 [.int .i64 f1, .int .i64 f2] rfl rfl (cell_two_new _ _ _ _) (fun u hu => by simp at hu; rcases hu with rfl | rfl <;> rfl) (by decide) (by unfold maxLen; omega) (by omega) (by simp; omega) _ rfl ?_)
            intro g5 c5 w5 hown5 hgrow5 hat5 hlt5
            have hno : ∀ b, b < w.heap.size + 2 → some b ≠ (Value.slice va j vc).ownBlock := fun b hb e => by
              have := (HO4.out.lt b e.symm).1
              omega
            have s5 := hgrow5.size
            simp at s5
            have kh5 : w5.heap[w.heap.size]? = some (.cells #[.int .i64 at1, .int .i64 0] 135 (0, 0)) := (hgrow5.block w.heap.size (by simp; omega) (hno _ (by omega))).trans ((heap_alloc_old _ _ (by omega)).trans HKH4.out)
            have kr5 : w5.heap[w.heap.size + 1]? = some (.cells #[.int .i64 0, .int .i64 0] 135 (0, 0)) := (hgrow5.block (w.heap.size + 1) (by simp; omega) (hno _ (by omega))).trans ((heap_alloc_old _ _ (by omega)).trans HKR4.out)
            have ki5 := (hgrow5.block w2.heap.size (by simp; omega) (fun e => by have := (HOWLT.out _ e.symm); omega)).trans ((heap_alloc_old _ _ (by omega)).trans HKI4.out)
            have i50 : w5.cell? ⟨w2.heap.size, 0, none⟩ = some (.int .i64 nx2) := by simp [World.cell?, ki5]
            have i51 : w5.cell? ⟨w2.heap.size, 1, none⟩ = some (.int .i64 0) := by simp [World.cell?, ki5]
            have h50 : w5.cell? ⟨w.heap.size, 0, none⟩ = some (.int .i64 at1) := by simp [World.cell?, kh5]
            have h51 : w5.cell? ⟨w.heap.size, 1, none⟩ = some (.int .i64 0) := by simp [World.cell?, kh5]
            have fh0 : w5.frozen? ⟨w.heap.size, 0, none⟩ = false := by simp [World.frozen?, kh5]
            have fh1 : w5.frozen? ⟨w.heap.size, 1, none⟩ = false := by simp [World.frozen?, kh5]
            have l50 : w.heap.size < w5.heap.size := by omega
            have l51 : w2.heap.size < w5.heap.size := by omega
            have hbw5 : Below w.heap.size w w5 := (HBW4.out.alloc HBW4.out.size _).grown hgrow5 (by simp; omega) (fun k hk => by have := (HO4.out.lt k hk).1; omega)
            have nb : w2.heap.size ≠ w.heap.size := by omega
            have HREL : Hid (∀ (W : World), W = (w5.setCell ⟨w.heap.size, 0, none⟩ (.int .i64 nx2)).setCell ⟨w.heap.size, 1, none⟩ (.int .i64 0) → W.ownsRow (w.heap.size + 2) 112 2 (.slice (some ⟨g5, 0, none⟩) (j + 1) c5) (j + 1) (flat (pre ++ [(f1, f2)])) ∧ Below w.heap.size w W ∧ W.heap[w.heap.size]? = some (.cells #[.int .i64 nx2, .int .i64 0] 135 (0, 0)) ∧ W.heap[w.heap.size + 1]? = some (.cells #[.int .i64 0, .int .i64 0] 135 (0, 0))) := hid (fun W hW => by
              have hg5 := (hown5.lt g5 rfl).1
              have e : flat (pre ++ [(f1, f2)]) = flat pre ++ [.int .i64 f1, .int .i64 f2] := by simp [flat]
              rw [hW]
              refine ⟨?_, (hbw5.setCell (p := ⟨w.heap.size, 0, none⟩) (Nat.le_refl _) _).setCell (p := ⟨w.heap.size, 1, none⟩) (Nat.le_refl _) _, ?_, ?_⟩
              · rw [e]
                exact ownsRow_setCell_other (ownsRow_setCell_other hown5 (a := ⟨w.heap.size, 0, none⟩) (by simp [Value.ownBlock]; omega) _) (a := ⟨w.heap.size, 1, none⟩) (by simp [Value.ownBlock]; omega) _
              · rw [heap_setCell_same _ _ 1 _ _ _ (by rw [heap_setCell_same w5 _ 0 _ _ _ kh5])]
                rfl
              · rw [heap_setCell_other _ ⟨w.heap.size, 1, none⟩ _ _ (by simp), heap_setCell_other _ ⟨w.heap.size, 0, none⟩ _ _ (by simp)]
                exact kr5)
            have HFN : Hid (fin = rdTrF bs inst funcs (n - (j + 1)) (((j + 1 : Nat) : Int) + 1) f2 (pre ++ [(f1, f2)]) nx2) := hid (by rw [HFE4.out]; congr 1)
            have HPL : Hid ((pre ++ [(f1, f2)]).length = j + 1) := hid (by simp [hpre])
            clear hown5 hgrow5 hat5 kh5 kr5 ki5 hbw5 hno HO4 HKI4 HKH4 HKR4 HBW4 HB4 HFE4 x40 x41
            go_wp2
            obtain ⟨r1, r2, r3, r4⟩ := HREL.out _ rfl
            exact ⟨⟨j + 1, pre ++ [(f1, f2)], nx2, f2, by simp, rfl, by omega, HPL.out, by omega, HFN.out, r1, r2, r3, r4⟩, by simp [intOf]; omega⟩
        · have he2' : (er2 != 0) = true := by simpa using he2
          have hfe3 := HFE2.out
          rw [if_pos he2] at hfe3
          have HFE3 := hid hfe3
          clear hfe3 HFE2
          go_wp2
          rw [← hwC]
          clear hwC
          go_region
          all_goals
            go_wp2
            exact bodyPost_ret (v := .tuple #[.slice none 0 0, .agg #[.int .i64 nx2, .int .i64 er2]]) (by simp [results, Tryz.results154, go_sem, y0, y1]) rfl ⟨.slice none 0 0, by rw [HFE3.out], by rw [HFE3.out]; exact World.ownsRow_nil _ _ _ _, (HFC.out _ _).drew⟩
      · have he1' : (er1 != 0) = true := by simpa using he1
        have hfe2 := HFE.out
        rw [if_pos he1] at hfe2
        have HFE2 := hid hfe2
        clear hfe2 HFE
        go_wp2
        rw [← hwB]
        clear hwB
        go_region
        all_goals
          go_wp2
          exact bodyPost_ret (v := .tuple #[.slice none 0 0, .agg #[.int .i64 nx1, .int .i64 er1]]) (by simp [results, Tryz.results154, go_sem, y0, y1]) rfl ⟨.slice none 0 0, by rw [HFE2.out], by rw [HFE2.out]; exact World.ownsRow_nil _ _ _ _, (HFB.out _ _).drew⟩
    · have hje : j = n := by omega
      have hjn' : decide ((j : Int) + 1 ≤ (n : Int)) = false := by simp; omega
      have hfe2 : fin = (pre, at1, 0) := by rw [hfe, show n - j = 0 by omega]; rfl
      have HFE2 := hid hfe2
      have HPL := hid hpre
      have y0 : wr.cell? ⟨w.heap.size + 1, 0, none⟩ = some (.int .i64 0) := by simp [World.cell?, hk1]
      have y1 : wr.cell? ⟨w.heap.size + 1, 1, none⟩ = some (.int .i64 0) := by simp [World.cell?, hk1]
      have fy0 : wr.frozen? ⟨w.heap.size + 1, 0, none⟩ = false := by simp [World.frozen?, hk1]
      have fy1 : wr.frozen? ⟨w.heap.size + 1, 1, none⟩ = false := by simp [World.frozen?, hk1]
      have HFR := hid (fun (u v : Value) => (hbel.setCell (p := ⟨w.heap.size + 1, 0, none⟩) (by show w.heap.size ≤ w.heap.size + 1; omega) u).setCell (p := ⟨w.heap.size + 1, 1, none⟩) (by show w.heap.size ≤ w.heap.size + 1; omega) v)
      have HON := hid (fun (u v : Value) => ownsRow_setCell_other (ownsRow_setCell_other hown (a := ⟨w.heap.size + 1, 0, none⟩) (fun e => by have := (hown.lt _ e).1; simp only at this; omega) u) (a := ⟨w.heap.size + 1, 1, none⟩) (fun e => by have := (hown.lt _ e).1; simp only at this; omega) v)
      have HOW := hid hown
      clear hfe hfe2 hown hbel hk0 hk1 hje
      go_wp2
      go_region
      all_goals
        go_wp2
        exact bodyPost_ret (v := .tuple #[.slice va j vc, .agg #[.int .i64 at1, .int .i64 0]]) (by simp [results, Tryz.results154, go_sem, y0, y1]) rfl ⟨.slice va j vc, by rw [HFE2.out], by rw [HFE2.out]; dsimp only; rw [HPL.out]; exact owns_low7 (HON.out _ _) (by omega), (HFR.out _ _).drew⟩
end Go.Proofs.YtffnfjkjlmlonaaGreatDoor
