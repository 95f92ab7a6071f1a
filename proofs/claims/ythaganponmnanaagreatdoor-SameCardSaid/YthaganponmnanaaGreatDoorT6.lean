/- Contract of unfoldkeep's op: an op made well-formed. -/
import Derived.Test.YthaganponmnanaaGreatDoorZ38
namespace Go.Proofs.YthaganponmnanaaGreatDoor
open Go.RowKit

set_option maxHeartbeats 4000000 in
set_option maxRecDepth 100000 in
theorem kOp_any (l : List FnD) (la : Option Addr) (lcap : Nat) (f : Nat) (n : Nat) (o : OpD) (oa : Option Addr) (ocap : Nat) (ahead : Bool) (hd : FnD) (w : World)
    (hl : RdHd w la lcap l) (hok : HeadsOk l) (hf : l[f]? = some hd) (hl12 : l.length ≤ 12) (hn : 1 ≤ n ∧ n ≤ 30) (ho : Rd .i64 w oa o.args.length ocap o.args) (hraw : RawOp o) :
    Calls Tryz.prog 21 #[.slice la l.length lcap, .int .i64 f, .int .i64 n, .agg #[.int .i64 o.code, .int .i64 o.line, .int .i64 o.a, .int .i64 o.b, .int .i64 o.c, .slice oa o.args.length ocap], .bool ahead] w fun e w' =>
      ∃ (x : OpD) (av : Value), e = .returned (.agg #[.int .i64 x.code, .int .i64 x.line, .int .i64 x.a, .int .i64 x.b, .int .i64 x.c, av]) ∧ OpFit l hd.locals n (if ahead then f + 1 else 0) x ∧
        w'.ownsRow w.heap.size 3 1 av x.args.length (ints x.args) ∧ Below w.heap.size w w' := by
  have HRL := hid hl
  have HOK := hid hok
  have HO := hid ho
  obtain ⟨hq0, hq1, -⟩ := hl
  unfold maxLen at hq1
  have hfl : f < l.length := (List.getElem?_eq_some_iff.1 hf).1
  obtain ⟨lb, loff, rfl, -, l3⟩ := HRL.out.2.2 f hd hf
  obtain ⟨-, -, hloc, -⟩ := hok f hd hf
  obtain ⟨hr0, hr1, hr2, hr3, hr4, hr5⟩ := hraw
  obtain ⟨code, line, oA, oB, oC, args⟩ := o
  dsimp only at hr0 hr1 hr2 hr3 hr4 hr5 HO ⊢
  obtain ⟨ll, hll⟩ : ∃ v, v = l.length := ⟨_, rfl⟩
  obtain ⟨na, hna⟩ : ∃ v, v = args.length := ⟨_, rfl⟩
  rw [← hll] at hq0 hfl hl12 ⊢
  rw [← hna] at HO ⊢
  have HLL := hid hll
  have HNA := hid hna
  obtain ⟨LC, hLC⟩ : ∃ v, v = hd.locals := ⟨_, rfl⟩
  rw [← hLC] at l3 hloc ⊢
  have HF := hid hf
  clear hok hf ho hll hna hLC
  obtain ⟨A, hA⟩ : ∃ v, v = RowKit.wrap64 (line - 1) := ⟨_, rfl⟩
  have hA1 : R64 A := by rw [hA]; exact r64_wrap _
  have hfl' : (f : Int) < (ll : Int) := by omega
  have HC0 := hid (fun W => pick_any code 7 W hr0.1 hr0.2 (by omega) (by omega))
  have HC1 := hid (fun W => pick_any A 9999 W hA1.1 hA1.2 (by omega) (by omega))
  have HC2 := hid (fun W => pick_any oA LC W hr2.1 hr2.2 (by omega) (by omega))
  have HC3 := hid (fun W => pick_any oB LC W hr3.1 hr3.2 (by omega) (by omega))
  have HC4 := hid (fun W => pick_any oC LC W hr4.1 hr4.2 (by omega) (by omega))
  have HA := hid hA
  clear hA
  obtain ⟨pc, hpc⟩ : ∃ v, v = pickI code 7 := ⟨_, rfl⟩
  obtain ⟨pln, hpln⟩ : ∃ v, v = pickI A 9999 := ⟨_, rfl⟩
  obtain ⟨pA, hpA⟩ : ∃ v, v = pickI oA LC := ⟨_, rfl⟩
  obtain ⟨pB, hpB⟩ : ∃ v, v = pickI oB LC := ⟨_, rfl⟩
  obtain ⟨pC, hpC⟩ : ∃ v, v = pickI oC LC := ⟨_, rfl⟩
  have b0 : 0 ≤ pc ∧ pc < 7 := by rw [hpc]; exact pickI_lt _ (by omega)
  have b1 : 0 ≤ pln ∧ pln < 9999 := by rw [hpln]; exact pickI_lt _ (by omega)
  have b2 : 0 ≤ pA ∧ pA < LC := by rw [hpA]; exact pickI_lt _ (by omega)
  have b3 : 0 ≤ pB ∧ pB < LC := by rw [hpB]; exact pickI_lt _ (by omega)
  have b4 : 0 ≤ pC ∧ pC < LC := by rw [hpC]; exact pickI_lt _ (by omega)
  rw [← hpc] at HC0
  rw [← hpln] at HC1
  rw [← hpA] at HC2
  rw [← hpB] at HC3
  rw [← hpC] at HC4
  clear hpc hpln hpA hpB hpC
  obtain ⟨wb, hwb⟩ : ∃ v, v = (w.alloc (Obj.cells #[.int .i64 code, .int .i64 line, .int .i64 oA, .int .i64 oB, .int .i64 oC, .slice oa na ocap] 70)).alloc (Obj.cells #[.int .i64 0, .int .i64 0, .int .i64 0, .int .i64 0, .int .i64 0, .slice none 0 0] 70) := ⟨_, rfl⟩
  have hbb : Below w.heap.size w wb := by rw [hwb]; exact ((Below.refl _ _).alloc (Nat.le_refl _) _).alloc (by simp) _
  have hbs : wb.heap.size = w.heap.size + 2 := by rw [hwb]; simp
  have k0 : wb.heap[w.heap.size]? = some (.cells #[.int .i64 code, .int .i64 line, .int .i64 oA, .int .i64 oB, .int .i64 oC, .slice oa na ocap] 70 (0, 0)) := by rw [hwb]; exact heap_at1 (by simp) (heap_new_at rfl)
  have k1 : wb.heap[w.heap.size + 1]? = some (.cells #[.int .i64 0, .int .i64 0, .int .i64 0, .int .i64 0, .int .i64 0, .slice none 0 0] 70 (0, 0)) := by rw [hwb]; exact heap_new_at (by simp)
  obtain ⟨OV, hOV⟩ : ∃ v : Array Value, v = #[.int .i64 code, .int .i64 line, .int .i64 oA, .int .i64 oB, .int .i64 oC, .slice oa na ocap] := ⟨_, rfl⟩
  have v1 : OV[1]? = some (.int .i64 line) := by rw [hOV]; rfl
  have v2 : OV[2]? = some (.int .i64 oA) := by rw [hOV]; rfl
  have v3 : OV[3]? = some (.int .i64 oB) := by rw [hOV]; rfl
  have v4 : OV[4]? = some (.int .i64 oC) := by rw [hOV]; rfl
  have v5 : OV[5]? = some (.slice oa na ocap) := by rw [hOV]; rfl
  rw [← hOV] at k0
  have HOV := hid hOV
  clear hOV
  have HK0 := hid k0
  obtain ⟨w2, hw2⟩ : ∃ v, v = wb.alloc (Obj.cells #[.int .i64 pc, .int .i64 0, .int .i64 0, .int .i64 0, .int .i64 0, .slice none 0 0] 70) := ⟨_, rfl⟩
  have q2 : OpW w OV w2 #[.int .i64 pc, .int .i64 0, .int .i64 0, .int .i64 0, .int .i64 0, .slice none 0 0] := by
    rw [hw2]
    exact ⟨hbb.alloc (by omega) _, heap_at1 (by omega) k0, heap_at1 (by omega) k1, heap_new_at hbs⟩
  obtain ⟨w3, hw3⟩ : ∃ v, v = w2.setCell ⟨w.heap.size + 2, 1, none⟩ (.int .i64 (1 + pln)) := ⟨_, rfl⟩
  have q3 := q2.set 1 (.int .i64 (1 + pln)) _ rfl
  rw [← hw3] at q3
  obtain ⟨w4, hw4⟩ : ∃ v, v = w3.setCell ⟨w.heap.size + 2, 2, none⟩ (.int .i64 pA) := ⟨_, rfl⟩
  have q4 := q3.set 2 (.int .i64 pA) _ rfl
  rw [← hw4] at q4
  obtain ⟨w5, hw5⟩ : ∃ v, v = w4.setCell ⟨w.heap.size + 2, 3, none⟩ (.int .i64 pB) := ⟨_, rfl⟩
  have q5 := q4.set 3 (.int .i64 pB) _ rfl
  rw [← hw5] at q5
  obtain ⟨w6, hw6⟩ : ∃ v, v = w5.setCell ⟨w.heap.size + 2, 4, none⟩ (.int .i64 pC) := ⟨_, rfl⟩
  have q6 := q5.set 4 (.int .i64 pC) _ rfl
  rw [← hw6] at q6
  have HQ2 := hid q2
  have HQ3 := hid q3
  have HQ4 := hid q4
  have HQ5 := hid q5
  have HQ6 : Hid (OpW w OV w6 #[.int .i64 pc, .int .i64 (1 + pln), .int .i64 pA, .int .i64 pB, .int .i64 pC, .slice none 0 0]) := hid q6
  have HW2 := hid hw2
  have HW3 := hid hw3
  have HW4 := hid hw4
  have HW5 := hid hw5
  have HW6 := hid hw6
  clear q2 q3 q4 q5 q6 hw2 hw3 hw4 hw5 hw6 k0 k1
  have hlb : lb < w.heap.size := World.block_lt_of_cell? w _ l3
  go_enter Tryz.func21, Tryz.ntmps21
  go_wp2_with fail
  rw [← hwb]
  clear hwb
  refine (HC0.out wb).mono ?_
  rintro e w' ⟨rfl, he⟩
  rw [he]
  clear he w' l3
  have c1 : wb.cell? ⟨w.heap.size, 1, none⟩ = some (.int .i64 line) := by simp [World.cell?, HK0.out, v1]
  go_wp2_with fail
  rw [← HW2.out]
  clear c1
  have hx2 : w.heap.size + 1 + 1 = w.heap.size + 2 := rfl
  rw [hx2]
  rw [← HA.out]
  refine (HC1.out w2).mono ?_
  rintro e w' ⟨rfl, he⟩
  rw [he]
  clear he w'
  have c2 := HQ2.out.o 2 _ v2
  have x2 := HQ2.out.x 1 _ rfl
  have f2 := HQ2.out.fx 1
  go_wp2_with fail
  rw [← HW3.out]
  clear c2 x2 f2
  refine (HC2.out w3).mono ?_
  rintro e w' ⟨rfl, he⟩
  rw [he]
  clear he w'
  have c3 := HQ3.out.o 3 _ v3
  have x3 := HQ3.out.x 2 _ rfl
  have f3 := HQ3.out.fx 2
  go_wp2_with fail
  rw [← HW4.out]
  clear c3 x3 f3
  refine (HC3.out w4).mono ?_
  rintro e w' ⟨rfl, he⟩
  rw [he]
  clear he w'
  have c4 := HQ4.out.o 4 _ v4
  have x4 := HQ4.out.x 3 _ rfl
  have f4 := HQ4.out.fx 3
  go_wp2_with fail
  rw [← HW5.out]
  clear c4 x4 f4
  refine (HC4.out w5).mono ?_
  rintro e w' ⟨rfl, he⟩
  rw [he]
  clear he w'
  have y0 := HQ5.out.x 0 _ rfl
  have y3 := HQ5.out.x 3 _ rfl
  have x5 := HQ5.out.x 4 _ rfl
  have f5 := HQ5.out.fx 4
  have g0 := HQ5.out.fx 0
  have g3 := HQ5.out.fx 3
  have c3 := HQ5.out.o 3 _ v3
  have c5 := HQ5.out.o 5 _ v5
  cases ahead
  · have hF : decide ((0 : Int) = (ll : Int)) = false := by simp; omega
    rcases (by omega : pc = 0 ∨ pc = 4 ∨ pc = 5 ∨ pc = 6 ∨ pc = 1 ∨ pc = 2 ∨ pc = 3) with rfl | rfl | rfl | rfl | rfl | rfl | rfl
    · have HP := hid (fun W => pick_any oB 1000 W hr3.1 hr3.2 (by omega) (by omega))
      have HPB := hid (pickI_lt oB (n := 1000) (by omega))
      generalize pickI oB 1000 = b9 at *
      go_wp2_with fail
      rw [← HW6.out]
      clear y0 y3 x5 f5 g0 g3 c3 c5
      refine (HP.out _).mono ?_
      rintro e w' ⟨rfl, he⟩
      rw [he]
      clear he w'
      have z0 := HQ6.out.x 0 _ rfl
      have z1 := HQ6.out.x 1 _ rfl
      have z2 := HQ6.out.x 2 _ rfl
      have z3 := HQ6.out.x 3 _ rfl
      have z4 := HQ6.out.x 4 _ rfl
      have z5 := HQ6.out.x 5 _ rfl
      have gz0 := HQ6.out.fx 0
      have gz3 := HQ6.out.fx 3
      have r0 := HQ6.out.r 0 _ rfl
      have r1 := HQ6.out.r 1 _ rfl
      have r2 := HQ6.out.r 2 _ rfl
      have r3 := HQ6.out.r 3 _ rfl
      have r4 := HQ6.out.r 4 _ rfl
      have r5 := HQ6.out.r 5 _ rfl
      have t0 := HQ6.out.fr 0
      have t1 := HQ6.out.fr 1
      have t2 := HQ6.out.fr 2
      have t3 := HQ6.out.fr 3
      have t4 := HQ6.out.fr 4
      have t5 := HQ6.out.fr 5
      go_wp2
      obtain ⟨wF, hwF, y0, y1, y2, y3, y4, y5, hbF, -, -⟩ := (HQ6.out.set 3 (.int .i64 b9) _ rfl).res (.int .i64 0) (.int .i64 (1 + pln)) (.int .i64 pA) (.int .i64 b9) (.int .i64 pC) (.slice none 0 0)
      rw [← hwF]
      refine bodyPost_ret (v := .agg #[.int .i64 0, .int .i64 (1 + pln), .int .i64 pA, .int .i64 b9, .int .i64 pC, .slice none 0 0]) (by simp [results, Tryz.results21, go_sem, y0, y1, y2, y3, y4, y5]) rfl ?_
      refine ⟨⟨0, 1 + pln, pA, b9, pC, []⟩, _, rfl, ⟨⟨by simp; omega, by simp; omega⟩, by simp [withB]; omega, .inr (.inl ⟨rfl, by have := HPB.out; simp [withB]; omega⟩)⟩, World.ownsRow_nil _ _ _ _, hbF⟩
    · have HP := hid (fun W => pick_any oB n W hr3.1 hr3.2 (by omega) (by omega))
      have HPB := hid (pickI_lt oB (n := n) (by omega))
      generalize pickI oB n = b9 at *
      go_wp2_with fail
      rw [← HW6.out]
      clear y0 y3 x5 f5 g0 g3 c3 c5
      refine (HP.out _).mono ?_
      rintro e w' ⟨rfl, he⟩
      rw [he]
      clear he w'
      have z0 := HQ6.out.x 0 _ rfl
      have z1 := HQ6.out.x 1 _ rfl
      have z2 := HQ6.out.x 2 _ rfl
      have z3 := HQ6.out.x 3 _ rfl
      have z4 := HQ6.out.x 4 _ rfl
      have z5 := HQ6.out.x 5 _ rfl
      have gz0 := HQ6.out.fx 0
      have gz3 := HQ6.out.fx 3
      have r0 := HQ6.out.r 0 _ rfl
      have r1 := HQ6.out.r 1 _ rfl
      have r2 := HQ6.out.r 2 _ rfl
      have r3 := HQ6.out.r 3 _ rfl
      have r4 := HQ6.out.r 4 _ rfl
      have r5 := HQ6.out.r 5 _ rfl
      have t0 := HQ6.out.fr 0
      have t1 := HQ6.out.fr 1
      have t2 := HQ6.out.fr 2
      have t3 := HQ6.out.fr 3
      have t4 := HQ6.out.fr 4
      have t5 := HQ6.out.fr 5
      go_wp2
      obtain ⟨wF, hwF, y0, y1, y2, y3, y4, y5, hbF, -, -⟩ := (HQ6.out.set 3 (.int .i64 b9) _ rfl).res (.int .i64 4) (.int .i64 (1 + pln)) (.int .i64 pA) (.int .i64 b9) (.int .i64 pC) (.slice none 0 0)
      rw [← hwF]
      refine bodyPost_ret (v := .agg #[.int .i64 4, .int .i64 (1 + pln), .int .i64 pA, .int .i64 b9, .int .i64 pC, .slice none 0 0]) (by simp [results, Tryz.results21, go_sem, y0, y1, y2, y3, y4, y5]) rfl ?_
      refine ⟨⟨4, 1 + pln, pA, b9, pC, []⟩, _, rfl, ⟨⟨by simp; omega, by simp; omega⟩, by simp [withB]; omega, .inr (.inr (.inr (.inl ⟨rfl, by have := HPB.out; simp [withB]; omega⟩)))⟩, World.ownsRow_nil _ _ _ _, hbF⟩
    · have HP := hid (fun W => pick_any oB ll W hr3.1 hr3.2 (by omega) (by omega))
      have HPB := pickI_lt oB (n := ll) (by omega)
      generalize pickI oB ll = b9 at *
      obtain ⟨bn, rfl⟩ : ∃ v : Nat, b9 = (v : Int) := ⟨b9.toNat, by omega⟩
      have hbl : bn < ll := by omega
      go_wp2_with fail
      rw [← HW6.out]
      clear y0 y3 x5 f5 g0 g3 c3 c5
      refine (HP.out _).mono ?_
      rintro e w' ⟨rfl, he⟩
      rw [he]
      clear he w'
      have hB : decide ((bn : Int) < 0) = false := by simp
      have z3 := HQ6.out.x 3 _ rfl
      have gz3 := HQ6.out.fx 3
      go_wp2
      obtain ⟨w7, hw7⟩ : ∃ v, v = w6.setCell ⟨w.heap.size + 2, 3, none⟩ (.int .i64 bn) := ⟨_, rfl⟩
      have HQ7 := hid (HQ6.out.set 3 (.int .i64 bn) _ rfl)
      rw [← hw7] at HQ7 ⊢
      clear z3 gz3 hw7 hB
      obtain ⟨y, hy⟩ : ∃ y, l[bn]? = some y := ⟨_, List.getElem?_eq_getElem (by have := HLL.out; omega)⟩
      obtain ⟨PP, hPP, hP8⟩ : ∃ v : Nat, (v : Int) = y.params ∧ v ≤ 8 := by
        obtain ⟨-, -, h1, h2⟩ := HOK.out _ _ hy
        exact ⟨y.params.toNat, by omega, by omega⟩
      obtain ⟨lb', loff', e1, p2, -⟩ := HRL.out.2.2 _ y hy
      cases e1
      rw [← hPP] at p2
      have HP2 := hid p2
      have HY := hid hy
      have HPP := hid hPP
      have hbn : (bn : Int) < (ll : Int) := by omega
      obtain ⟨i0, hi, hz0, hz1, hz2⟩ := info_parts Tryz.infoInt
      clear hy p2 hPP
      go_loopw [14, 15, 16] (fun i _ _ wr => ∃ (k : Nat) (xs : List Int) (av : Value), i = .int .i64 k ∧ k ≤ PP ∧ xs.length = k ∧ (∀ a ∈ xs, withB a LC = true) ∧ OpW w OV wr #[.int .i64 5, .int .i64 (1 + pln), .int .i64 pA, .int .i64 bn, .int .i64 pC, av] ∧ wr.ownsRow (w.heap.size + 3) 3 1 av k (ints xs)) (fun i _ _ _ => PP - (intOf i).toNat)
      case atStart => exact ⟨0, [], _, rfl, by omega, rfl, by simp, HQ7.out, World.ownsRow_nil _ _ _ _⟩
      case round =>
        obtain ⟨k, xs, av, rfl, hk, has, hall, hq, hown⟩ := hrel
        have hsz := hq.size
        have q3 := hq.x 3 _ rfl
        have q5 := hq.x 5 _ rfl
        have cc5 := hq.o 5 _ v5
        have p2 : wr.cell? ⟨lb, loff + bn * 5 + 2, none⟩ = some (.int .i64 PP) := (hq.1.cell (World.block_lt_of_cell? w _ HP2.out)).trans HP2.out
        have hlb2 : lb < wr.heap.size := by omega
        have HOW := hid hown
        have HQR := hid hq
        have HALL := hid hall
        have HAS := hid has
        by_cases hkp : k < PP
        · have hkp' : (k : Int) < (PP : Int) := by omega
          obtain ⟨raw, hraw⟩ : ∃ raw, raw = if k < na then args.getD k 0 else 0 := ⟨_, rfl⟩
          have hR : R64 raw := by
            rw [hraw]
            split
            · next h =>
              have hm : args.getD k 0 ∈ args := by
                rw [List.getD, List.getElem?_eq_getElem (by rw [← HNA.out]; exact h)]
                exact List.getElem_mem _
              exact hr5 _ hm
            · exact ⟨by omega, by omega⟩
          have HPK := hid (fun W => pick_any raw LC W hR.1 hR.2 (by omega) (by omega))
          have HPL := hid (pickI_lt raw (n := LC) (by omega))
          generalize pickI raw LC = a9 at HPK HPL
          by_cases hka : k < na
          · have hka' : (k : Int) < (na : Int) := by omega
            rw [if_pos hka] at hraw
            obtain ⟨ob, ooff, rfl, ho⟩ := HO.out.open (by omega)
            have o9 : wr.cell? ⟨ob, ooff + k, none⟩ = some (.int .i64 raw) := by
              rw [hraw]
              exact (hq.1.cell (World.block_lt_of_cell? w _ (ho k hka))).trans (ho k hka)
            have hob : ob < wr.heap.size := World.block_lt_of_cell? wr _ o9
            clear ho hraw hq hown hall has
            go_wp2_with fail
            refine (HPK.out wr).mono ?_
            rintro e w' ⟨rfl, he⟩
            rw [he]
            clear he w'
            go_wp2_with (at_builtin; refine wpList_append_own _ rfl (.tmp 121) (.tmp 123) 25 rfl (w.heap.size + 3) 3 i0 (.int .i64 0) 1 8 Tryz.underlying25 hi hz0 hz1 hz2 rfl (by decide) _ _ _ rfl (HOW.out.alloc _) ⟨wr.heap.size, 0, none⟩ 1 1 [.int .i64 a9] rfl rfl (new1_at rfl _ _) (one1 _) (by unfold maxLen; omega) (by omega) (by simp; omega) ?_)
            intro va w3 hown3 hgrow3 _
            have hb3 : Below (w.heap.size + 3) wr w3 := ((Below.refl _ _).alloc hsz _).grown hgrow3 (by simp; omega) (fun k hk => (HOW.out.lt k hk).1)
            obtain ⟨vg, vc, rfl⟩ : ∃ vg vc, va = .slice (some ⟨vg, 0, none⟩) (k + 1) vc := by
              rcases hown3.2 with ⟨h1, h2⟩ | ⟨g, c', cur, h1, _⟩
              · omega
              · exact ⟨_, _, h1⟩
            have hq3 := HQR.out.below hb3
            have s5 := hq3.x 5 _ rfl
            have g5 := hq3.fx 5
            have HQ3' := hid hq3
            have HO3 := hid hown3
            clear hown3 hgrow3 hb3 hq3 q3 q5 cc5 p2 o9
            go_wp2
            go_roundw
            case rel =>
              refine ⟨k + 1, xs ++ [a9], _, by go_num, by omega, by rw [List.length_append, HAS.out]; rfl, fun a ha => ?_, HQ3'.out.set 5 _ _ rfl, ownsRow_setCell_below (by simpa [ints] using HO3.out) (by simp) _⟩
              rcases List.mem_append.1 ha with h | h
              · exact HALL.out a h
              · rw [List.mem_singleton.1 h]
                have := HPL.out
                simp [withB]; omega
            case measure => simp [intOf]; omega
          · have hka' : decide ((k : Int) < (na : Int)) = false := by simp; omega
            rw [if_neg hka] at hraw
            subst hraw
            clear hq hown hall has
            go_wp2_with fail
            refine (HPK.out wr).mono ?_
            rintro e w' ⟨rfl, he⟩
            rw [he]
            clear he w'
            go_wp2_with (at_builtin; refine wpList_append_own _ rfl (.tmp 121) (.tmp 123) 25 rfl (w.heap.size + 3) 3 i0 (.int .i64 0) 1 8 Tryz.underlying25 hi hz0 hz1 hz2 rfl (by decide) _ _ _ rfl (HOW.out.alloc _) ⟨wr.heap.size, 0, none⟩ 1 1 [.int .i64 a9] rfl rfl (new1_at rfl _ _) (one1 _) (by unfold maxLen; omega) (by omega) (by simp; omega) ?_)
            intro va w3 hown3 hgrow3 _
            have hb3 : Below (w.heap.size + 3) wr w3 := ((Below.refl _ _).alloc hsz _).grown hgrow3 (by simp; omega) (fun k hk => (HOW.out.lt k hk).1)
            obtain ⟨vg, vc, rfl⟩ : ∃ vg vc, va = .slice (some ⟨vg, 0, none⟩) (k + 1) vc := by
              rcases hown3.2 with ⟨h1, h2⟩ | ⟨g, c', cur, h1, _⟩
              · omega
              · exact ⟨_, _, h1⟩
            have hq3 := HQR.out.below hb3
            have s5 := hq3.x 5 _ rfl
            have g5 := hq3.fx 5
            have HQ3' := hid hq3
            have HO3 := hid hown3
            clear hown3 hgrow3 hb3 hq3 q3 q5 cc5 p2
            go_wp2
            go_roundw
            case rel =>
              refine ⟨k + 1, xs ++ [a9], _, by go_num, by omega, by rw [List.length_append, HAS.out]; rfl, fun a ha => ?_, HQ3'.out.set 5 _ _ rfl, ownsRow_setCell_below (by simpa [ints] using HO3.out) (by simp) _⟩
              rcases List.mem_append.1 ha with h | h
              · exact HALL.out a h
              · rw [List.mem_singleton.1 h]
                have := HPL.out
                simp [withB]; omega
            case measure => simp [intOf]; omega
        · have HKE : Hid (k = PP) := hid (by omega)
          have hkp' : decide ((k : Int) < (PP : Int)) = false := by simp; omega
          obtain ⟨aa, acap, rfl⟩ : ∃ aa acap, av = .slice aa k acap := by
            rcases hown.2 with ⟨h1, h2⟩ | ⟨g, c', cur, h1, _⟩
            · exact ⟨none, 0, by rw [h1, h2]⟩
            · exact ⟨_, _, h1⟩
          have w0 := hq.x 0 _ rfl
          have w1 := hq.x 1 _ rfl
          have w2' := hq.x 2 _ rfl
          have w4' := hq.x 4 _ rfl
          have r0 := hq.r 0 _ rfl
          have r1 := hq.r 1 _ rfl
          have r2 := hq.r 2 _ rfl
          have r3 := hq.r 3 _ rfl
          have r4 := hq.r 4 _ rfl
          have r5 := hq.r 5 _ rfl
          have t0 := hq.fr 0
          have t1 := hq.fr 1
          have t2 := hq.fr 2
          have t3 := hq.fr 3
          have t4 := hq.fr 4
          have t5 := hq.fr 5
          clear hq hown hall has cc5
          go_wp2
          obtain ⟨wF, hwF, y0, y1, y2, y3, y4, y5, hbF, hsF, hoF⟩ := HQR.out.res (.int .i64 5) (.int .i64 (1 + pln)) (.int .i64 pA) (.int .i64 bn) (.int .i64 pC) (.slice aa k acap)
          rw [← hwF]
          refine bodyPost_ret (v := .agg #[.int .i64 5, .int .i64 (1 + pln), .int .i64 pA, .int .i64 bn, .int .i64 pC, .slice aa k acap]) (by simp [results, Tryz.results21, go_sem, y0, y1, y2, y3, y4, y5]) rfl ?_
          refine ⟨⟨5, 1 + pln, pA, bn, pC, xs⟩, _, by rw [← HAS.out], ⟨⟨by simp; omega, by simp; omega⟩, by simp [withB]; omega, .inr (.inr (.inr (.inr ⟨rfl, ⟨by simp <;> omega, by simp; have := HLL.out; omega⟩, ⟨y, by simpa using HY.out, by rw [HAS.out, HKE.out]; exact HPP.out.symm⟩, HALL.out⟩)))⟩, ?_, hbF⟩
          have hF : wF.ownsRow (w.heap.size + 3) 3 1 (.slice aa k acap) k (ints xs) := by
            rw [hwF]
            repeat (refine ownsRow_setCell_below ?_ (by simp) _)
            exact HOW.out
          rw [HAS.out]
          exact owns_low9 hF (by omega)
    · clear y0 y3 x5 g0 g3 c3 c5
      have z0 := HQ5.out.x 0 _ rfl
      have z1 := HQ5.out.x 1 _ rfl
      have z2 := HQ5.out.x 2 _ rfl
      have z3 := HQ5.out.x 3 _ rfl
      have z4 := HQ5.out.x 4 _ rfl
      have z5 := HQ5.out.x 5 _ rfl
      have gz0 := HQ5.out.fx 0
      have gz3 := HQ5.out.fx 3
      have r0 := HQ5.out.r 0 _ rfl
      have r1 := HQ5.out.r 1 _ rfl
      have r2 := HQ5.out.r 2 _ rfl
      have r3 := HQ5.out.r 3 _ rfl
      have r4 := HQ5.out.r 4 _ rfl
      have r5 := HQ5.out.r 5 _ rfl
      have t0 := HQ5.out.fr 0
      have t1 := HQ5.out.fr 1
      have t2 := HQ5.out.fr 2
      have t3 := HQ5.out.fr 3
      have t4 := HQ5.out.fr 4
      have t5 := HQ5.out.fr 5
      go_wp2
      rw [← HW6.out]
      obtain ⟨wF, hwF, y0, y1, y2, y3, y4, y5, hbF, -, -⟩ := HQ6.out.res (.int .i64 6) (.int .i64 (1 + pln)) (.int .i64 pA) (.int .i64 pB) (.int .i64 pC) (.slice none 0 0)
      rw [← hwF]
      refine bodyPost_ret (v := .agg #[.int .i64 6, .int .i64 (1 + pln), .int .i64 pA, .int .i64 pB, .int .i64 pC, .slice none 0 0]) (by simp [results, Tryz.results21, go_sem, y0, y1, y2, y3, y4, y5]) rfl ?_
      refine ⟨⟨6, 1 + pln, pA, pB, pC, []⟩, _, rfl, ⟨⟨by simp; omega, by simp; omega⟩, by simp [withB]; omega, .inl rfl⟩, World.ownsRow_nil _ _ _ _, hbF⟩
    · clear y0 y3 x5 g0 g3 c3 c5
      have z0 := HQ5.out.x 0 _ rfl
      have z1 := HQ5.out.x 1 _ rfl
      have z2 := HQ5.out.x 2 _ rfl
      have z3 := HQ5.out.x 3 _ rfl
      have z4 := HQ5.out.x 4 _ rfl
      have z5 := HQ5.out.x 5 _ rfl
      have gz0 := HQ5.out.fx 0
      have gz3 := HQ5.out.fx 3
      have r0 := HQ5.out.r 0 _ rfl
      have r1 := HQ5.out.r 1 _ rfl
      have r2 := HQ5.out.r 2 _ rfl
      have r3 := HQ5.out.r 3 _ rfl
      have r4 := HQ5.out.r 4 _ rfl
      have r5 := HQ5.out.r 5 _ rfl
      have t0 := HQ5.out.fr 0
      have t1 := HQ5.out.fr 1
      have t2 := HQ5.out.fr 2
      have t3 := HQ5.out.fr 3
      have t4 := HQ5.out.fr 4
      have t5 := HQ5.out.fr 5
      go_wp2
      rw [← HW6.out]
      obtain ⟨wF, hwF, y0, y1, y2, y3, y4, y5, hbF, -, -⟩ := HQ6.out.res (.int .i64 1) (.int .i64 (1 + pln)) (.int .i64 pA) (.int .i64 pB) (.int .i64 pC) (.slice none 0 0)
      rw [← hwF]
      refine bodyPost_ret (v := .agg #[.int .i64 1, .int .i64 (1 + pln), .int .i64 pA, .int .i64 pB, .int .i64 pC, .slice none 0 0]) (by simp [results, Tryz.results21, go_sem, y0, y1, y2, y3, y4, y5]) rfl ?_
      refine ⟨⟨1, 1 + pln, pA, pB, pC, []⟩, _, rfl, ⟨⟨by simp; omega, by simp; omega⟩, by simp [withB]; omega, .inr (.inr (.inl ⟨by simp, by simp [withB]; omega, by simp [withB]; omega⟩))⟩, World.ownsRow_nil _ _ _ _, hbF⟩
    · clear y0 y3 x5 g0 g3 c3 c5
      have z0 := HQ5.out.x 0 _ rfl
      have z1 := HQ5.out.x 1 _ rfl
      have z2 := HQ5.out.x 2 _ rfl
      have z3 := HQ5.out.x 3 _ rfl
      have z4 := HQ5.out.x 4 _ rfl
      have z5 := HQ5.out.x 5 _ rfl
      have gz0 := HQ5.out.fx 0
      have gz3 := HQ5.out.fx 3
      have r0 := HQ5.out.r 0 _ rfl
      have r1 := HQ5.out.r 1 _ rfl
      have r2 := HQ5.out.r 2 _ rfl
      have r3 := HQ5.out.r 3 _ rfl
      have r4 := HQ5.out.r 4 _ rfl
      have r5 := HQ5.out.r 5 _ rfl
      have t0 := HQ5.out.fr 0
      have t1 := HQ5.out.fr 1
      have t2 := HQ5.out.fr 2
      have t3 := HQ5.out.fr 3
      have t4 := HQ5.out.fr 4
      have t5 := HQ5.out.fr 5
      go_wp2
      rw [← HW6.out]
      obtain ⟨wF, hwF, y0, y1, y2, y3, y4, y5, hbF, -, -⟩ := HQ6.out.res (.int .i64 2) (.int .i64 (1 + pln)) (.int .i64 pA) (.int .i64 pB) (.int .i64 pC) (.slice none 0 0)
      rw [← hwF]
      refine bodyPost_ret (v := .agg #[.int .i64 2, .int .i64 (1 + pln), .int .i64 pA, .int .i64 pB, .int .i64 pC, .slice none 0 0]) (by simp [results, Tryz.results21, go_sem, y0, y1, y2, y3, y4, y5]) rfl ?_
      refine ⟨⟨2, 1 + pln, pA, pB, pC, []⟩, _, rfl, ⟨⟨by simp; omega, by simp; omega⟩, by simp [withB]; omega, .inr (.inr (.inl ⟨by simp, by simp [withB]; omega, by simp [withB]; omega⟩))⟩, World.ownsRow_nil _ _ _ _, hbF⟩
    · clear y0 y3 x5 g0 g3 c3 c5
      have z0 := HQ5.out.x 0 _ rfl
      have z1 := HQ5.out.x 1 _ rfl
      have z2 := HQ5.out.x 2 _ rfl
      have z3 := HQ5.out.x 3 _ rfl
      have z4 := HQ5.out.x 4 _ rfl
      have z5 := HQ5.out.x 5 _ rfl
      have gz0 := HQ5.out.fx 0
      have gz3 := HQ5.out.fx 3
      have r0 := HQ5.out.r 0 _ rfl
      have r1 := HQ5.out.r 1 _ rfl
      have r2 := HQ5.out.r 2 _ rfl
      have r3 := HQ5.out.r 3 _ rfl
      have r4 := HQ5.out.r 4 _ rfl
      have r5 := HQ5.out.r 5 _ rfl
      have t0 := HQ5.out.fr 0
      have t1 := HQ5.out.fr 1
      have t2 := HQ5.out.fr 2
      have t3 := HQ5.out.fr 3
      have t4 := HQ5.out.fr 4
      have t5 := HQ5.out.fr 5
      go_wp2
      rw [← HW6.out]
      obtain ⟨wF, hwF, y0, y1, y2, y3, y4, y5, hbF, -, -⟩ := HQ6.out.res (.int .i64 3) (.int .i64 (1 + pln)) (.int .i64 pA) (.int .i64 pB) (.int .i64 pC) (.slice none 0 0)
      rw [← hwF]
      refine bodyPost_ret (v := .agg #[.int .i64 3, .int .i64 (1 + pln), .int .i64 pA, .int .i64 pB, .int .i64 pC, .slice none 0 0]) (by simp [results, Tryz.results21, go_sem, y0, y1, y2, y3, y4, y5]) rfl ?_
      refine ⟨⟨3, 1 + pln, pA, pB, pC, []⟩, _, rfl, ⟨⟨by simp; omega, by simp; omega⟩, by simp [withB]; omega, .inr (.inr (.inl ⟨by simp, by simp [withB]; omega, by simp [withB]; omega⟩))⟩, World.ownsRow_nil _ _ _ _, hbF⟩
  · obtain ⟨F, hFd⟩ : ∃ v : Nat, v = f + 1 := ⟨_, rfl⟩
    have HFd := hid hFd
    clear hFd
    rcases (by omega : pc = 0 ∨ pc = 4 ∨ pc = 5 ∨ pc = 6 ∨ pc = 1 ∨ pc = 2 ∨ pc = 3) with rfl | rfl | rfl | rfl | rfl | rfl | rfl
    · have HP := hid (fun W => pick_any oB 1000 W hr3.1 hr3.2 (by omega) (by omega))
      have HPB := hid (pickI_lt oB (n := 1000) (by omega))
      generalize pickI oB 1000 = b9 at *
      go_wp2_with fail
      rw [← HW6.out]
      clear y0 y3 x5 f5 g0 g3 c3 c5
      refine (HP.out _).mono ?_
      rintro e w' ⟨rfl, he⟩
      rw [he]
      clear he w'
      have z0 := HQ6.out.x 0 _ rfl
      have z1 := HQ6.out.x 1 _ rfl
      have z2 := HQ6.out.x 2 _ rfl
      have z3 := HQ6.out.x 3 _ rfl
      have z4 := HQ6.out.x 4 _ rfl
      have z5 := HQ6.out.x 5 _ rfl
      have gz0 := HQ6.out.fx 0
      have gz3 := HQ6.out.fx 3
      have r0 := HQ6.out.r 0 _ rfl
      have r1 := HQ6.out.r 1 _ rfl
      have r2 := HQ6.out.r 2 _ rfl
      have r3 := HQ6.out.r 3 _ rfl
      have r4 := HQ6.out.r 4 _ rfl
      have r5 := HQ6.out.r 5 _ rfl
      have t0 := HQ6.out.fr 0
      have t1 := HQ6.out.fr 1
      have t2 := HQ6.out.fr 2
      have t3 := HQ6.out.fr 3
      have t4 := HQ6.out.fr 4
      have t5 := HQ6.out.fr 5
      go_wp2
      obtain ⟨wF, hwF, y0, y1, y2, y3, y4, y5, hbF, -, -⟩ := (HQ6.out.set 3 (.int .i64 b9) _ rfl).res (.int .i64 0) (.int .i64 (1 + pln)) (.int .i64 pA) (.int .i64 b9) (.int .i64 pC) (.slice none 0 0)
      rw [← hwF]
      refine bodyPost_ret (v := .agg #[.int .i64 0, .int .i64 (1 + pln), .int .i64 pA, .int .i64 b9, .int .i64 pC, .slice none 0 0]) (by simp [results, Tryz.results21, go_sem, y0, y1, y2, y3, y4, y5]) rfl ?_
      refine ⟨⟨0, 1 + pln, pA, b9, pC, []⟩, _, rfl, ⟨⟨by simp; omega, by simp; omega⟩, by simp [withB]; omega, .inr (.inl ⟨rfl, by have := HPB.out; simp [withB]; omega⟩)⟩, World.ownsRow_nil _ _ _ _, hbF⟩
    · have HP := hid (fun W => pick_any oB n W hr3.1 hr3.2 (by omega) (by omega))
      have HPB := hid (pickI_lt oB (n := n) (by omega))
      generalize pickI oB n = b9 at *
      go_wp2_with fail
      rw [← HW6.out]
      clear y0 y3 x5 f5 g0 g3 c3 c5
      refine (HP.out _).mono ?_
      rintro e w' ⟨rfl, he⟩
      rw [he]
      clear he w'
      have z0 := HQ6.out.x 0 _ rfl
      have z1 := HQ6.out.x 1 _ rfl
      have z2 := HQ6.out.x 2 _ rfl
      have z3 := HQ6.out.x 3 _ rfl
      have z4 := HQ6.out.x 4 _ rfl
      have z5 := HQ6.out.x 5 _ rfl
      have gz0 := HQ6.out.fx 0
      have gz3 := HQ6.out.fx 3
      have r0 := HQ6.out.r 0 _ rfl
      have r1 := HQ6.out.r 1 _ rfl
      have r2 := HQ6.out.r 2 _ rfl
      have r3 := HQ6.out.r 3 _ rfl
      have r4 := HQ6.out.r 4 _ rfl
      have r5 := HQ6.out.r 5 _ rfl
      have t0 := HQ6.out.fr 0
      have t1 := HQ6.out.fr 1
      have t2 := HQ6.out.fr 2
      have t3 := HQ6.out.fr 3
      have t4 := HQ6.out.fr 4
      have t5 := HQ6.out.fr 5
      go_wp2
      obtain ⟨wF, hwF, y0, y1, y2, y3, y4, y5, hbF, -, -⟩ := (HQ6.out.set 3 (.int .i64 b9) _ rfl).res (.int .i64 4) (.int .i64 (1 + pln)) (.int .i64 pA) (.int .i64 b9) (.int .i64 pC) (.slice none 0 0)
      rw [← hwF]
      refine bodyPost_ret (v := .agg #[.int .i64 4, .int .i64 (1 + pln), .int .i64 pA, .int .i64 b9, .int .i64 pC, .slice none 0 0]) (by simp [results, Tryz.results21, go_sem, y0, y1, y2, y3, y4, y5]) rfl ?_
      refine ⟨⟨4, 1 + pln, pA, b9, pC, []⟩, _, rfl, ⟨⟨by simp; omega, by simp; omega⟩, by simp [withB]; omega, .inr (.inr (.inr (.inl ⟨rfl, by have := HPB.out; simp [withB]; omega⟩)))⟩, World.ownsRow_nil _ _ _ _, hbF⟩
    · by_cases hFl : f + 1 = ll
      · have hF : (f : Int) + 1 = (ll : Int) := by omega
        have HP := hid (fun W => pick_any oB 1000 W hr3.1 hr3.2 (by omega) (by omega))
        have HPB := hid (pickI_lt oB (n := 1000) (by omega))
        generalize pickI oB 1000 = b9 at *
        obtain ⟨w7, hw7⟩ : ∃ v, v = w6.setCell ⟨w.heap.size + 2, 0, none⟩ (.int .i64 0) := ⟨_, rfl⟩
        have HQ7 := hid (HQ6.out.set 0 (.int .i64 0) _ rfl)
        rw [← hw7] at HQ7
        have HW7 := hid hw7
        clear hFl hw7
        go_wp2_with fail
        rw [← HW6.out, ← HW7.out]
        clear y0 y3 x5 f5 g0 g3 c3 c5
        refine (HP.out _).mono ?_
        rintro e w' ⟨rfl, he⟩
        rw [he]
        clear he w'
        have z0 := HQ7.out.x 0 _ rfl
        have z1 := HQ7.out.x 1 _ rfl
        have z2 := HQ7.out.x 2 _ rfl
        have z3 := HQ7.out.x 3 _ rfl
        have z4 := HQ7.out.x 4 _ rfl
        have z5 := HQ7.out.x 5 _ rfl
        have gz0 := HQ7.out.fx 0
        have gz3 := HQ7.out.fx 3
        have r0 := HQ7.out.r 0 _ rfl
        have r1 := HQ7.out.r 1 _ rfl
        have r2 := HQ7.out.r 2 _ rfl
        have r3 := HQ7.out.r 3 _ rfl
        have r4 := HQ7.out.r 4 _ rfl
        have r5 := HQ7.out.r 5 _ rfl
        have t0 := HQ7.out.fr 0
        have t1 := HQ7.out.fr 1
        have t2 := HQ7.out.fr 2
        have t3 := HQ7.out.fr 3
        have t4 := HQ7.out.fr 4
        have t5 := HQ7.out.fr 5
        go_wp2
        obtain ⟨wF, hwF, y0, y1, y2, y3, y4, y5, hbF, -, -⟩ := (HQ7.out.set 3 (.int .i64 b9) _ rfl).res (.int .i64 0) (.int .i64 (1 + pln)) (.int .i64 pA) (.int .i64 b9) (.int .i64 pC) (.slice none 0 0)
        rw [← hwF]
        refine bodyPost_ret (v := .agg #[.int .i64 0, .int .i64 (1 + pln), .int .i64 pA, .int .i64 b9, .int .i64 pC, .slice none 0 0]) (by simp [results, Tryz.results21, go_sem, y0, y1, y2, y3, y4, y5]) rfl ?_
        refine ⟨⟨0, 1 + pln, pA, b9, pC, []⟩, _, rfl, ⟨⟨by simp; omega, by simp; omega⟩, by simp [withB]; omega, .inr (.inl ⟨rfl, by have := HPB.out; simp [withB]; omega⟩)⟩, World.ownsRow_nil _ _ _ _, hbF⟩
      · have hF : decide ((f : Int) + 1 = (ll : Int)) = false := by simp; omega
        have HP := hid (fun W => pick_any oB ll W hr3.1 hr3.2 (by omega) (by omega))
        have HPB := pickI_lt oB (n := ll) (by omega)
        generalize pickI oB ll = b9 at *
        obtain ⟨bn, rfl⟩ : ∃ v : Nat, b9 = (v : Int) := ⟨b9.toNat, by omega⟩
        have hbl : bn < ll := by omega
        go_wp2_with fail
        rw [← HW6.out]
        clear y0 y3 x5 f5 g0 g3 c3 c5
        refine (HP.out _).mono ?_
        rintro e w' ⟨rfl, he⟩
        rw [he]
        clear he w' hF HP
        have z3 := HQ6.out.x 3 _ rfl
        have gz3 := HQ6.out.fx 3
        have cz3 := HQ6.out.o 3 _ v3
        obtain ⟨w7, hw7⟩ : ∃ v, v = w6.setCell ⟨w.heap.size + 2, 3, none⟩ (.int .i64 bn) := ⟨_, rfl⟩
        have HQ7 := hid (HQ6.out.set 3 (.int .i64 bn) _ rfl)
        rw [← hw7] at HQ7
        have HW7 := hid hw7
        clear hw7
        by_cases hlow : bn < f + 1
        · have hB : (bn : Int) < (f : Int) + 1 := by omega
          obtain ⟨mm, hmm⟩ : ∃ v : Int, v = (ll : Int) - ((f : Int) + 1) := ⟨_, rfl⟩
          have HP := hid (fun W => pick_any oB ((ll : Int) - ((f : Int) + 1)) W hr3.1 hr3.2 (by omega) (by omega))
          have HPB2 := pickI_lt oB (n := (ll : Int) - ((f : Int) + 1)) (by omega)
          generalize pickI oB ((ll : Int) - ((f : Int) + 1)) = b8 at *
          clear hmm
          go_wp2_with fail
          rw [← HW7.out]
          refine (HP.out _).mono ?_
          rintro e w' ⟨rfl, he⟩
          rw [he]
          clear he w' HP z3 gz3 cz3
          have z3 := HQ7.out.x 3 _ rfl
          have gz3 := HQ7.out.fx 3
          go_wp2
          obtain ⟨bm, hbm⟩ : ∃ v : Nat, (f : Int) + 1 + b8 = (v : Int) := ⟨((f : Int) + 1 + b8).toNat, by omega⟩
          have hbl' : bm < ll := by omega
          have hfb' : f + 1 ≤ bm := by omega
          rw [hbm]
          have HQ8 := hid (HQ7.out.set 3 (.int .i64 bm) _ rfl)
          obtain ⟨w8, hw8⟩ : ∃ v, v = w7.setCell ⟨w.heap.size + 2, 3, none⟩ (.int .i64 bm) := ⟨_, rfl⟩
          rw [← hw8] at HQ8 ⊢
          clear z3 gz3 hw8 hB hlow hbm HPB2 HPB hbl HQ7 HW7
          have HQ7 := HQ8
          clear HQ8
          obtain ⟨y, hy⟩ : ∃ y, l[bm]? = some y := ⟨_, List.getElem?_eq_getElem (by have := HLL.out; omega)⟩
          obtain ⟨PP, hPP, hP8⟩ : ∃ v : Nat, (v : Int) = y.params ∧ v ≤ 8 := by
            obtain ⟨-, -, h1, h2⟩ := HOK.out _ _ hy
            exact ⟨y.params.toNat, by omega, by omega⟩
          obtain ⟨lb', loff', e1, p2, -⟩ := HRL.out.2.2 _ y hy
          cases e1
          rw [← hPP] at p2
          have HP2 := hid p2
          have HY := hid hy
          have HPP := hid hPP
          have hbm2 : (bm : Int) < (ll : Int) := by omega
          obtain ⟨i0, hi, hz0, hz1, hz2⟩ := info_parts Tryz.infoInt
          clear hy p2 hPP
          go_loopw [14, 15, 16] (fun i _ _ wr => ∃ (k : Nat) (xs : List Int) (av : Value), i = .int .i64 k ∧ k ≤ PP ∧ xs.length = k ∧ (∀ a ∈ xs, withB a LC = true) ∧ OpW w OV wr #[.int .i64 5, .int .i64 (1 + pln), .int .i64 pA, .int .i64 bm, .int .i64 pC, av] ∧ wr.ownsRow (w.heap.size + 3) 3 1 av k (ints xs)) (fun i _ _ _ => PP - (intOf i).toNat)
          case atStart => exact ⟨0, [], _, rfl, by omega, rfl, by simp, HQ7.out, World.ownsRow_nil _ _ _ _⟩
          case round =>
            obtain ⟨k, xs, av, rfl, hk, has, hall, hq, hown⟩ := hrel
            have hsz := hq.size
            have q3 := hq.x 3 _ rfl
            have q5 := hq.x 5 _ rfl
            have cc5 := hq.o 5 _ v5
            have p2 : wr.cell? ⟨lb, loff + bm * 5 + 2, none⟩ = some (.int .i64 PP) := (hq.1.cell (World.block_lt_of_cell? w _ HP2.out)).trans HP2.out
            have hlb2 : lb < wr.heap.size := by omega
            have HOW := hid hown
            have HQR := hid hq
            have HALL := hid hall
            have HAS := hid has
            by_cases hkp : k < PP
            · have hkp' : (k : Int) < (PP : Int) := by omega
              obtain ⟨raw, hraw⟩ : ∃ raw, raw = if k < na then args.getD k 0 else 0 := ⟨_, rfl⟩
              have hR : R64 raw := by
                rw [hraw]
                split
                · next h =>
                  have hm : args.getD k 0 ∈ args := by
                    rw [List.getD, List.getElem?_eq_getElem (by rw [← HNA.out]; exact h)]
                    exact List.getElem_mem _
                  exact hr5 _ hm
                · exact ⟨by omega, by omega⟩
              have HPK := hid (fun W => pick_any raw LC W hR.1 hR.2 (by omega) (by omega))
              have HPL := hid (pickI_lt raw (n := LC) (by omega))
              generalize pickI raw LC = a9 at HPK HPL
              by_cases hka : k < na
              · have hka' : (k : Int) < (na : Int) := by omega
                rw [if_pos hka] at hraw
                obtain ⟨ob, ooff, rfl, ho⟩ := HO.out.open (by omega)
                have o9 : wr.cell? ⟨ob, ooff + k, none⟩ = some (.int .i64 raw) := by
                  rw [hraw]
                  exact (hq.1.cell (World.block_lt_of_cell? w _ (ho k hka))).trans (ho k hka)
                have hob : ob < wr.heap.size := World.block_lt_of_cell? wr _ o9
                clear ho hraw hq hown hall has
                go_wp2_with fail
                refine (HPK.out wr).mono ?_
                rintro e w' ⟨rfl, he⟩
                rw [he]
                clear he w'
                go_wp2_with (at_builtin; refine wpList_append_own _ rfl (.tmp 121) (.tmp 123) 25 rfl (w.heap.size + 3) 3 i0 (.int .i64 0) 1 8 Tryz.underlying25 hi hz0 hz1 hz2 rfl (by decide) _ _ _ rfl (HOW.out.alloc _) ⟨wr.heap.size, 0, none⟩ 1 1 [.int .i64 a9] rfl rfl (new1_at rfl _ _) (one1 _) (by unfold maxLen; omega) (by omega) (by simp; omega) ?_)
                intro va w3 hown3 hgrow3 _
                have hb3 : Below (w.heap.size + 3) wr w3 := ((Below.refl _ _).alloc hsz _).grown hgrow3 (by simp; omega) (fun k hk => (HOW.out.lt k hk).1)
                obtain ⟨vg, vc, rfl⟩ : ∃ vg vc, va = .slice (some ⟨vg, 0, none⟩) (k + 1) vc := by
                  rcases hown3.2 with ⟨h1, h2⟩ | ⟨g, c', cur, h1, _⟩
                  · omega
                  · exact ⟨_, _, h1⟩
                have hq3 := HQR.out.below hb3
                have s5 := hq3.x 5 _ rfl
                have g5 := hq3.fx 5
                have HQ3' := hid hq3
                have HO3 := hid hown3
                clear hown3 hgrow3 hb3 hq3 q3 q5 cc5 p2 o9
                go_wp2
                go_roundw
                case rel =>
                  refine ⟨k + 1, xs ++ [a9], _, by go_num, by omega, by rw [List.length_append, HAS.out]; rfl, fun a ha => ?_, HQ3'.out.set 5 _ _ rfl, ownsRow_setCell_below (by simpa [ints] using HO3.out) (by simp) _⟩
                  rcases List.mem_append.1 ha with h | h
                  · exact HALL.out a h
                  · rw [List.mem_singleton.1 h]
                    have := HPL.out
                    simp [withB]; omega
                case measure => simp [intOf]; omega
              · have hka' : decide ((k : Int) < (na : Int)) = false := by simp; omega
                rw [if_neg hka] at hraw
                subst hraw
                clear hq hown hall has
                go_wp2_with fail
                refine (HPK.out wr).mono ?_
                rintro e w' ⟨rfl, he⟩
                rw [he]
                clear he w'
                go_wp2_with (at_builtin; refine wpList_append_own _ rfl (.tmp 121) (.tmp 123) 25 rfl (w.heap.size + 3) 3 i0 (.int .i64 0) 1 8 Tryz.underlying25 hi hz0 hz1 hz2 rfl (by decide) _ _ _ rfl (HOW.out.alloc _) ⟨wr.heap.size, 0, none⟩ 1 1 [.int .i64 a9] rfl rfl (new1_at rfl _ _) (one1 _) (by unfold maxLen; omega) (by omega) (by simp; omega) ?_)
                intro va w3 hown3 hgrow3 _
                have hb3 : Below (w.heap.size + 3) wr w3 := ((Below.refl _ _).alloc hsz _).grown hgrow3 (by simp; omega) (fun k hk => (HOW.out.lt k hk).1)
                obtain ⟨vg, vc, rfl⟩ : ∃ vg vc, va = .slice (some ⟨vg, 0, none⟩) (k + 1) vc := by
                  rcases hown3.2 with ⟨h1, h2⟩ | ⟨g, c', cur, h1, _⟩
                  · omega
                  · exact ⟨_, _, h1⟩
                have hq3 := HQR.out.below hb3
                have s5 := hq3.x 5 _ rfl
                have g5 := hq3.fx 5
                have HQ3' := hid hq3
                have HO3 := hid hown3
                clear hown3 hgrow3 hb3 hq3 q3 q5 cc5 p2
                go_wp2
                go_roundw
                case rel =>
                  refine ⟨k + 1, xs ++ [a9], _, by go_num, by omega, by rw [List.length_append, HAS.out]; rfl, fun a ha => ?_, HQ3'.out.set 5 _ _ rfl, ownsRow_setCell_below (by simpa [ints] using HO3.out) (by simp) _⟩
                  rcases List.mem_append.1 ha with h | h
                  · exact HALL.out a h
                  · rw [List.mem_singleton.1 h]
                    have := HPL.out
                    simp [withB]; omega
                case measure => simp [intOf]; omega
            · have HKE : Hid (k = PP) := hid (by omega)
              have hkp' : decide ((k : Int) < (PP : Int)) = false := by simp; omega
              obtain ⟨aa, acap, rfl⟩ : ∃ aa acap, av = .slice aa k acap := by
                rcases hown.2 with ⟨h1, h2⟩ | ⟨g, c', cur, h1, _⟩
                · exact ⟨none, 0, by rw [h1, h2]⟩
                · exact ⟨_, _, h1⟩
              have w0 := hq.x 0 _ rfl
              have w1 := hq.x 1 _ rfl
              have w2' := hq.x 2 _ rfl
              have w4' := hq.x 4 _ rfl
              have r0 := hq.r 0 _ rfl
              have r1 := hq.r 1 _ rfl
              have r2 := hq.r 2 _ rfl
              have r3 := hq.r 3 _ rfl
              have r4 := hq.r 4 _ rfl
              have r5 := hq.r 5 _ rfl
              have t0 := hq.fr 0
              have t1 := hq.fr 1
              have t2 := hq.fr 2
              have t3 := hq.fr 3
              have t4 := hq.fr 4
              have t5 := hq.fr 5
              clear hq hown hall has cc5
              go_wp2
              obtain ⟨wF, hwF, y0, y1, y2, y3, y4, y5, hbF, hsF, hoF⟩ := HQR.out.res (.int .i64 5) (.int .i64 (1 + pln)) (.int .i64 pA) (.int .i64 bm) (.int .i64 pC) (.slice aa k acap)
              rw [← hwF]
              refine bodyPost_ret (v := .agg #[.int .i64 5, .int .i64 (1 + pln), .int .i64 pA, .int .i64 bm, .int .i64 pC, .slice aa k acap]) (by simp [results, Tryz.results21, go_sem, y0, y1, y2, y3, y4, y5]) rfl ?_
              refine ⟨⟨5, 1 + pln, pA, bm, pC, xs⟩, _, by rw [← HAS.out], ⟨⟨by simp; omega, by simp; omega⟩, by simp [withB]; omega, .inr (.inr (.inr (.inr ⟨rfl, ⟨by simp <;> omega, by simp; have := HLL.out; omega⟩, ⟨y, by simpa using HY.out, by rw [HAS.out, HKE.out]; exact HPP.out.symm⟩, HALL.out⟩)))⟩, ?_, hbF⟩
              have hF : wF.ownsRow (w.heap.size + 3) 3 1 (.slice aa k acap) k (ints xs) := by
                rw [hwF]
                repeat (refine ownsRow_setCell_below ?_ (by simp) _)
                exact HOW.out
              rw [HAS.out]
              exact owns_low9 hF (by omega)
        · have hB : decide ((bn : Int) < (f : Int) + 1) = false := by simp; omega
          have hfb' : f + 1 ≤ bn := by omega
          go_wp2
          rw [← HW7.out]
          clear z3 gz3 cz3 hB hlow HW7
          obtain ⟨y, hy⟩ : ∃ y, l[bn]? = some y := ⟨_, List.getElem?_eq_getElem (by have := HLL.out; omega)⟩
          obtain ⟨PP, hPP, hP8⟩ : ∃ v : Nat, (v : Int) = y.params ∧ v ≤ 8 := by
            obtain ⟨-, -, h1, h2⟩ := HOK.out _ _ hy
            exact ⟨y.params.toNat, by omega, by omega⟩
          obtain ⟨lb', loff', e1, p2, -⟩ := HRL.out.2.2 _ y hy
          cases e1
          rw [← hPP] at p2
          have HP2 := hid p2
          have HY := hid hy
          have HPP := hid hPP
          have hbn : (bn : Int) < (ll : Int) := by omega
          obtain ⟨i0, hi, hz0, hz1, hz2⟩ := info_parts Tryz.infoInt
          clear hy p2 hPP
          go_loopw [14, 15, 16] (fun i _ _ wr => ∃ (k : Nat) (xs : List Int) (av : Value), i = .int .i64 k ∧ k ≤ PP ∧ xs.length = k ∧ (∀ a ∈ xs, withB a LC = true) ∧ OpW w OV wr #[.int .i64 5, .int .i64 (1 + pln), .int .i64 pA, .int .i64 bn, .int .i64 pC, av] ∧ wr.ownsRow (w.heap.size + 3) 3 1 av k (ints xs)) (fun i _ _ _ => PP - (intOf i).toNat)
          case atStart => exact ⟨0, [], _, rfl, by omega, rfl, by simp, HQ7.out, World.ownsRow_nil _ _ _ _⟩
          case round =>
            obtain ⟨k, xs, av, rfl, hk, has, hall, hq, hown⟩ := hrel
            have hsz := hq.size
            have q3 := hq.x 3 _ rfl
            have q5 := hq.x 5 _ rfl
            have cc5 := hq.o 5 _ v5
            have p2 : wr.cell? ⟨lb, loff + bn * 5 + 2, none⟩ = some (.int .i64 PP) := (hq.1.cell (World.block_lt_of_cell? w _ HP2.out)).trans HP2.out
            have hlb2 : lb < wr.heap.size := by omega
            have HOW := hid hown
            have HQR := hid hq
            have HALL := hid hall
            have HAS := hid has
            by_cases hkp : k < PP
            · have hkp' : (k : Int) < (PP : Int) := by omega
              obtain ⟨raw, hraw⟩ : ∃ raw, raw = if k < na then args.getD k 0 else 0 := ⟨_, rfl⟩
              have hR : R64 raw := by
                rw [hraw]
                split
                · next h =>
                  have hm : args.getD k 0 ∈ args := by
                    rw [List.getD, List.getElem?_eq_getElem (by rw [← HNA.out]; exact h)]
                    exact List.getElem_mem _
                  exact hr5 _ hm
                · exact ⟨by omega, by omega⟩
              have HPK := hid (fun W => pick_any raw LC W hR.1 hR.2 (by omega) (by omega))
              have HPL := hid (pickI_lt raw (n := LC) (by omega))
              generalize pickI raw LC = a9 at HPK HPL
              by_cases hka : k < na
              · have hka' : (k : Int) < (na : Int) := by omega
                rw [if_pos hka] at hraw
                obtain ⟨ob, ooff, rfl, ho⟩ := HO.out.open (by omega)
                have o9 : wr.cell? ⟨ob, ooff + k, none⟩ = some (.int .i64 raw) := by
                  rw [hraw]
                  exact (hq.1.cell (World.block_lt_of_cell? w _ (ho k hka))).trans (ho k hka)
                have hob : ob < wr.heap.size := World.block_lt_of_cell? wr _ o9
                clear ho hraw hq hown hall has
                go_wp2_with fail
                refine (HPK.out wr).mono ?_
                rintro e w' ⟨rfl, he⟩
                rw [he]
                clear he w'
                go_wp2_with (at_builtin; refine wpList_append_own _ rfl (.tmp 121) (.tmp 123) 25 rfl (w.heap.size + 3) 3 i0 (.int .i64 0) 1 8 Tryz.underlying25 hi hz0 hz1 hz2 rfl (by decide) _ _ _ rfl (HOW.out.alloc _) ⟨wr.heap.size, 0, none⟩ 1 1 [.int .i64 a9] rfl rfl (new1_at rfl _ _) (one1 _) (by unfold maxLen; omega) (by omega) (by simp; omega) ?_)
                intro va w3 hown3 hgrow3 _
                have hb3 : Below (w.heap.size + 3) wr w3 := ((Below.refl _ _).alloc hsz _).grown hgrow3 (by simp; omega) (fun k hk => (HOW.out.lt k hk).1)
                obtain ⟨vg, vc, rfl⟩ : ∃ vg vc, va = .slice (some ⟨vg, 0, none⟩) (k + 1) vc := by
                  rcases hown3.2 with ⟨h1, h2⟩ | ⟨g, c', cur, h1, _⟩
                  · omega
                  · exact ⟨_, _, h1⟩
                have hq3 := HQR.out.below hb3
                have s5 := hq3.x 5 _ rfl
                have g5 := hq3.fx 5
                have HQ3' := hid hq3
                have HO3 := hid hown3
                clear hown3 hgrow3 hb3 hq3 q3 q5 cc5 p2 o9
                go_wp2
                go_roundw
                case rel =>
                  refine ⟨k + 1, xs ++ [a9], _, by go_num, by omega, by rw [List.length_append, HAS.out]; rfl, fun a ha => ?_, HQ3'.out.set 5 _ _ rfl, ownsRow_setCell_below (by simpa [ints] using HO3.out) (by simp) _⟩
                  rcases List.mem_append.1 ha with h | h
                  · exact HALL.out a h
                  · rw [List.mem_singleton.1 h]
                    have := HPL.out
                    simp [withB]; omega
                case measure => simp [intOf]; omega
              · have hka' : decide ((k : Int) < (na : Int)) = false := by simp; omega
                rw [if_neg hka] at hraw
                subst hraw
                clear hq hown hall has
                go_wp2_with fail
                refine (HPK.out wr).mono ?_
                rintro e w' ⟨rfl, he⟩
                rw [he]
                clear he w'
                go_wp2_with (at_builtin; refine wpList_append_own _ rfl (.tmp 121) (.tmp 123) 25 rfl (w.heap.size + 3) 3 i0 (.int .i64 0) 1 8 Tryz.underlying25 hi hz0 hz1 hz2 rfl (by decide) _ _ _ rfl (HOW.out.alloc _) ⟨wr.heap.size, 0, none⟩ 1 1 [.int .i64 a9] rfl rfl (new1_at rfl _ _) (one1 _) (by unfold maxLen; omega) (by omega) (by simp; omega) ?_)
                intro va w3 hown3 hgrow3 _
                have hb3 : Below (w.heap.size + 3) wr w3 := ((Below.refl _ _).alloc hsz _).grown hgrow3 (by simp; omega) (fun k hk => (HOW.out.lt k hk).1)
                obtain ⟨vg, vc, rfl⟩ : ∃ vg vc, va = .slice (some ⟨vg, 0, none⟩) (k + 1) vc := by
                  rcases hown3.2 with ⟨h1, h2⟩ | ⟨g, c', cur, h1, _⟩
                  · omega
                  · exact ⟨_, _, h1⟩
                have hq3 := HQR.out.below hb3
                have s5 := hq3.x 5 _ rfl
                have g5 := hq3.fx 5
                have HQ3' := hid hq3
                have HO3 := hid hown3
                clear hown3 hgrow3 hb3 hq3 q3 q5 cc5 p2
                go_wp2
                go_roundw
                case rel =>
                  refine ⟨k + 1, xs ++ [a9], _, by go_num, by omega, by rw [List.length_append, HAS.out]; rfl, fun a ha => ?_, HQ3'.out.set 5 _ _ rfl, ownsRow_setCell_below (by simpa [ints] using HO3.out) (by simp) _⟩
                  rcases List.mem_append.1 ha with h | h
                  · exact HALL.out a h
                  · rw [List.mem_singleton.1 h]
                    have := HPL.out
                    simp [withB]; omega
                case measure => simp [intOf]; omega
            · have HKE : Hid (k = PP) := hid (by omega)
              have hkp' : decide ((k : Int) < (PP : Int)) = false := by simp; omega
              obtain ⟨aa, acap, rfl⟩ : ∃ aa acap, av = .slice aa k acap := by
                rcases hown.2 with ⟨h1, h2⟩ | ⟨g, c', cur, h1, _⟩
                · exact ⟨none, 0, by rw [h1, h2]⟩
                · exact ⟨_, _, h1⟩
              have w0 := hq.x 0 _ rfl
              have w1 := hq.x 1 _ rfl
              have w2' := hq.x 2 _ rfl
              have w4' := hq.x 4 _ rfl
              have r0 := hq.r 0 _ rfl
              have r1 := hq.r 1 _ rfl
              have r2 := hq.r 2 _ rfl
              have r3 := hq.r 3 _ rfl
              have r4 := hq.r 4 _ rfl
              have r5 := hq.r 5 _ rfl
              have t0 := hq.fr 0
              have t1 := hq.fr 1
              have t2 := hq.fr 2
              have t3 := hq.fr 3
              have t4 := hq.fr 4
              have t5 := hq.fr 5
              clear hq hown hall has cc5
              go_wp2
              obtain ⟨wF, hwF, y0, y1, y2, y3, y4, y5, hbF, hsF, hoF⟩ := HQR.out.res (.int .i64 5) (.int .i64 (1 + pln)) (.int .i64 pA) (.int .i64 bn) (.int .i64 pC) (.slice aa k acap)
              rw [← hwF]
              refine bodyPost_ret (v := .agg #[.int .i64 5, .int .i64 (1 + pln), .int .i64 pA, .int .i64 bn, .int .i64 pC, .slice aa k acap]) (by simp [results, Tryz.results21, go_sem, y0, y1, y2, y3, y4, y5]) rfl ?_
              refine ⟨⟨5, 1 + pln, pA, bn, pC, xs⟩, _, by rw [← HAS.out], ⟨⟨by simp; omega, by simp; omega⟩, by simp [withB]; omega, .inr (.inr (.inr (.inr ⟨rfl, ⟨by simp <;> omega, by simp; have := HLL.out; omega⟩, ⟨y, by simpa using HY.out, by rw [HAS.out, HKE.out]; exact HPP.out.symm⟩, HALL.out⟩)))⟩, ?_, hbF⟩
              have hF : wF.ownsRow (w.heap.size + 3) 3 1 (.slice aa k acap) k (ints xs) := by
                rw [hwF]
                repeat (refine ownsRow_setCell_below ?_ (by simp) _)
                exact HOW.out
              rw [HAS.out]
              exact owns_low9 hF (by omega)
    · clear y0 y3 x5 g0 g3 c3 c5
      have z0 := HQ5.out.x 0 _ rfl
      have z1 := HQ5.out.x 1 _ rfl
      have z2 := HQ5.out.x 2 _ rfl
      have z3 := HQ5.out.x 3 _ rfl
      have z4 := HQ5.out.x 4 _ rfl
      have z5 := HQ5.out.x 5 _ rfl
      have gz0 := HQ5.out.fx 0
      have gz3 := HQ5.out.fx 3
      have r0 := HQ5.out.r 0 _ rfl
      have r1 := HQ5.out.r 1 _ rfl
      have r2 := HQ5.out.r 2 _ rfl
      have r3 := HQ5.out.r 3 _ rfl
      have r4 := HQ5.out.r 4 _ rfl
      have r5 := HQ5.out.r 5 _ rfl
      have t0 := HQ5.out.fr 0
      have t1 := HQ5.out.fr 1
      have t2 := HQ5.out.fr 2
      have t3 := HQ5.out.fr 3
      have t4 := HQ5.out.fr 4
      have t5 := HQ5.out.fr 5
      go_wp2
      rw [← HW6.out]
      obtain ⟨wF, hwF, y0, y1, y2, y3, y4, y5, hbF, -, -⟩ := HQ6.out.res (.int .i64 6) (.int .i64 (1 + pln)) (.int .i64 pA) (.int .i64 pB) (.int .i64 pC) (.slice none 0 0)
      rw [← hwF]
      refine bodyPost_ret (v := .agg #[.int .i64 6, .int .i64 (1 + pln), .int .i64 pA, .int .i64 pB, .int .i64 pC, .slice none 0 0]) (by simp [results, Tryz.results21, go_sem, y0, y1, y2, y3, y4, y5]) rfl ?_
      refine ⟨⟨6, 1 + pln, pA, pB, pC, []⟩, _, rfl, ⟨⟨by simp; omega, by simp; omega⟩, by simp [withB]; omega, .inl rfl⟩, World.ownsRow_nil _ _ _ _, hbF⟩
    · clear y0 y3 x5 g0 g3 c3 c5
      have z0 := HQ5.out.x 0 _ rfl
      have z1 := HQ5.out.x 1 _ rfl
      have z2 := HQ5.out.x 2 _ rfl
      have z3 := HQ5.out.x 3 _ rfl
      have z4 := HQ5.out.x 4 _ rfl
      have z5 := HQ5.out.x 5 _ rfl
      have gz0 := HQ5.out.fx 0
      have gz3 := HQ5.out.fx 3
      have r0 := HQ5.out.r 0 _ rfl
      have r1 := HQ5.out.r 1 _ rfl
      have r2 := HQ5.out.r 2 _ rfl
      have r3 := HQ5.out.r 3 _ rfl
      have r4 := HQ5.out.r 4 _ rfl
      have r5 := HQ5.out.r 5 _ rfl
      have t0 := HQ5.out.fr 0
      have t1 := HQ5.out.fr 1
      have t2 := HQ5.out.fr 2
      have t3 := HQ5.out.fr 3
      have t4 := HQ5.out.fr 4
      have t5 := HQ5.out.fr 5
      go_wp2
      rw [← HW6.out]
      obtain ⟨wF, hwF, y0, y1, y2, y3, y4, y5, hbF, -, -⟩ := HQ6.out.res (.int .i64 1) (.int .i64 (1 + pln)) (.int .i64 pA) (.int .i64 pB) (.int .i64 pC) (.slice none 0 0)
      rw [← hwF]
      refine bodyPost_ret (v := .agg #[.int .i64 1, .int .i64 (1 + pln), .int .i64 pA, .int .i64 pB, .int .i64 pC, .slice none 0 0]) (by simp [results, Tryz.results21, go_sem, y0, y1, y2, y3, y4, y5]) rfl ?_
      refine ⟨⟨1, 1 + pln, pA, pB, pC, []⟩, _, rfl, ⟨⟨by simp; omega, by simp; omega⟩, by simp [withB]; omega, .inr (.inr (.inl ⟨by simp, by simp [withB]; omega, by simp [withB]; omega⟩))⟩, World.ownsRow_nil _ _ _ _, hbF⟩
    · clear y0 y3 x5 g0 g3 c3 c5
      have z0 := HQ5.out.x 0 _ rfl
      have z1 := HQ5.out.x 1 _ rfl
      have z2 := HQ5.out.x 2 _ rfl
      have z3 := HQ5.out.x 3 _ rfl
      have z4 := HQ5.out.x 4 _ rfl
      have z5 := HQ5.out.x 5 _ rfl
      have gz0 := HQ5.out.fx 0
      have gz3 := HQ5.out.fx 3
      have r0 := HQ5.out.r 0 _ rfl
      have r1 := HQ5.out.r 1 _ rfl
      have r2 := HQ5.out.r 2 _ rfl
      have r3 := HQ5.out.r 3 _ rfl
      have r4 := HQ5.out.r 4 _ rfl
      have r5 := HQ5.out.r 5 _ rfl
      have t0 := HQ5.out.fr 0
      have t1 := HQ5.out.fr 1
      have t2 := HQ5.out.fr 2
      have t3 := HQ5.out.fr 3
      have t4 := HQ5.out.fr 4
      have t5 := HQ5.out.fr 5
      go_wp2
      rw [← HW6.out]
      obtain ⟨wF, hwF, y0, y1, y2, y3, y4, y5, hbF, -, -⟩ := HQ6.out.res (.int .i64 2) (.int .i64 (1 + pln)) (.int .i64 pA) (.int .i64 pB) (.int .i64 pC) (.slice none 0 0)
      rw [← hwF]
      refine bodyPost_ret (v := .agg #[.int .i64 2, .int .i64 (1 + pln), .int .i64 pA, .int .i64 pB, .int .i64 pC, .slice none 0 0]) (by simp [results, Tryz.results21, go_sem, y0, y1, y2, y3, y4, y5]) rfl ?_
      refine ⟨⟨2, 1 + pln, pA, pB, pC, []⟩, _, rfl, ⟨⟨by simp; omega, by simp; omega⟩, by simp [withB]; omega, .inr (.inr (.inl ⟨by simp, by simp [withB]; omega, by simp [withB]; omega⟩))⟩, World.ownsRow_nil _ _ _ _, hbF⟩
    · clear y0 y3 x5 g0 g3 c3 c5
      have z0 := HQ5.out.x 0 _ rfl
      have z1 := HQ5.out.x 1 _ rfl
      have z2 := HQ5.out.x 2 _ rfl
      have z3 := HQ5.out.x 3 _ rfl
      have z4 := HQ5.out.x 4 _ rfl
      have z5 := HQ5.out.x 5 _ rfl
      have gz0 := HQ5.out.fx 0
      have gz3 := HQ5.out.fx 3
      have r0 := HQ5.out.r 0 _ rfl
      have r1 := HQ5.out.r 1 _ rfl
      have r2 := HQ5.out.r 2 _ rfl
      have r3 := HQ5.out.r 3 _ rfl
      have r4 := HQ5.out.r 4 _ rfl
      have r5 := HQ5.out.r 5 _ rfl
      have t0 := HQ5.out.fr 0
      have t1 := HQ5.out.fr 1
      have t2 := HQ5.out.fr 2
      have t3 := HQ5.out.fr 3
      have t4 := HQ5.out.fr 4
      have t5 := HQ5.out.fr 5
      go_wp2
      rw [← HW6.out]
      obtain ⟨wF, hwF, y0, y1, y2, y3, y4, y5, hbF, -, -⟩ := HQ6.out.res (.int .i64 3) (.int .i64 (1 + pln)) (.int .i64 pA) (.int .i64 pB) (.int .i64 pC) (.slice none 0 0)
      rw [← hwF]
      refine bodyPost_ret (v := .agg #[.int .i64 3, .int .i64 (1 + pln), .int .i64 pA, .int .i64 pB, .int .i64 pC, .slice none 0 0]) (by simp [results, Tryz.results21, go_sem, y0, y1, y2, y3, y4, y5]) rfl ?_
      refine ⟨⟨3, 1 + pln, pA, pB, pC, []⟩, _, rfl, ⟨⟨by simp; omega, by simp; omega⟩, by simp [withB]; omega, .inr (.inr (.inl ⟨by simp, by simp [withB]; omega, by simp [withB]; omega⟩))⟩, World.ownsRow_nil _ _ _ _, hbF⟩
end Go.Proofs.YthaganponmnanaaGreatDoor
