/- The state of the developers' run in memory, and the contract of (*run.Run).call. Contract of the developers' (*run.Run).ret where the last frame goes. -/
import Derived.Test.YtffnfjkjlmlonaaGreatDoorZ10
import Derived.Test.YtffnfjkjlmlonaaGreatDoorZ33
import Derived.Deep.AppendLies
import Derived.Deep.RegionLaw
namespace Go.Proofs.YtffnfjkjlmlonaaGreatDoor
open Go.RowKit

/-- What else is kept beside a run: the type of its box, what lies behind the run in it, and blocks that no step writes. -/
structure RX where
  T : TypeId
  ex : List Value
  K : Nat → Option Obj

def KeptX (X : RX) (rb : Nat) (w : World) (v : Value) : Prop := ∀ b o, X.K b = some o → w.heap[b]? = some o ∧ b ≠ rb ∧ v.ownBlock ≠ some b
theorem KeptX.below {X : RX} {rb : Nat} {w w' : World} {v : Value} (h : KeptX X rb w v) (hb : Below w.heap.size w w') : KeptX X rb w' v := fun b o hk => by
  obtain ⟨h1, h2, h3⟩ := h b o hk
  exact ⟨(hb.block b (Array.getElem?_eq_some_iff.1 h1).1).trans h1, h2, h3⟩
theorem KeptX.set {X : RX} {rb : Nat} {w : World} {v : Value} (h : KeptX X rb w v) (i : Nat) (u : Value) : KeptX X rb (w.setCell ⟨rb, i, none⟩ u) v := fun b o hk => by
  obtain ⟨h1, h2, h3⟩ := h b o hk
  exact ⟨(heap_setCell_other w ⟨rb, i, none⟩ b u h2).trans h1, h2, h3⟩
theorem KeptX.like {X : RX} {rb : Nat} {w : World} {v v' : Value} (h : KeptX X rb w v) (he : ∀ b, v'.ownBlock = some b → v.ownBlock = some b) : KeptX X rb w v' := fun b o hk => by
  obtain ⟨h1, h2, h3⟩ := h b o hk
  exact ⟨h1, h2, fun e => h3 (he b e)⟩
theorem KeptX.grown {X : RX} {rb : Nat} {w w' : World} {v : Value} {g : Nat} {n c : Nat} (h : KeptX X rb w v) (hg : w.grownBy w' v.ownBlock) (hat : v.ownBlock = some g ∨ g = w.heap.size) : KeptX X rb w' (.slice (some ⟨g, 0, none⟩) n c) := fun b o hk => by
  obtain ⟨h1, h2, h3⟩ := h b o hk
  have hlt := (Array.getElem?_eq_some_iff.1 h1).1
  refine ⟨(hg.block b hlt (fun e => h3 e.symm)).trans h1, h2, fun e => ?_⟩
  simp [Value.ownBlock] at e
  subst e
  rcases hat with h4 | h4
  · exact h3 h4
  · omega

/-- The run s of the program P lies in the box rb; w0 is the world behind the program's copy. -/
def RunAt (X : RX) (w0 : World) (P : List FnD) (rb : Nat) (w : World) (s : StandD) : Prop :=
  ∃ pa pcap v, w.heap[rb]? = some (.cells (Value.slice pa P.length pcap :: v :: .int .i64 s.status :: .int .i64 s.value :: X.ex).toArray X.T (0, 0)) ∧ RdP w0 pa P.length pcap P ∧ Below w0.heap.size w0 w ∧ w0.heap.size ≤ rb ∧ w.ownsRow w0.heap.size 248 10 v s.live.length (s.live.map frmCells).flatten ∧ v.ownBlock ≠ some rb ∧ KeptX X rb w v

theorem RunAt.below {X : RX} {w0 : World} {P : List FnD} {rb : Nat} {w w' : World} {s : StandD} (h : RunAt X w0 P rb w s) (hb : Below w.heap.size w w') : RunAt X w0 P rb w' s := by
  obtain ⟨pa, pcap, v, h1, h2, h3, h4, h5, h6, h7⟩ := h
  exact ⟨pa, pcap, v, (hb.block rb (Array.getElem?_eq_some_iff.1 h1).1).trans h1, h2, h3.trans (hb.mono h3.size), h4, ownsRow_below h5 hb, h6, h7.below hb⟩
theorem frm_array (x : LiveD) (h : x.locals.length ≤ 8) : ∃ a b c d e f g i, pad8 x.locals = [a, b, c, d, e, f, g, i] := eight (pad8_len h)

theorem Tryz.infoFrm : (Tryz.prog.info? 248).map (fun i => (i.zero, i.size, i.bytes)) = some (some (.agg #[.int .i64 0, .int .i64 0, .int .i64 0, .int .i64 0, .int .i64 0, .int .i64 0, .int .i64 0, .int .i64 0, .int .i64 0, .int .i64 0]), 10, 80) := by kernel_rfl
theorem ten_new (w : World) (a b c d e f g h i k : Value) (t : TypeId) : ∀ j u, [a, b, c, d, e, f, g, h, i, k][j]? = some u → (w.alloc (.cells #[a, b, c, d, e, f, g, h, i, k] t)).cell? ((⟨w.heap.size, 0, none⟩ : Addr).add j) = some u := by
  intro j u hu
  match j, hu with
  | 0, hu => simp at hu; subst hu; simp [Addr.add]
  | 1, hu => simp at hu; subst hu; simp [Addr.add]
  | 2, hu => simp at hu; subst hu; simp [Addr.add]
  | 3, hu => simp at hu; subst hu; simp [Addr.add]
  | 4, hu => simp at hu; subst hu; simp [Addr.add]
  | 5, hu => simp at hu; subst hu; simp [Addr.add]
  | 6, hu => simp at hu; subst hu; simp [Addr.add]
  | 7, hu => simp at hu; subst hu; simp [Addr.add]
  | 8, hu => simp at hu; subst hu; simp [Addr.add]
  | 9, hu => simp at hu; subst hu; simp [Addr.add]
theorem ten_one (a b c d e f g h i k : Int) : ∀ u ∈ [Value.int .i64 a, .int .i64 b, .int .i64 c, .int .i64 d, .int .i64 e, .int .i64 f, .int .i64 g, .int .i64 h, .int .i64 i, .int .i64 k], u.oneCell' = true := by
  intro u hu; simp at hu; rcases hu with rfl | rfl | rfl | rfl | rfl | rfl | rfl | rfl | rfl | rfl <;> rfl
theorem pad8_grow {vals : List Int} {j : Nat} (hj : j < vals.length) (h8 : vals.length ≤ 8) : (pad8 (vals.take j)).set j (vals.getD j 0) = pad8 (vals.take (j + 1)) := by
  have hl : (vals.take j).length = j := by rw [List.length_take]; omega
  unfold pad8
  rw [List.set_append_right _ _ (by omega), hl, Nat.sub_self]
  have e2 : 8 - j = (8 - (j + 1)) + 1 := by omega
  rw [e2, List.replicate_succ, List.set_cons_zero, List.take_succ_eq_append_getElem hj, List.append_assoc]
  have hl2 : (vals.take j ++ [vals[j]]).length = j + 1 := by simp; omega
  rw [hl2]
  simp [List.getD, hj]

set_option maxHeartbeats 4000000 in
set_option maxRecDepth 100000 in
theorem call_any (X : RX) (w0 : World) (P : List FnD) (rb : Nat) (s : StandD) (x : LiveD) (o : OpD) (oa : Option Addr) (ocap : Nat) (w : World) (hR : RunAt X w0 P rb w s) (hx : x.locals.length ≤ 8) (ho : Rd .i64 w oa o.args.length ocap o.args) (hal : o.args.length ≤ 8) (hargs : ∀ k ∈ o.args, 0 ≤ k ∧ k < x.locals.length) (hlen : s.live.length ≤ 20) :
    Calls Tryz.prog 219 #[.pointer (some ⟨rb, 0, none⟩), .agg (frmCells x).toArray, .agg #[.int .i64 o.code, .int .i64 o.line, .int .i64 o.a, .int .i64 o.b, .int .i64 o.c, .slice oa o.args.length ocap]] w fun e w' =>
      e = .returned (.tuple #[]) ∧ RunAt X w0 P rb w' (if s.live.length = 20 then ⟨3, s.value, s.live⟩ else ⟨s.status, s.value, s.live ++ [⟨o.b, 0, o.args.map (locOf x)⟩]⟩) := by
  obtain ⟨pa, pcap, v, hk, hp, hb, hrb, hown, hvr, hkx⟩ := hR
  replace hkx := hid hkx
  obtain ⟨l0, l1, l2, l3, l4, l5, l6, l7, hpad⟩ := frm_array x hx
  unfold frmCells
  rw [hpad]
  simp only [List.map_cons, List.map_nil]
  have r1 : w.cell? ⟨rb, 1, none⟩ = some v := by simp [World.cell?, hk]
  obtain ⟨va, vcap, rfl, hvc, hvm⟩ : ∃ va vcap, v = .slice va s.live.length vcap ∧ s.live.length ≤ vcap ∧ vcap ≤ maxLen := by
    rcases hown.2 with ⟨h1, h2⟩ | ⟨g, c, cur, h1, _, _, h3, h4, _⟩
    · exact ⟨none, 0, by rw [h1, h2], by omega, by unfold maxLen; omega⟩
    · exact ⟨_, c, h1, h3, h4⟩
  have hlr := (Array.getElem?_eq_some_iff.1 hk).1
  by_cases h20 : s.live.length = 20
  · rw [if_pos h20]
    have h20' : (20 : Int) ≤ (s.live.length : Int) := by omega
    obtain ⟨sl, hsl⟩ : ∃ v, v = s.live.length := ⟨_, rfl⟩
    rw [← hsl] at r1 h20' hk hown hvr hkx
    obtain ⟨na, hna⟩ : ∃ v, v = o.args.length := ⟨_, rfl⟩
    rw [← hna]
    have r2 : w.cell? ⟨rb, 2, none⟩ = some (.int .i64 s.status) := by simp [World.cell?, hk]
    have f2 : w.frozen? ⟨rb, 2, none⟩ = false := by simp [World.frozen?, hk]
    have lt1 : rb < w.heap.size + 1 := by omega
    have hf0 : RunAt X w0 P rb (w.setCell ⟨rb, 2, none⟩ (.int .i64 3)) ⟨3, s.value, s.live⟩ := by
      refine ⟨pa, pcap, .slice va sl vcap, ?_, hp, hb.setCell (p := ⟨rb, 2, none⟩) hrb _, hrb, ?_, hvr, hkx.out.set _ _⟩
      · rw [heap_setCell_same w rb 2 _ _ _ hk]
        rfl
      · show World.ownsRow _ _ _ _ _ s.live.length (s.live.map frmCells).flatten
        rw [← hsl]
        exact ownsRow_setCell_other hown hvr _
    have HFIN := hid (fun (A B : Obj) => hf0.below (((Below.refl _ _).alloc (Nat.le_refl _) A).alloc (by simp) B))
    clear hf0
    clear hsl hna hown hk hvr h20
    go_enter Tryz.func219, Tryz.ntmps219
    go_wp2
    exact bodyPost_ret (v := .tuple #[]) (by simp [results, Tryz.results219, go_sem]) rfl ⟨rfl, HFIN.out _ _⟩
  · rw [if_neg h20]
    have h20' : decide ((20 : Int) ≤ (s.live.length : Int)) = false := by simp; omega
    have lt1 : rb < w.heap.size + 1 := by omega
    obtain ⟨vals, hvals⟩ : ∃ v, v = o.args.map (locOf x) := ⟨_, rfl⟩
    rw [← hvals]
    have hvl : vals.length = o.args.length := by rw [hvals, List.length_map]
    have HV := hid hvals
    have HVL := hid hvl
    have HAR := hid hargs
    have HRO := hid ho
    have HPAD := hid hpad
    have hocap := ho.hcap
    have homax := ho.hmax
    unfold maxLen at homax hvm
    obtain ⟨na, hna⟩ : ∃ v, v = o.args.length := ⟨_, rfl⟩
    rw [← hna] at HVL HRO hal hocap ⊢
    have HNA := hid hna
    obtain ⟨sl, hsl⟩ : ∃ v, v = s.live.length := ⟨_, rfl⟩
    rw [← hsl] at r1 hvc h20' hlen hvr hk hown hkx
    have HSL := hid hsl
    clear hvals hvl hargs ho hpad hna hsl h20
    obtain ⟨wb, hwb⟩ : ∃ wb, wb = ((w.alloc (Obj.cells #[.int .i64 x.fn, .int .i64 x.next, .int .i64 l0, .int .i64 l1, .int .i64 l2, .int .i64 l3, .int .i64 l4, .int .i64 l5, .int .i64 l6, .int .i64 l7] 248)).alloc (Obj.cells #[.int .i64 o.code, .int .i64 o.line, .int .i64 o.a, .int .i64 o.b, .int .i64 o.c, .slice oa na ocap] 183)).alloc (Obj.cells #[.int .i64 o.b, .int .i64 0, .int .i64 0, .int .i64 0, .int .i64 0, .int .i64 0, .int .i64 0, .int .i64 0, .int .i64 0, .int .i64 0] 248) := ⟨_, rfl⟩
    have hbb : Below w.heap.size w wb := by rw [hwb]; exact (((Below.refl _ _).alloc (Nat.le_refl _) _).alloc (by simp) _).alloc (by simp; omega) _
    have hbs : wb.heap.size = w.heap.size + 3 := by rw [hwb]; simp
    have k0 : wb.heap[w.heap.size]? = some (.cells #[.int .i64 x.fn, .int .i64 x.next, .int .i64 l0, .int .i64 l1, .int .i64 l2, .int .i64 l3, .int .i64 l4, .int .i64 l5, .int .i64 l6, .int .i64 l7] 248 (0, 0)) := by rw [hwb]; exact heap_at1 (by simp <;> omega) (heap_at1 (by simp <;> omega) (heap_new_at (by simp)))
    have k2 : wb.heap[w.heap.size + 1 + 1]? = some (.cells #[.int .i64 o.b, .int .i64 0, .int .i64 0, .int .i64 0, .int .i64 0, .int .i64 0, .int .i64 0, .int .i64 0, .int .i64 0, .int .i64 0] 248 (0, 0)) := by rw [hwb]; exact heap_new_at (by simp)
    have hrow : wb.ownsRow (w.heap.size + 2) 248 10 (.slice (some ⟨w.heap.size + 1 + 1, 0, none⟩) 1 1) 1 (.int .i64 o.b :: .int .i64 0 :: (pad8 (vals.take 0)).map (Value.int .i64)) := ⟨rfl, .inr ⟨w.heap.size + 1 + 1, 1, _, rfl, by omega, k2, Nat.le_refl _, by unfold maxLen; omega, rfl, rfl⟩⟩
    have HK0 := hid k0
    have HROW := hid hrow
    clear k0 k2 hrow
    go_enter Tryz.func219, Tryz.ntmps219
    go_wp2
    rw [← hwb]
    clear hwb
    have HBS := hid hbs
    clear hbs
    go_loopw [24] (fun i wr => ∃ j : Nat, i = .int .i64 j ∧ j ≤ na ∧ wr.ownsRow (w.heap.size + 2) 248 10 (.slice (some ⟨w.heap.size + 1 + 1, 0, none⟩) 1 1) 1 (.int .i64 o.b :: .int .i64 0 :: (pad8 (vals.take j)).map (Value.int .i64)) ∧ Below (w.heap.size + 2) wb wr ∧ wr.heap.size = wb.heap.size) (fun i _ => na - (intOf i).toNat)
    case atStart => exact ⟨0, rfl, by omega, HROW.out, Below.refl _ _, rfl⟩
    case round =>
      clear HROW
      obtain ⟨j, rfl, hj, hrow, hbel, hsw⟩ := hrel
      by_cases hjn : j < na
      · have hbw : Below w.heap.size w wr := hbb.trans (hbel.mono (by omega))
        obtain ⟨b1, off1, rfl, c1⟩ := (HRO.out.below hbw (Nat.le_refl _)).cell j hjn
        have hmem : o.args.getD j 0 ∈ o.args := by
          rw [List.getD_eq_getElem?_getD, List.getElem?_eq_getElem (by rw [← HNA.out]; exact hjn)]
          exact List.getElem_mem _
        have hge : vals.getD j 0 = locOf x (o.args.getD j 0) := by
          rw [HV.out, List.getD_eq_getElem?_getD, List.getD_eq_getElem?_getD, List.getElem?_map, List.getElem?_eq_getElem (by rw [← HNA.out]; exact hjn)]; rfl
        have hkr := HAR.out _ hmem
        generalize o.args.getD j 0 = kk at c1 hge hkr hmem
        obtain ⟨kn, rfl⟩ : ∃ kn : Nat, kk = (kn : Int) := ⟨kk.toNat, by omega⟩
        have hkl : kn < x.locals.length := by omega
        have hk8 : kn < 8 := by omega
        have g1 : (#[Value.int .i64 x.fn, .int .i64 x.next, .int .i64 l0, .int .i64 l1, .int .i64 l2, .int .i64 l3, .int .i64 l4, .int .i64 l5, .int .i64 l6, .int .i64 l7] : Array Value)[2 + kn]? = some (.int .i64 (vals.getD j 0)) := by
          have h := arr_get (.int .i64 x.fn) (.int .i64 x.next) ([l0, l1, l2, l3, l4, l5, l6, l7].map (Value.int .i64)) kn
          rw [← HPAD.out, List.getElem?_map] at h
          have h2 : (pad8 x.locals)[kn]? = some (vals.getD j 0) := by
            rw [hge]
            unfold pad8 locOf
            rw [List.getElem?_append_left hkl, List.getElem?_eq_getElem hkl]; simp [hkl]
          rw [h2, HPAD.out] at h
          exact h
        have e0 := (hbel.block w.heap.size (by omega)).trans HK0.out
        have q1 : wr.cell? ⟨w.heap.size, 2 + kn, none⟩ = some (.int .i64 (vals.getD j 0)) := by simp [World.cell?, e0, g1]
        have hpl : (pad8 (vals.take j)).length = 8 := pad8_len (by rw [List.length_take]; omega)
        obtain ⟨y, hy⟩ : ∃ y, (pad8 (vals.take j))[j]? = some y := ⟨_, List.getElem?_eq_getElem (by omega)⟩
        have q2 : wr.cell? ⟨w.heap.size + 1 + 1, 2 + j, none⟩ = some (.int .i64 y) := by
          rw [hrow.cellAt (2 + j) (by omega), Nat.add_comm 2 j]
          show ((pad8 (vals.take j)).map (Value.int .i64))[j]? = _
          rw [List.getElem?_map, hy]; rfl
        have f2 := hrow.frozenAt (2 + j)
        have hst := (hrow.stored (2 + j) (.int .i64 (vals.getD j 0))).1
        have hset : (Value.int .i64 o.b :: .int .i64 0 :: (pad8 (vals.take j)).map (Value.int .i64)).set (2 + j) (.int .i64 (vals.getD j 0)) = .int .i64 o.b :: .int .i64 0 :: (pad8 (vals.take (j + 1))).map (Value.int .i64) := by
          rw [Nat.add_comm 2 j, List.set_cons_succ, List.set_cons_succ, ← List.map_set, pad8_grow (by rw [HVL.out]; exact hjn) (by rw [HVL.out]; exact hal)]
        rw [hset] at hst
        have HST := hid hst
        generalize vals.getD j 0 = vv at *
        have hjn' : (j : Int) < (na : Int) := by omega
        have hk8' : (kn : Int) < 8 := by omega
        have hj8' : (j : Int) < 8 := by omega
        clear hst hset hrow e0 g1 hy hpl hge hmem hkr
        go_wp2
        go_roundw
        case rel => exact ⟨j + 1, by go_num, by omega, HST.out, hbel.setCell (p := ⟨w.heap.size + 1 + 1, 2 + j, none⟩) (Nat.le_refl _) _, by simp [World.setCell, hsw]⟩
        case measure => simp [intOf]; omega
      · have hje : j = na := by omega
        subst hje
        have hjn' : decide ((j : Int) < (j : Int)) = false := by simp
        have htk : vals.take j = vals := List.take_of_length_le (by rw [HVL.out]; exact Nat.le_refl _)
        rw [htk] at hrow
        obtain ⟨m0, m1, m2, m3, m4, m5, m6, m7, hm⟩ := eight (pad8_len (l := vals) (by rw [HVL.out]; exact hal))
        rw [hm] at hrow
        simp only [List.map_cons, List.map_nil] at hrow
        have t0 : wr.cell? ⟨w.heap.size + 1 + 1, 0, none⟩ = some (.int .i64 o.b) := hrow.cellAt 0 (by omega)
        have t1 : wr.cell? ⟨w.heap.size + 1 + 1, 1, none⟩ = some (.int .i64 0) := hrow.cellAt 1 (by omega)
        have t2 : wr.cell? ⟨w.heap.size + 1 + 1, 2, none⟩ = some (.int .i64 m0) := hrow.cellAt 2 (by omega)
        have t3 : wr.cell? ⟨w.heap.size + 1 + 1, 3, none⟩ = some (.int .i64 m1) := hrow.cellAt 3 (by omega)
        have t4 : wr.cell? ⟨w.heap.size + 1 + 1, 4, none⟩ = some (.int .i64 m2) := hrow.cellAt 4 (by omega)
        have t5 : wr.cell? ⟨w.heap.size + 1 + 1, 5, none⟩ = some (.int .i64 m3) := hrow.cellAt 5 (by omega)
        have t6 : wr.cell? ⟨w.heap.size + 1 + 1, 6, none⟩ = some (.int .i64 m4) := hrow.cellAt 6 (by omega)
        have t7 : wr.cell? ⟨w.heap.size + 1 + 1, 7, none⟩ = some (.int .i64 m5) := hrow.cellAt 7 (by omega)
        have t8 : wr.cell? ⟨w.heap.size + 1 + 1, 8, none⟩ = some (.int .i64 m6) := hrow.cellAt 8 (by omega)
        have t9 : wr.cell? ⟨w.heap.size + 1 + 1, 9, none⟩ = some (.int .i64 m7) := hrow.cellAt 9 (by omega)
        have hbw : Below w.heap.size w wr := hbb.trans (hbel.mono (by omega))
        have kr := (hbw.block rb hlr).trans hk
        have s1 : wr.cell? ⟨rb, 1, none⟩ = some (.slice va sl vcap) := by simp [World.cell?, kr]
        have hownr := ownsRow_below hown hbw
        have HOWD : Hid (wr.drew.ownsRow w0.heap.size 248 10 (.slice va sl vcap) sl (s.live.map frmCells).flatten) := hownr.drew
        have hvlt : ∀ k, (Value.slice va sl vcap).ownBlock = some k → w0.heap.size ≤ k := fun k hk => (hown.lt k hk).1
        have HKR := hid kr
        have HM := hid hm
        have hw0 := hb.size
        have hszr : w.heap.size ≤ wr.heap.size := hbw.size
        have hltr : rb < wr.heap.size := by omega
        obtain ⟨i0, hi, hz0, hz1, hz2⟩ := info_parts Tryz.infoFrm
        have HSWR := hid hsw
        clear hrow hownr hk kr htk hm hsw
        go_wp2
        apply cutB
        case k =>
          intro key
          go_region_law (refine step_append_lies _ rfl (.tmp 41) (.tmp 43) 162 rfl w0.heap.size 248 i0 (.agg #[.int .i64 0, .int .i64 0, .int .i64 0, .int .i64 0, .int .i64 0, .int .i64 0, .int .i64 0, .int .i64 0, .int .i64 0, .int .i64 0]) 10 80 Tryz.underlying162 hi hz0 hz1 hz2 rfl (by decide) (.slice va sl vcap) sl _ (by simp [Act.eval]) (HOWD.out.alloc _) ⟨wr.heap.size, 0, none⟩ 1 1 [Value.int .i64 o.b, .int .i64 0, .int .i64 m0, .int .i64 m1, .int .i64 m2, .int .i64 m3, .int .i64 m4, .int .i64 m5, .int .i64 m6, .int .i64 m7] (by simp [Act.eval]) rfl (ten_new _ _ _ _ _ _ _ _ _ _ _ _) (ten_one _ _ _ _ _ _ _ _ _ _) (by decide) (by unfold maxLen; omega) (by omega) (by simp; omega) _ rfl ?_; intro g' cap' w5 hown5 hgrow5 hat5 hlt5; have k5 : w5.heap[rb]? = _ := (hgrow5.block rb (by simp; omega) (fun e => hvr e.symm)).trans ((heap_alloc_old _ _ hltr).trans HKR.out); have z1 : w5.cell? ⟨rb, 1, none⟩ = some (.slice va sl vcap) := (by simp [World.cell?, k5]); have f1 : w5.frozen? ⟨rb, 1, none⟩ = false := (by simp [World.frozen?, k5]); clear k5)
          all_goals
            have k5 : w5.heap[rb]? = _ := (hgrow5.block rb (by simp; omega) (fun e => hvr e.symm)).trans ((heap_alloc_old _ _ hltr).trans HKR.out)
            have hgne : g' ≠ rb := by
              rcases hat5 with h | h
              · intro e; subst e; exact hvr h
              · intro e
                have h2 : g' = wr.heap.size + 1 := h.trans (by show (wr.alloc _).heap.size = _; simp)
                omega
            have hfin : RunAt X w0 P rb (w5.setCell ⟨rb, 1, none⟩ (.slice (some ⟨g', 0, none⟩) (sl + 1) cap')) ⟨s.status, s.value, s.live ++ [⟨o.b, 0, vals⟩]⟩ := by
              refine ⟨pa, pcap, .slice (some ⟨g', 0, none⟩) (sl + 1) cap', ?_, hp, ?_, hrb, ?_, by simp [Value.ownBlock]; exact hgne, ((((hkx.out.below hbw).below ((Below.refl _ _).alloc (Nat.le_refl _) _).drew).grown hgrow5 hat5).set _ _)⟩
              · rw [heap_setCell_same w5 rb 1 _ _ _ k5]
                rfl
              · exact ((((hb.trans (hbw.mono hw0)).alloc (by omega) _).drew).grown hgrow5 (by show w0.heap.size ≤ (wr.alloc _).heap.size; simp; omega) hvlt).setCell (p := ⟨rb, 1, none⟩) hrb _
              · have hl2 : (s.live ++ [(⟨o.b, 0, vals⟩ : LiveD)]).length = sl + 1 := by simp [HSL.out]
                have hc2 : ((s.live ++ [(⟨o.b, 0, vals⟩ : LiveD)]).map frmCells).flatten = (s.live.map frmCells).flatten ++ [Value.int .i64 o.b, .int .i64 0, .int .i64 m0, .int .i64 m1, .int .i64 m2, .int .i64 m3, .int .i64 m4, .int .i64 m5, .int .i64 m6, .int .i64 m7] := by
                  rw [List.map_append, List.flatten_append]
                  simp [frmCells, HM.out]
                show World.ownsRow _ _ _ _ _ (s.live ++ [(⟨o.b, 0, vals⟩ : LiveD)]).length ((s.live ++ [(⟨o.b, 0, vals⟩ : LiveD)]).map frmCells).flatten
                rw [hl2, hc2]
                exact ownsRow_setCell_other hown5 (by simp [Value.ownBlock]; exact hgne) _
            obtain ⟨w6, hw6⟩ : ∃ w6, w6 = w5.setCell ⟨rb, 1, none⟩ (.slice (some ⟨g', 0, none⟩) (sl + 1) cap') := ⟨_, rfl⟩
            rw [← hw6] at hfin ⊢
            clear hw6 hown5 hgrow5 hat5 hlt5 z1 f1 k5 hgne
            revert hfin
            revert w6 cap' g'
            exact key.out
        intro g' cap' w6 hfin
        have HFIN := hid hfin
        clear hfin
        go_wp2
        go_end0
        exact ⟨rfl, HFIN.out⟩
end Go.Proofs.YtffnfjkjlmlonaaGreatDoor
namespace Go.Proofs.YtffnfjkjlmlonaaGreatDoor
open Go.RowKit

/-- A row that loses its last element, its room being as it was. -/
theorem ownsRow_pop {w : World} {base : Nat} {e : TypeId} {size : Nat} {va : Option Addr} {n cap : Nat} {xs ys : List Value} (h : w.ownsRow base e size (.slice va (n + 1) cap) (n + 1) (xs ++ ys)) (hx : xs.length = n * size) : w.ownsRow base e size (.slice va n cap) n xs := by
  refine ⟨hx, ?_⟩
  rcases h.2 with ⟨h1, _⟩ | ⟨g, c, cur, h1, h2, h3, h4, h5, h6, h7⟩
  · simp at h1
  · simp at h1
    obtain ⟨rfl, rfl⟩ := h1
    refine .inr ⟨g, cap, cur, rfl, h2, h3, by omega, h5, h6, ?_⟩
    have h8 : (cur.toList.take ((n + 1) * size)).take (n * size) = cur.toList.take (n * size) := by
      rw [List.take_take, Nat.min_eq_left (Nat.mul_le_mul_right _ (by omega))]
    rw [← h8, h7, ← hx, List.take_left]

set_option maxHeartbeats 4000000 in
set_option maxRecDepth 100000 in
theorem ret_done (X : RX) (w0 : World) (P : List FnD) (rb : Nat) (s : StandD) (x : LiveD) (v : Int) (w : World) (hR : RunAt X w0 P rb w ⟨s.status, s.value, [x]⟩) :
    Calls Tryz.prog 220 #[.pointer (some ⟨rb, 0, none⟩), .int .i64 v] w fun e w' => e = .returned (.tuple #[]) ∧ RunAt X w0 P rb w' ⟨1, v, []⟩ := by
  obtain ⟨pa, pcap, fv, hk, hp, hb, hrb, hown, hvr, hkx⟩ := hR
  replace hkx := hid hkx
  obtain ⟨va, vcap, rfl, hvc, hvm, -⟩ := (show ∃ va vcap, fv = .slice va 1 vcap ∧ 1 ≤ vcap ∧ vcap ≤ maxLen ∧ True from by
    rcases hown.2 with ⟨h1, h2⟩ | ⟨g, c, cur, h1, _, _, h3, h4, _⟩
    · simp at h2
    · exact ⟨_, c, h1, h3, h4, trivial⟩)
  have r1 : w.cell? ⟨rb, 1, none⟩ = some (.slice va 1 vcap) := by simp [World.cell?, hk]
  have r2 : w.cell? ⟨rb, 2, none⟩ = some (.int .i64 s.status) := by simp [World.cell?, hk]
  have r3 : w.cell? ⟨rb, 3, none⟩ = some (.int .i64 s.value) := by simp [World.cell?, hk]
  have f1 : w.frozen? ⟨rb, 1, none⟩ = false := by simp [World.frozen?, hk]
  have f2 : w.frozen? ⟨rb, 2, none⟩ = false := by simp [World.frozen?, hk]
  have f3 : w.frozen? ⟨rb, 3, none⟩ = false := by simp [World.frozen?, hk]
  unfold maxLen at hvm
  have hpop : w.ownsRow w0.heap.size 248 10 (.slice va 0 vcap) 0 [] := ownsRow_pop (n := 0) (ys := ([x].map frmCells).flatten) (by simpa using hown) rfl
  have k1 := heap_setCell_same w rb 1 _ _ (.slice va 0 vcap) hk
  have k2 := heap_setCell_same _ rb 2 _ _ (.int .i64 1) k1
  have k3 := heap_setCell_same _ rb 3 _ _ (.int .i64 v) k2
  have hvr0 : (Value.slice va 0 vcap).ownBlock ≠ some rb := by
    cases va with
    | none => simp [Value.ownBlock]
    | some q => simpa [Value.ownBlock] using hvr
  have HFIN : Hid (RunAt X w0 P rb (((w.setCell ⟨rb, 1, none⟩ (.slice va 0 vcap)).setCell ⟨rb, 2, none⟩ (.int .i64 1)).setCell ⟨rb, 3, none⟩ (.int .i64 v)) ⟨1, v, []⟩) :=
    ⟨pa, pcap, .slice va 0 vcap, k3, hp, ((hb.setCell (p := ⟨rb, 1, none⟩) hrb _).setCell (p := ⟨rb, 2, none⟩) hrb _).setCell (p := ⟨rb, 3, none⟩) hrb _, hrb, ownsRow_setCell_other (ownsRow_setCell_other (ownsRow_setCell_other hpop hvr0 _) hvr0 _) hvr0 _, hvr0, ((((hkx.out.like (fun b e => by cases va with | none => simp [Value.ownBlock] at e | some q => simpa [Value.ownBlock] using e)).set _ _).set _ _).set _ _)⟩
  clear hk hown hpop k1 k2 k3 hvr hvr0
  go_enter Tryz.func220, Tryz.ntmps220
  go_wp2
  exact bodyPost_ret (v := .tuple #[]) (by simp [results, Tryz.results220, go_sem]) rfl ⟨rfl, HFIN.out⟩
end Go.Proofs.YtffnfjkjlmlonaaGreatDoor
