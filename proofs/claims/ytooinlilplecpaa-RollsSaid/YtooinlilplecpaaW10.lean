/- The walk of unfoldkeep.Rolls: for every slice of integers it returns true, and nothing that was there is written. -/
import Derived.Test.YtooinlilplecpaaW9
import Derived.OpenShut
namespace Go.Proofs.Ytooinlilplecpaa
open Go.RowKit

def i64s (l : List Int) : List Value := l.map (Value.int .i64)
theorem i64s_snoc (l : List Int) (x : Int) : i64s (l ++ [x]) = i64s l ++ [.int .i64 x] := by simp [i64s]

theorem Try.infoInt : (Try.prog.info? 3).map (fun i => (i.zero, i.size, i.bytes)) = some (some (.int .i64 0), 1, 8) := by kernel_rfl

theorem pickI_ok (c : Int) : isV (pickI c 10000) = true := by
  unfold isV pickI
  refine decide_eq_true ⟨Int.emod_nonneg _ (by decide), ?_⟩
  have := Int.emod_lt_of_pos (if c < 0 then -(c + 1) else c) (show (0 : Int) < 10000 by decide)
  omega

theorem roll_facts (qs : List Int) (hv : ∀ x ∈ qs, isV x = true) (h1 : 1 ≤ qs.length) (h2 : qs.length ≤ 1000) :
    ∃ (L : List (Int × Int)) (bs pre : List Int), rollL qs = L ∧ putT L = (bs, 0) ∧ bs = pre ++ [0] ∧ getT bs 0 = (L, (bs.length : Int), 0) ∧ (∀ j, j < bs.length → getT (bs.take j) 0 = ([], 0, 2)) ∧
      (∀ k : Nat, k < qs.length → atT L (k : Int) = (qs.getD k 0, 0)) ∧ atT L (-1) = (0, 1) ∧ atT L (qs.length : Int) = (0, 1) ∧ ∀ j, 0 ≤ bs.getD j 0 ∧ bs.getD j 0 ≤ 255 := by
  have hw := roll_wfT qs hv h1 h2
  obtain ⟨⟨w1, w2⟩, _⟩ := (wfT_iff _).1 hw
  obtain ⟨pre, hp⟩ := putS_last (rollL qs) (-1)
  refine ⟨rollL qs, putS (rollL qs) (-1), pre, rfl, ?_, hp, getT_put _ hw, fun j hj => getT_cut _ hw j hj, ?_, ?_, ?_, ?_⟩
  · unfold putT; rw [if_neg (by rw [hw]; simp)]
  · intro k hk
    rw [atT_roll qs hv h1 h2 (k : Int) (by omega), if_pos (by rw [Int.toNat_natCast]; exact hk), Int.toNat_natCast]
  · exact atT_roll_neg qs hv h1 h2 (-1) (by omega)
  · rw [atT_roll qs hv h1 h2 _ (by omega), if_neg (by rw [Int.toNat_natCast]; omega)]
  · exact getD_of_mem _ (putS_byte _ _ w1 (by omega) (by omega) w2)

theorem take_byte (bs : List Int) (h : ∀ j, 0 ≤ bs.getD j 0 ∧ bs.getD j 0 ≤ 255) (n : Nat) : ∀ j, 0 ≤ (bs.take n).getD j 0 ∧ (bs.take n).getD j 0 ≤ 255 := by
  have := byte_drop bs h 0 n
  simpa using this

set_option maxHeartbeats 4000000 in
set_option maxRecDepth 100000 in
theorem rolls_walk (a : Option Addr) (len cap : Nat) (zs : List Int) (w : World) (hr : Rd .i64 w a len cap zs) (hz : ∀ j, -9223372036854775808 ≤ zs.getD j 0 ∧ zs.getD j 0 ≤ 9223372036854775807) :
    Calls Try.prog 3 #[.slice a len cap] w fun e w' => e = .returned (.bool true) ∧ Below w.heap.size w w' := by
  have HL := hid hr.hlen
  have hmax := hr.hmax
  have hcap := hr.hcap
  unfold maxLen at hmax
  obtain ⟨i0, hi, hz0, hz1, hz2⟩ := info_parts Try.infoInt
  go_enter Try.func3, Try.ntmps3
  go_wp2
  go_loopw [3, 4] (fun v i wr => ∃ (k : Nat) (ps : List Int), i = .int .i64 k ∧ k ≤ len ∧ k ≤ 1000 ∧ ps.length = k ∧ (∀ x ∈ ps, isV x = true) ∧ wr.ownsRow w.heap.size 3 1 v k (i64s ps) ∧ Below w.heap.size w wr) (fun _ i _ => len - (intOf i).toNat)
  case atStart => exact ⟨0, [], rfl, by omega, by omega, rfl, by simp, World.ownsRow_nil _ _ _ _, Below.refl _ _⟩
  case round =>
    obtain ⟨k, ps, rfl, hk, hk1000, hpl, hps, hown, hbel⟩ := hrel
    have HPL := hid hpl
    have HPS := hid hps
    clear hpl hps
    have hsz := hbel.size
    by_cases hgo : k < len ∧ k < 1000
    · obtain ⟨hlt, hlt2⟩ := hgo
      obtain ⟨b0, off, rfl, hc⟩ := (hr.below hbel (Nat.le_refl _)).open (by omega)
      have hck := hc k hlt
      have hzk := hz k
      obtain ⟨z, hzz⟩ : ∃ z, z = zs.getD k 0 := ⟨_, rfl⟩
      rw [← hzz] at hck hzk
      have hb0 := World.block_lt_of_cell? wr _ hck
      have hlt' : (k : Int) < (len : Int) := by omega
      clear hc hr hz hzz
      simp only at hb0
      go_wp2_with (first | (go_at_call 4; refine (pick_any _ _ _ (by omega) (by omega) (by omega) (by omega)).mono ?_; rintro e w' ⟨rfl, rfl⟩) | (at_builtin; refine wpList_append_own _ rfl (.tmp 32) (.tmp 34) 22 rfl w.heap.size 3 i0 (.int .i64 0) 1 8 Try.underlying22 hi hz0 hz1 hz2 rfl (by decide) _ _ _ rfl (hown.alloc _) ⟨_, 0, none⟩ 1 1 [.int .i64 (pickI z 10000)] rfl rfl (cell_one_new _ _ _) (fun u hu => by rw [List.mem_singleton.1 hu]; rfl) (by unfold maxLen; omega) (by omega) (by simp; omega) ?_))
      intro v' w2 hown2 hgrow _
      have hbel2 : Below w.heap.size w w2 := (hbel.alloc hsz _).grown hgrow (by simp; omega) (fun k hk => (hown.lt k hk).1)
      have HO := hid hown2
      clear hown2 hgrow hown hbel hck
      go_wp2
      go_roundw
      case rel =>
        refine ⟨k + 1, ps ++ [pickI z 10000], by go_num, by omega, by omega, by rw [List.length_append, HPL.out]; rfl, ?_, by rw [i64s_snoc]; exact HO.out, hbel2⟩
        intro x hx
        rcases List.mem_append.1 hx with hx | hx
        · exact HPS.out x hx
        · rw [List.mem_singleton.1 hx]; exact pickI_ok z
      case measure => simp [intOf]; omega
    · clear hr hz
      obtain ⟨va, vcap, rfl, _, _⟩ := owns_form hown
      have hcase : (k < len ∧ k = 1000) ∨ (k = len ∧ 0 < k) ∨ (k = len ∧ k = 0) := by omega
      clear hgo
      rcases hcase with ⟨hc1, hc2⟩ | ⟨hc1, hc2⟩ | ⟨hc1, hc2⟩
      · have hf := hid (roll_facts ps HPS.out (by rw [HPL.out]; omega) (by rw [HPL.out]; omega))
        have hlt' : (k : Int) < (len : Int) := by omega
        have hge' : decide ((k : Int) < 1000) = false := by simp; omega
        have hne' : ((k : Int) == 0) = false := by simp; omega
        have hrdv : Rd .i64 wr va k vcap ps := by
          obtain ⟨a', cap', e, h⟩ := rd_of_owns hown
          cases e
          exact h
        have hm : k ≤ 1000 := hk1000
        clear hc2
        go_wp2_with fail
        obtain ⟨L, bs, pre, g1, g2, g3, g4, g5, g6, g7, g8, g9⟩ := hf.out
        have hqm := hrdv.hlen
        rw [hqm] at g6 g8
        have hc5 := rolled_any _ _ _ _ _ hrdv hm
        rw [g1] at hc5
        have hbsl : 1 ≤ bs.length := by rw [g3]; simp
        have hlast : bs.getD (bs.length - 1) 0 = 0 := by rw [g3]; simp [List.getD]
        obtain ⟨nb, hnb⟩ : ∃ nb, bs.length = nb := ⟨_, rfl⟩
        obtain ⟨nl, hnl⟩ : ∃ nl, L.length = nl := ⟨_, rfl⟩
        rw [hnl] at hc5
        rw [hnb] at g4 g5 hbsl hlast
        have G2 := hid g2
        have G4 := hid g4
        have G5 := hid g5
        have G6 := hid g6
        have G7 := hid g7
        have G8 := hid g8
        have G9 := hid g9
        have HNB := hid hnb
        have HNL := hid hnl
        have HLAST := hid hlast
        have HQM := hid hqm
        have HC5 := hid hc5
        clear hf g1 g2 g3 g4 g5 g6 g7 g8 g9 hnb hnl hlast hqm hc5 hown
        refine HC5.out.mono ?_
        rintro e w3 ⟨lv, rfl, hownL, hbL⟩
        obtain ⟨la, lcap, rfl, hrdl⟩ := rds_of_owns hownL
        have hrdv3 := hrdv.below hbL (Nat.le_refl _)
        have hbel3 := hbel.trans (hbL.mono hbel.size)
        have hput := PutTable_any _ _ _ _ _ hrdl
        rw [G2.out] at hput
        simp only [HNB.out] at hput
        have HPUT := hid hput
        clear HC5 hownL hbL hrdv hbel hput
        go_wp2_with fail
        refine HPUT.out.mono ?_
        rintro e w4 ⟨bv, rfl, hownB, hbB⟩
        obtain ⟨ba, bcap, rfl, hrdb⟩ := rd_of_owns hownB
        have hrdv4 := hrdv3.below hbB (Nat.le_refl _)
        have hrdl4 := hrdl.below hbB (Nat.le_refl _)
        have hbel4 := hbel3.trans (hbB.mono hbel3.size)
        have hget := GetTable_any _ _ _ bs 0 _ hrdb G9.out
        rw [G4.out] at hget
        simp only [HNL.out] at hget
        have HGET := hid hget
        have hnb1 : nb ≤ bcap := hrdb.hcap
        have hnb2 := hrdb.hmax
        unfold maxLen at hnb2
        have hnl1 : nl ≤ lcap := hrdl.hcap
        have hnl2 := hrdl.hmax
        unfold maxLen at hnl2
        clear HPUT hownB hbB hrdv3 hrdl hbel3 hget
        obtain ⟨bb, boff, rfl, hcb⟩ := hrdb.open (by omega)
        have hcl := hcb (nb - 1) (by omega)
        rw [HLAST.out] at hcl
        have hsub : ((nb : Int) - 1).toNat = nb - 1 := by omega
        have hnb0 : ((nb : Int) == 0) = false := by simp; omega
        clear hcb
        go_wp2_with fail
        clear hcl hsub
        refine HGET.out.mono ?_
        rintro e w5 ⟨xv, rfl, hownX, hbX⟩
        obtain ⟨xa, xcap, rfl, hrdx⟩ := rds_of_owns hownX
        have hrdv5 := hid (hrdv4.below hbX (Nat.le_refl _))
        have hrdl5 := hid (hrdl4.below hbX (Nat.le_refl _))
        have hrdb5 := hid (hrdb.below hbX (Nat.le_refl _))
        have hrdx5 := hid hrdx
        have hbel5 := hid (hbel4.trans (hbX.mono hbel4.size))
        have hxl1 : nl ≤ xcap := hrdx.hcap
        have hxl2 := hrdx.hmax
        unfold maxLen at hxl2
        clear HGET hownX hbX hrdv4 hrdl4 hbel4 hrdb hrdx
        go_wp2
        go_loopw [12] (fun i wr => ∃ j : Nat, i = .int .i64 j ∧ j ≤ nl ∧ Below w5.heap.size w5 wr) (fun i _ => nl - (intOf i).toNat)
        case atStart => exact ⟨0, rfl, by omega, Below.refl _ _⟩
        case round =>
          obtain ⟨j, rfl, hj, hb2⟩ := hrel
          by_cases hlt2 : j < nl
          · obtain ⟨xb, xoff, rfl, hcx⟩ := (hrdx5.out.below hb2 (Nat.le_refl _)).open (by omega)
            obtain ⟨lb, loff, rfl, hcy⟩ := (hrdl5.out.below hb2 (Nat.le_refl _)).open (by omega)
            obtain ⟨hx1, hx2⟩ := hcx j hlt2
            obtain ⟨hy1, hy2⟩ := hcy j hlt2
            generalize (L.getD j (0, 0)).1 = p1 at *
            generalize (L.getD j (0, 0)).2 = p2 at *
            clear hcx hcy
            go_wp2
            go_quiet (fail)
            go_wp2
            go_roundw
            case rel => exact ⟨j + 1, by go_num, by omega, below_draws hb2 nq⟩
            case measure => simp [intOf]; omega
          · go_wp2
            go_loopw [13] (fun i wr => ∃ q : Nat, i = .int .i64 q ∧ q ≤ nb ∧ Below w5.heap.size w5 wr) (fun i _ => nb - (intOf i).toNat)
            case atStart => exact ⟨0, rfl, by omega, hb2⟩
            case round =>
              clear hb2
              obtain ⟨q, rfl, hq, hb3⟩ := hrel
              have hs3 := hb3.size
              by_cases hlt3 : q < nb
              · have hg3 := GetTable_any _ _ _ (bs.take q) 0 _ ((hrdb5.out.below hb3 (Nat.le_refl _)).head q (by omega)) (take_byte bs G9.out q)
                rw [G5.out q hlt3] at hg3
                have HG3 := hid hg3
                have hqc : (q : Int) ≤ (bcap : Int) := by omega
                clear hg3
                go_wp2_with fail
                refine HG3.out.mono ?_
                rintro e w6 ⟨yv, rfl, _, hb6⟩
                go_wp2
                go_roundw
                case rel => exact ⟨q + 1, by go_num, by omega, hb3.trans (hb6.mono hs3)⟩
                case measure => simp [intOf]; omega
              · have HLK := hid (looked_any _ _ _ L _ _ _ _ _ (hrdx5.out.below hb3 (Nat.le_refl _)) (hrdv5.out.below hb3 (Nat.le_refl _)) G6.out G7.out G8.out)
                go_wp2_with fail
                refine HLK.out.mono ?_
                rintro e w6 ⟨rfl, hb6⟩
                go_wp2
                go_ret
                exact ⟨rfl, (hbel5.out.trans (hb3.mono hbel5.out.size)).trans (hb6.mono (Nat.le_trans hbel5.out.size hs3))⟩
      · subst hc1
        have hf := hid (roll_facts ps HPS.out (by rw [HPL.out]; omega) (by rw [HPL.out]; omega))
        have hne' : ((k : Int) == 0) = false := by simp; omega
        have hrdv : Rd .i64 wr va k vcap ps := by
          obtain ⟨a', cap', e, h⟩ := rd_of_owns hown
          cases e
          exact h
        have hm : k ≤ 1000 := hk1000
        go_wp2_with fail
        obtain ⟨L, bs, pre, g1, g2, g3, g4, g5, g6, g7, g8, g9⟩ := hf.out
        have hqm := hrdv.hlen
        rw [hqm] at g6 g8
        have hc5 := rolled_any _ _ _ _ _ hrdv hm
        rw [g1] at hc5
        have hbsl : 1 ≤ bs.length := by rw [g3]; simp
        have hlast : bs.getD (bs.length - 1) 0 = 0 := by rw [g3]; simp [List.getD]
        obtain ⟨nb, hnb⟩ : ∃ nb, bs.length = nb := ⟨_, rfl⟩
        obtain ⟨nl, hnl⟩ : ∃ nl, L.length = nl := ⟨_, rfl⟩
        rw [hnl] at hc5
        rw [hnb] at g4 g5 hbsl hlast
        have G2 := hid g2
        have G4 := hid g4
        have G5 := hid g5
        have G6 := hid g6
        have G7 := hid g7
        have G8 := hid g8
        have G9 := hid g9
        have HNB := hid hnb
        have HNL := hid hnl
        have HLAST := hid hlast
        have HQM := hid hqm
        have HC5 := hid hc5
        clear hf g1 g2 g3 g4 g5 g6 g7 g8 g9 hnb hnl hlast hqm hc5 hown
        refine HC5.out.mono ?_
        rintro e w3 ⟨lv, rfl, hownL, hbL⟩
        obtain ⟨la, lcap, rfl, hrdl⟩ := rds_of_owns hownL
        have hrdv3 := hrdv.below hbL (Nat.le_refl _)
        have hbel3 := hbel.trans (hbL.mono hbel.size)
        have hput := PutTable_any _ _ _ _ _ hrdl
        rw [G2.out] at hput
        simp only [HNB.out] at hput
        have HPUT := hid hput
        clear HC5 hownL hbL hrdv hbel hput
        go_wp2_with fail
        refine HPUT.out.mono ?_
        rintro e w4 ⟨bv, rfl, hownB, hbB⟩
        obtain ⟨ba, bcap, rfl, hrdb⟩ := rd_of_owns hownB
        have hrdv4 := hrdv3.below hbB (Nat.le_refl _)
        have hrdl4 := hrdl.below hbB (Nat.le_refl _)
        have hbel4 := hbel3.trans (hbB.mono hbel3.size)
        have hget := GetTable_any _ _ _ bs 0 _ hrdb G9.out
        rw [G4.out] at hget
        simp only [HNL.out] at hget
        have HGET := hid hget
        have hnb1 : nb ≤ bcap := hrdb.hcap
        have hnb2 := hrdb.hmax
        unfold maxLen at hnb2
        have hnl1 : nl ≤ lcap := hrdl.hcap
        have hnl2 := hrdl.hmax
        unfold maxLen at hnl2
        clear HPUT hownB hbB hrdv3 hrdl hbel3 hget
        obtain ⟨bb, boff, rfl, hcb⟩ := hrdb.open (by omega)
        have hcl := hcb (nb - 1) (by omega)
        rw [HLAST.out] at hcl
        have hsub : ((nb : Int) - 1).toNat = nb - 1 := by omega
        have hnb0 : ((nb : Int) == 0) = false := by simp; omega
        clear hcb
        go_wp2_with fail
        clear hcl hsub
        refine HGET.out.mono ?_
        rintro e w5 ⟨xv, rfl, hownX, hbX⟩
        obtain ⟨xa, xcap, rfl, hrdx⟩ := rds_of_owns hownX
        have hrdv5 := hid (hrdv4.below hbX (Nat.le_refl _))
        have hrdl5 := hid (hrdl4.below hbX (Nat.le_refl _))
        have hrdb5 := hid (hrdb.below hbX (Nat.le_refl _))
        have hrdx5 := hid hrdx
        have hbel5 := hid (hbel4.trans (hbX.mono hbel4.size))
        have hxl1 : nl ≤ xcap := hrdx.hcap
        have hxl2 := hrdx.hmax
        unfold maxLen at hxl2
        clear HGET hownX hbX hrdv4 hrdl4 hbel4 hrdb hrdx
        go_wp2
        go_loopw [12] (fun i wr => ∃ j : Nat, i = .int .i64 j ∧ j ≤ nl ∧ Below w5.heap.size w5 wr) (fun i _ => nl - (intOf i).toNat)
        case atStart => exact ⟨0, rfl, by omega, Below.refl _ _⟩
        case round =>
          obtain ⟨j, rfl, hj, hb2⟩ := hrel
          by_cases hlt2 : j < nl
          · obtain ⟨xb, xoff, rfl, hcx⟩ := (hrdx5.out.below hb2 (Nat.le_refl _)).open (by omega)
            obtain ⟨lb, loff, rfl, hcy⟩ := (hrdl5.out.below hb2 (Nat.le_refl _)).open (by omega)
            obtain ⟨hx1, hx2⟩ := hcx j hlt2
            obtain ⟨hy1, hy2⟩ := hcy j hlt2
            generalize (L.getD j (0, 0)).1 = p1 at *
            generalize (L.getD j (0, 0)).2 = p2 at *
            clear hcx hcy
            go_wp2
            go_quiet (fail)
            go_wp2
            go_roundw
            case rel => exact ⟨j + 1, by go_num, by omega, below_draws hb2 nq⟩
            case measure => simp [intOf]; omega
          · go_wp2
            go_loopw [13] (fun i wr => ∃ q : Nat, i = .int .i64 q ∧ q ≤ nb ∧ Below w5.heap.size w5 wr) (fun i _ => nb - (intOf i).toNat)
            case atStart => exact ⟨0, rfl, by omega, hb2⟩
            case round =>
              clear hb2
              obtain ⟨q, rfl, hq, hb3⟩ := hrel
              have hs3 := hb3.size
              by_cases hlt3 : q < nb
              · have hg3 := GetTable_any _ _ _ (bs.take q) 0 _ ((hrdb5.out.below hb3 (Nat.le_refl _)).head q (by omega)) (take_byte bs G9.out q)
                rw [G5.out q hlt3] at hg3
                have HG3 := hid hg3
                have hqc : (q : Int) ≤ (bcap : Int) := by omega
                clear hg3
                go_wp2_with fail
                refine HG3.out.mono ?_
                rintro e w6 ⟨yv, rfl, _, hb6⟩
                go_wp2
                go_roundw
                case rel => exact ⟨q + 1, by go_num, by omega, hb3.trans (hb6.mono hs3)⟩
                case measure => simp [intOf]; omega
              · have HLK := hid (looked_any _ _ _ L _ _ _ _ _ (hrdx5.out.below hb3 (Nat.le_refl _)) (hrdv5.out.below hb3 (Nat.le_refl _)) G6.out G7.out G8.out)
                go_wp2_with fail
                refine HLK.out.mono ?_
                rintro e w6 ⟨rfl, hb6⟩
                go_wp2
                go_ret
                exact ⟨rfl, (hbel5.out.trans (hb3.mono hbel5.out.size)).trans (hb6.mono (Nat.le_trans hbel5.out.size hs3))⟩
      · subst hc1
        subst hc2
        have hf := hid (roll_facts (ps ++ [0]) (by intro x hx; rcases List.mem_append.1 hx with hx | hx; exact HPS.out x hx; rw [List.mem_singleton.1 hx]; rfl) (by simp) (by rw [List.length_append, HPL.out]; decide))
        go_wp2_with (at_builtin; refine wpList_append_own _ rfl (.tmp 39) (.tmp 40) 22 rfl w.heap.size 3 i0 (.int .i64 0) 1 8 Try.underlying22 hi hz0 hz1 hz2 rfl (by decide) _ _ _ rfl (hown.alloc _) ⟨_, 0, none⟩ 1 1 [.int .i64 0] rfl rfl (cell_one_new _ _ _) (fun u hu => by rw [List.mem_singleton.1 hu]; rfl) (by unfold maxLen; omega) (by omega) (by simp; omega) ?_)
        intro v' w2 hown2 hgrow _
        have hbel2 : Below w.heap.size w w2 := (hbel.alloc hsz _).grown hgrow (by simp; omega) (fun k hk => (hown.lt k hk).1)
        obtain ⟨a', cap', rfl, hrdv⟩ : ∃ a' cap', v' = .slice a' 1 cap' ∧ Rd .i64 w2 a' 1 cap' (ps ++ [0]) := rd_of_owns (by have := hown2; rw [← i64s_snoc] at this; exact this)
        have hm : 1 ≤ 1000 := by omega
        clear hown2 hgrow hbel
        have hbel := hbel2
        clear hbel2
        go_wp2_with fail
        obtain ⟨L, bs, pre, g1, g2, g3, g4, g5, g6, g7, g8, g9⟩ := hf.out
        have hqm := hrdv.hlen
        rw [hqm] at g6 g8
        have hc5 := rolled_any _ _ _ _ _ hrdv hm
        rw [g1] at hc5
        have hbsl : 1 ≤ bs.length := by rw [g3]; simp
        have hlast : bs.getD (bs.length - 1) 0 = 0 := by rw [g3]; simp [List.getD]
        obtain ⟨nb, hnb⟩ : ∃ nb, bs.length = nb := ⟨_, rfl⟩
        obtain ⟨nl, hnl⟩ : ∃ nl, L.length = nl := ⟨_, rfl⟩
        rw [hnl] at hc5
        rw [hnb] at g4 g5 hbsl hlast
        have G2 := hid g2
        have G4 := hid g4
        have G5 := hid g5
        have G6 := hid g6
        have G7 := hid g7
        have G8 := hid g8
        have G9 := hid g9
        have HNB := hid hnb
        have HNL := hid hnl
        have HLAST := hid hlast
        have HQM := hid hqm
        have HC5 := hid hc5
        clear hf g1 g2 g3 g4 g5 g6 g7 g8 g9 hnb hnl hlast hqm hc5 hown
        refine HC5.out.mono ?_
        rintro e w3 ⟨lv, rfl, hownL, hbL⟩
        obtain ⟨la, lcap, rfl, hrdl⟩ := rds_of_owns hownL
        have hrdv3 := hrdv.below hbL (Nat.le_refl _)
        have hbel3 := hbel.trans (hbL.mono hbel.size)
        have hput := PutTable_any _ _ _ _ _ hrdl
        rw [G2.out] at hput
        simp only [HNB.out] at hput
        have HPUT := hid hput
        clear HC5 hownL hbL hrdv hbel hput
        go_wp2_with fail
        refine HPUT.out.mono ?_
        rintro e w4 ⟨bv, rfl, hownB, hbB⟩
        obtain ⟨ba, bcap, rfl, hrdb⟩ := rd_of_owns hownB
        have hrdv4 := hrdv3.below hbB (Nat.le_refl _)
        have hrdl4 := hrdl.below hbB (Nat.le_refl _)
        have hbel4 := hbel3.trans (hbB.mono hbel3.size)
        have hget := GetTable_any _ _ _ bs 0 _ hrdb G9.out
        rw [G4.out] at hget
        simp only [HNL.out] at hget
        have HGET := hid hget
        have hnb1 : nb ≤ bcap := hrdb.hcap
        have hnb2 := hrdb.hmax
        unfold maxLen at hnb2
        have hnl1 : nl ≤ lcap := hrdl.hcap
        have hnl2 := hrdl.hmax
        unfold maxLen at hnl2
        clear HPUT hownB hbB hrdv3 hrdl hbel3 hget
        obtain ⟨bb, boff, rfl, hcb⟩ := hrdb.open (by omega)
        have hcl := hcb (nb - 1) (by omega)
        rw [HLAST.out] at hcl
        have hsub : ((nb : Int) - 1).toNat = nb - 1 := by omega
        have hnb0 : ((nb : Int) == 0) = false := by simp; omega
        clear hcb
        go_wp2_with fail
        clear hcl hsub
        refine HGET.out.mono ?_
        rintro e w5 ⟨xv, rfl, hownX, hbX⟩
        obtain ⟨xa, xcap, rfl, hrdx⟩ := rds_of_owns hownX
        have hrdv5 := hid (hrdv4.below hbX (Nat.le_refl _))
        have hrdl5 := hid (hrdl4.below hbX (Nat.le_refl _))
        have hrdb5 := hid (hrdb.below hbX (Nat.le_refl _))
        have hrdx5 := hid hrdx
        have hbel5 := hid (hbel4.trans (hbX.mono hbel4.size))
        have hxl1 : nl ≤ xcap := hrdx.hcap
        have hxl2 := hrdx.hmax
        unfold maxLen at hxl2
        clear HGET hownX hbX hrdv4 hrdl4 hbel4 hrdb hrdx
        go_wp2
        go_loopw [12] (fun i wr => ∃ j : Nat, i = .int .i64 j ∧ j ≤ nl ∧ Below w5.heap.size w5 wr) (fun i _ => nl - (intOf i).toNat)
        case atStart => exact ⟨0, rfl, by omega, Below.refl _ _⟩
        case round =>
          obtain ⟨j, rfl, hj, hb2⟩ := hrel
          by_cases hlt2 : j < nl
          · obtain ⟨xb, xoff, rfl, hcx⟩ := (hrdx5.out.below hb2 (Nat.le_refl _)).open (by omega)
            obtain ⟨lb, loff, rfl, hcy⟩ := (hrdl5.out.below hb2 (Nat.le_refl _)).open (by omega)
            obtain ⟨hx1, hx2⟩ := hcx j hlt2
            obtain ⟨hy1, hy2⟩ := hcy j hlt2
            generalize (L.getD j (0, 0)).1 = p1 at *
            generalize (L.getD j (0, 0)).2 = p2 at *
            clear hcx hcy
            go_wp2
            go_quiet (fail)
            go_wp2
            go_roundw
            case rel => exact ⟨j + 1, by go_num, by omega, below_draws hb2 nq⟩
            case measure => simp [intOf]; omega
          · go_wp2
            go_loopw [13] (fun i wr => ∃ q : Nat, i = .int .i64 q ∧ q ≤ nb ∧ Below w5.heap.size w5 wr) (fun i _ => nb - (intOf i).toNat)
            case atStart => exact ⟨0, rfl, by omega, hb2⟩
            case round =>
              clear hb2
              obtain ⟨q, rfl, hq, hb3⟩ := hrel
              have hs3 := hb3.size
              by_cases hlt3 : q < nb
              · have hg3 := GetTable_any _ _ _ (bs.take q) 0 _ ((hrdb5.out.below hb3 (Nat.le_refl _)).head q (by omega)) (take_byte bs G9.out q)
                rw [G5.out q hlt3] at hg3
                have HG3 := hid hg3
                have hqc : (q : Int) ≤ (bcap : Int) := by omega
                clear hg3
                go_wp2_with fail
                refine HG3.out.mono ?_
                rintro e w6 ⟨yv, rfl, _, hb6⟩
                go_wp2
                go_roundw
                case rel => exact ⟨q + 1, by go_num, by omega, hb3.trans (hb6.mono hs3)⟩
                case measure => simp [intOf]; omega
              · have HLK := hid (looked_any _ _ _ L _ _ _ _ _ (hrdx5.out.below hb3 (Nat.le_refl _)) (hrdv5.out.below hb3 (Nat.le_refl _)) G6.out G7.out G8.out)
                go_wp2_with fail
                refine HLK.out.mono ?_
                rintro e w6 ⟨rfl, hb6⟩
                go_wp2
                go_ret
                exact ⟨rfl, (hbel5.out.trans (hb3.mono hbel5.out.size)).trans (hb6.mono (Nat.le_trans hbel5.out.size hs3))⟩
end Go.Proofs.Ytooinlilplecpaa
