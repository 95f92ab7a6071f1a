/- Contracts of the developers' reader's methods head and end. -/
import Derived.Test.YtooinlilplecpaaDoorI8
namespace Go.Proofs.YtooinlilplecpaaDoor
open Go.RowKit

/-- The package-level table of the head reads as the program's text lays it. -/
def HeadAt (w : World) : Prop := w.cell? ⟨0, 0, none⟩ = some (.int .u8 85) ∧ w.cell? ⟨0, 1, none⟩ = some (.int .u8 70) ∧ w.cell? ⟨0, 2, none⟩ = some (.int .u8 1)
theorem HeadAt.below {w w' : World} {B : Nat} (h : HeadAt w) (hb : Below B w w') (hB : w.heap.size ≤ B) : HeadAt w' := by
  have hlt := World.block_lt_of_cell? w _ h.1
  exact ⟨(hb.cell (p := ⟨0, 0, none⟩) (by simp at hlt ⊢; omega)).trans h.1, (hb.cell (p := ⟨0, 1, none⟩) (by simp at hlt ⊢; omega)).trans h.2.1, (hb.cell (p := ⟨0, 2, none⟩) (by simp at hlt ⊢; omega)).trans h.2.2⟩
theorem HeadAt.lt {w : World} (h : HeadAt w) : 0 < w.heap.size := World.block_lt_of_cell? w _ h.1

theorem head_index (k : Nat) (hk : k < 3) : ∃ c : Int, [(85 : Int), 70, 1].drop k = c :: [(85 : Int), 70, 1].drop (k + 1) ∧ ∀ W, (Instr.index 44 (.agg #[.int .u8 85, .int .u8 70, .int .u8 1]) (.int .i64 (k : Int))).run Tryd.prog W = .ok (.int .u8 c) W := by
  match k, hk with
  | 0, _ => exact ⟨85, rfl, fun _ => by kernel_rfl⟩
  | 1, _ => exact ⟨70, rfl, fun _ => by kernel_rfl⟩
  | 2, _ => exact ⟨1, rfl, fun _ => by kernel_rfl⟩

set_option maxHeartbeats 1000000 in
set_option maxRecDepth 100000 in
theorem rhead_any (rb : Nat) (ba : Option Addr) (blen bcap : Nat) (bs : List Int) (nv fv : Value) (s : RsD) (w : World) (hk : w.heap[rb]? = some (.cells (rdA (.slice ba blen bcap) s nv fv) 34 (0, 0))) (hb : Rd .u8 w ba blen bcap bs) (hH : HeadAt w) :
    Calls Tryd.prog 9 #[.pointer (some ⟨rb, 0, none⟩)] w fun e w' => e = .returned (.tuple #[]) ∧ OnlyR rb w w' ∧ w'.heap[rb]? = some (.cells (rdA (.slice ba blen bcap) (rHead bs s) nv fv) 34 (0, 0)) := by
  unfold rdA at hk
  have HL := hid hb.hlen
  have hmax := hb.hmax
  have hcap := hb.hcap
  unfold maxLen at hmax
  have c0 : w.cell? ⟨rb, 0, none⟩ = some (.slice ba blen bcap) := by simp [World.cell?, hk]
  have c1 : w.cell? ⟨rb, 1, none⟩ = some (.int .i64 s.at_) := by simp [World.cell?, hk]
  have c3 : w.cell? ⟨rb, 3, none⟩ = some (.int .i64 s.e) := by simp [World.cell?, hk]
  have f1 : w.frozen? ⟨rb, 1, none⟩ = false := by simp [World.frozen?, hk]
  have f3 : w.frozen? ⟨rb, 3, none⟩ = false := by simp [World.frozen?, hk]
  obtain ⟨g0, g1, g2⟩ := hH
  have HK := hid hk
  clear hk
  go_enter Tryd.func9, Tryd.ntmps9
  go_wp2
  go_loop [5] (fun i => ∃ k : Nat, i = .int .i64 k ∧ k ≤ 3 ∧ k ≤ blen ∧ rHead bs s = rHeadF bs k ([(85 : Int), 70, 1].drop k) s) (fun i => 3 - (intOf i).toNat)
  case atStart => exact ⟨0, rfl, by omega, by omega, rfl⟩
  case round =>
    clear g0 g1 g2
    obtain ⟨k, rfl, hk3, hkl, hrel⟩ := hrel
    by_cases h3 : k < 3
    · obtain ⟨c, hd, hidx⟩ := head_index k h3
      rw [hd] at hrel
      have h3' : (k : Int) < 3 := by omega
      by_cases hlt : k < blen
      · obtain ⟨b, off, rfl, hc⟩ := hb.open (by omega)
        have ck := hc k hlt
        have hlt' : ¬ (blen : Int) ≤ (k : Int) := by omega
        obtain ⟨x, hx⟩ : ∃ x, x = bs.getD k 0 := ⟨_, rfl⟩
        rw [← hx] at ck
        unfold rHeadF at hrel
        rw [if_neg (by rw [HL.out]; omega), ← hx] at hrel
        clear hc hb hd hx
        by_cases hxc : x = c
        · have hxc' : (x != c) = false := by simpa using hxc
          rw [if_neg (by simpa using hxc)] at hrel
          have HR := hid hrel
          clear hrel hxc
          go_wp2
          go_round
          case rel => exact ⟨k + 1, by go_num, by omega, by omega, HR.out⟩
          case measure => simp [intOf]; omega
        · have hxc' : (x != c) = true := by simpa using hxc
          rw [if_pos hxc] at hrel
          have HF : Hid (OnlyR rb w (w.setCell ⟨rb, 3, none⟩ (.int .i64 8)) ∧ (w.setCell ⟨rb, 3, none⟩ (.int .i64 8)).heap[rb]? = some (.cells (rdA (.slice (some ⟨b, off, none⟩) blen bcap) (rHead bs s) nv fv) 34 (0, 0))) := by
            refine ⟨(OnlyR.refl _ _).setCell _ _, ?_⟩
            rw [heap_setCell_same w rb 3 _ _ _ HK.out, hrel]; rfl
          clear hrel hxc
          go_wp2
          exact bodyPost_ret (v := .tuple #[]) (results_none Tryd.results9 _ _ _) rfl ⟨rfl, HF.out⟩
      · have hlt' : (blen : Int) ≤ (k : Int) := by omega
        unfold rHeadF at hrel
        rw [if_pos (by rw [HL.out]; omega)] at hrel
        have HF : Hid (OnlyR rb w (w.setCell ⟨rb, 3, none⟩ (.int .i64 2)) ∧ (w.setCell ⟨rb, 3, none⟩ (.int .i64 2)).heap[rb]? = some (.cells (rdA (.slice ba blen bcap) (rHead bs s) nv fv) 34 (0, 0))) := by
          refine ⟨(OnlyR.refl _ _).setCell _ _, ?_⟩
          rw [heap_setCell_same w rb 3 _ _ _ HK.out, hrel]; rfl
        clear hrel hd
        go_wp2
        exact bodyPost_ret (v := .tuple #[]) (results_none Tryd.results9 _ _ _) rfl ⟨rfl, HF.out⟩
    · have hk' : k = 3 := by omega
      subst hk'
      have HF : Hid (OnlyR rb w (w.setCell ⟨rb, 1, none⟩ (.int .i64 3)) ∧ (w.setCell ⟨rb, 1, none⟩ (.int .i64 3)).heap[rb]? = some (.cells (rdA (.slice ba blen bcap) (rHead bs s) nv fv) 34 (0, 0))) := by
        refine ⟨(OnlyR.refl _ _).setCell _ _, ?_⟩
        rw [heap_setCell_same w rb 1 _ _ _ HK.out, hrel]; rfl
      clear hrel
      go_wp2
      exact bodyPost_end (v := .tuple #[]) (results_none Tryd.results9 _ _ _) rfl ⟨rfl, HF.out⟩

set_option maxHeartbeats 1000000 in
set_option maxRecDepth 100000 in
theorem rend_any (rb : Nat) (ba : Option Addr) (blen bcap : Nat) (bs : List Int) (nv fv : Value) (s : RsD) (w : World) (hk : w.heap[rb]? = some (.cells (rdA (.slice ba blen bcap) s nv fv) 34 (0, 0))) (hl : bs.length = blen) :
    Calls Tryd.prog 14 #[.pointer (some ⟨rb, 0, none⟩)] w fun e w' => e = .returned (.tuple #[]) ∧ OnlyR rb w w' ∧ w'.heap[rb]? = some (.cells (rdA (.slice ba blen bcap) (rEnd bs s) nv fv) 34 (0, 0)) := by
  unfold rdA at hk
  have c0 : w.cell? ⟨rb, 0, none⟩ = some (.slice ba blen bcap) := by simp [World.cell?, hk]
  have c1 : w.cell? ⟨rb, 1, none⟩ = some (.int .i64 s.at_) := by simp [World.cell?, hk]
  have c3 : w.cell? ⟨rb, 3, none⟩ = some (.int .i64 s.e) := by simp [World.cell?, hk]
  have f3 : w.frozen? ⟨rb, 3, none⟩ = false := by simp [World.frozen?, hk]
  have HL := hid hl
  by_cases he : s.e = 0
  · have he' : (s.e == 0) = true := by simpa using he
    by_cases ha : s.at_ < (blen : Int)
    · have HF : Hid (OnlyR rb w (w.setCell ⟨rb, 3, none⟩ (.int .i64 8)) ∧ (w.setCell ⟨rb, 3, none⟩ (.int .i64 8)).heap[rb]? = some (.cells (rdA (.slice ba blen bcap) (rEnd bs s) nv fv) 34 (0, 0))) := by
        refine ⟨(OnlyR.refl _ _).setCell _ _, ?_⟩
        unfold rEnd
        rw [heap_setCell_same w rb 3 _ _ _ hk, if_pos ⟨he, by rw [HL.out]; exact ha⟩]; rfl
      clear hk he hl
      go_enter Tryd.func14, Tryd.ntmps14
      go_wp2
      go_region
      all_goals
        go_wp2
        exact bodyPost_end (v := .tuple #[]) (results_none Tryd.results14 _ _ _) rfl ⟨rfl, ⟨rfl, rfl, rfl, HF.out.1.size, HF.out.1.block⟩, HF.out.2⟩
    · have ha' : decide (s.at_ < (blen : Int)) = false := by simpa using ha
      have HF : Hid (w.heap[rb]? = some (.cells (rdA (.slice ba blen bcap) (rEnd bs s) nv fv) 34 (0, 0))) := by
        show _ = _
        unfold rEnd
        rw [if_neg (fun h => ha (by rw [← HL.out]; exact h.2))]
        exact hk
      clear hk he hl
      go_enter Tryd.func14, Tryd.ntmps14
      go_wp2
      go_region
      all_goals
        go_wp2
        exact bodyPost_end (v := .tuple #[]) (results_none Tryd.results14 _ _ _) rfl ⟨rfl, (OnlyR.refl _ _).drewN _, HF.out⟩
  · have he' : (s.e == 0) = false := by simpa using he
    have HF : Hid (w.heap[rb]? = some (.cells (rdA (.slice ba blen bcap) (rEnd bs s) nv fv) 34 (0, 0))) := by
      show _ = _
      unfold rEnd
      rw [if_neg (fun h => he h.1)]
      exact hk
    clear hk he hl
    go_enter Tryd.func14, Tryd.ntmps14
    go_wp2
    go_region
    all_goals
      go_wp2
      exact bodyPost_end (v := .tuple #[]) (results_none Tryd.results14 _ _ _) rfl ⟨rfl, (OnlyR.refl _ _).drewN _, HF.out⟩
end Go.Proofs.YtooinlilplecpaaDoor
