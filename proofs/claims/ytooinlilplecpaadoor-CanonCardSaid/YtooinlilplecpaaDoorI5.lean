/- The contract of the developers' table.Values: the Value of each pc, in a row of the call's own; nothing that was there is written. -/
import Derived.Test.YtooinlilplecpaaDoorI1
import Derived.Deep.AppendLies
namespace Go.Proofs.YtooinlilplecpaaDoor
open Go.RowKit

def i64s (l : List Int) : List Value := l.map (Value.int .i64)
theorem i64s_snoc (l : List Int) (x : Int) : i64s (l ++ [x]) = i64s l ++ [.int .i64 x] := by simp [i64s]
theorem i64s_len (l : List Int) : (i64s l).length = l.length := by simp [i64s]

theorem unroll_take {l : List (Int × Int)} {k : Nat} (h : k < l.length) : unroll (l.take (k + 1)) = unroll (l.take k) ++ List.replicate (l.getD k (0, 0)).2.toNat (l.getD k (0, 0)).1 := by
  rw [List.take_succ_eq_append_getElem h, unroll_snoc]
  simp [List.getD, h]
theorem unroll_len {l : List (Int × Int)} : ∀ (b r : Int) (k : Nat), wfS l b r = true → 0 ≤ r → k ≤ l.length → ((unroll (l.take k)).length : Int) = sumS (l.take k) := by
  intro b r k h hr
  induction k with
  | zero => intro _; simp [unroll, sumS]
  | succ k ih =>
    intro hk
    have g := sum_take (l := l) b r k h hr (by omega)
    rw [unroll_take (by omega), List.length_append, List.length_replicate, g.2.2.2.1]
    have := ih (by omega)
    omega

theorem Tryd.infoInt64 : (Tryd.prog.info? 3).map (fun i => (i.zero, i.size, i.bytes)) = some (some (.int .i64 0), 1, 8) := by kernel_rfl

theorem unroll_all_len {l : List (Int × Int)} (h : wfS l (-1) 1000 = true) : ((unroll l).length : Int) = sumS l ∧ sumS l ≤ 1000 := by
  have h1 := unroll_len (l := l) (-1) 1000 l.length h (by omega) (Nat.le_refl _)
  rw [List.take_length] at h1
  refine ⟨h1, ?_⟩
  cases hl : l.length with
  | zero => rw [List.length_eq_zero_iff.1 hl]; simp [sumS]
  | succ n =>
    have g := sum_take (l := l) (-1) 1000 n h (by omega) (by omega)
    have e : l.take (n + 1) = l := List.take_of_length_le (by omega)
    rw [e] at g
    omega

set_option maxHeartbeats 2000000 in
set_option maxRecDepth 100000 in
theorem values_any (a : Option Addr) (len cap : Nat) (l : List (Int × Int)) (w : World) (hr : RdS w a len cap l) (hwf : wfS l (-1) 1000 = true) :
    Calls Tryd.prog 37 #[.slice a len cap] w fun e w' => ∃ v, e = .returned v ∧ w'.ownsRow w.heap.size 3 1 v (unroll l).length (i64s (unroll l)) ∧ Below w.heap.size w w' := by
  have HL := hid hr.hlen
  have hmax := hr.hmax
  have hcap := hr.hcap
  unfold maxLen at hmax
  obtain ⟨i0, hif, hz0, hz1, hz2⟩ := info_parts Tryd.infoInt64
  go_enter Tryd.func37, Tryd.ntmps37
  go_wp2
  go_loopw [3, 9] (fun v i wr => ∃ k : Nat, i = .int .i64 k ∧ k ≤ len ∧ wr.ownsRow w.heap.size 3 1 v (unroll (l.take k)).length (i64s (unroll (l.take k))) ∧ Below w.heap.size w wr) (fun _ i _ => len - (intOf i).toNat)
  case atStart => exact ⟨0, rfl, by omega, by simpa [unroll, i64s] using World.ownsRow_nil _ _ _ _, Below.refl _ _⟩
  case round =>
    obtain ⟨k, rfl, hk, hown, hbel⟩ := hrel
    have hsz := hbel.size
    by_cases hlt : k < len
    · obtain ⟨b0, off, rfl, hc⟩ := (hr.below hbel (Nat.le_refl _)).open (by omega)
      obtain ⟨hc1, hc2⟩ := hc k hlt
      have hb0 := World.block_lt_of_cell? wr _ hc1
      have hkl : k < l.length := by rw [HL.out]; exact hlt
      obtain ⟨g1, g2, g3, g4, _⟩ := sum_take (l := l) (-1) 1000 k hwf (by omega) hkl
      have hul := unroll_len (l := l) (-1) 1000 k hwf (by omega) (by omega)
      have HU := hid (unroll_take (l := l) (k := k) hkl)
      obtain ⟨⟨v, n⟩, hp⟩ : ∃ p, l.getD k (0, 0) = p := ⟨_, rfl⟩
      rw [hp] at hc1 hc2 g2 g3 HU
      simp only at hc1 hc2 hb0 g2 g3 HU
      obtain ⟨N, rfl⟩ := Int.eq_ofNat_of_zero_le (show 0 ≤ n by omega)
      obtain ⟨U, hU⟩ : ∃ U, U = unroll (l.take k) := ⟨_, rfl⟩
      rw [← hU] at hown hul HU
      have hUl : U.length + N ≤ 1000 := by omega
      have HBEL := hid hbel
      have HOWN := hid hown
      have HHR := hid hr
      have hsz1 : w.heap.size < wr.heap.size + 1 := by omega
      clear hr hc hp hwf hul hU g1 g2 g3 g4 hown hbel
      generalize wr = w1 at *
      go_wp2
      go_loopw [3, 6] (fun vv i wr => ∃ j : Nat, i = .int .i64 j ∧ j ≤ N ∧ wr.ownsRow w.heap.size 3 1 vv (U.length + j) (i64s (U ++ List.replicate j v)) ∧ Below w.heap.size w wr ∧ wr.heap[w1.heap.size]? = some (.cells #[.int .i64 v, .int .i64 N] 72 (0, 0))) (fun _ i _ => N - (intOf i).toNat)
      case atStart => exact ⟨0, rfl, by omega, by simpa using HOWN.out.alloc _, HBEL.out.alloc hsz _, heap_alloc_new _ _⟩
      case round =>
        clear HOWN HBEL hc1 hc2
        obtain ⟨j, rfl, hj, hown, hbel, hsb⟩ := hrel
        have e0 : wr.cell? ⟨w1.heap.size, 0, none⟩ = some (.int .i64 v) := by simp [World.cell?, hsb]
        have e1 : wr.cell? ⟨w1.heap.size, 1, none⟩ = some (.int .i64 N) := by simp [World.cell?, hsb]
        obtain ⟨va, vcap, rfl, hv1, hv2⟩ := owns_form hown
        by_cases hjn : j < N
        · have hjn' : (j : Int) < (N : Int) := by omega
          have HOWN := hid hown
          have HBEL := hid hbel
          have HSB := hid hsb
          have hlt2 : w1.heap.size < wr.heap.size := (Array.getElem?_eq_some_iff.1 hsb).1
          clear hown hbel hsb
          go_wp2_with (at_builtin; refine wpList_append_lies _ rfl (.tmp 19) (.tmp 22) 73 rfl w.heap.size 3 i0 (.int .i64 0) 1 8 Tryd.underlying73 hif hz0 hz1 hz2 rfl (by decide) _ _ _ rfl (HOWN.out.alloc _) ⟨wr.heap.size, 0, none⟩ 1 1 [.int .i64 v] rfl rfl (cell_one_new _ _ _) (fun u hu => by rw [List.mem_singleton.1 hu]; rfl) (by decide) (by unfold maxLen; omega) (by omega) (by simp; omega) _ rfl ?_)
          intro g cap' w5 hown5 hgrow5 hat5 hlt5
          have hne5 : some w1.heap.size ≠ (Value.slice va (U.length + j) vcap).ownBlock := owns_other HOWN.out HSB.out (by decide)
          have HR5 : Hid (w5.ownsRow w.heap.size 3 1 (.slice (some ⟨g, 0, none⟩) (U.length + j + 1) cap') (U.length + (j + 1)) (i64s (U ++ List.replicate (j + 1) v)) ∧ Below w.heap.size w w5 ∧ w5.heap[w1.heap.size]? = some (.cells #[.int .i64 v, .int .i64 N] 72 (0, 0))) := by
            refine ⟨?_, (HBEL.out.alloc (by omega) _).grown hgrow5 (by simp; omega) (fun q hq => (HOWN.out.lt q hq).1), (hgrow5.block w1.heap.size (by simp; omega) hne5).trans ((heap_alloc_old _ _ hlt2).trans HSB.out)⟩
            have e3 : U ++ List.replicate (j + 1) v = (U ++ List.replicate j v) ++ [v] := by rw [List.replicate_succ', List.append_assoc]
            rw [e3, i64s_snoc]
            exact hown5
          clear hown5 hgrow5 hat5 hne5 HOWN HBEL HSB e0 e1
          go_wp2
          go_roundw
          case rel => exact ⟨j + 1, by go_num, by omega, HR5.out.1, HR5.out.2.1, HR5.out.2.2⟩
          case measure => simp [intOf]; omega
        · have hjn' : decide ((j : Int) < (N : Int)) = false := by simp; omega
          have hje : j = N := by omega
          have HREL : Hid (wr.ownsRow w.heap.size 3 1 (.slice va (U.length + j) vcap) (unroll (l.take (k + 1))).length (i64s (unroll (l.take (k + 1)))) ∧ Below w.heap.size w wr) := by
            refine ⟨?_, hbel⟩
            rw [HU.out]
            subst hje
            simpa using hown
          go_wp2
          go_roundw
          case rel => exact ⟨k + 1, by go_num, by omega, HREL.out.1, HREL.out.2⟩
          case measure => simp [intOf]; omega
    · have hk' : k = len := by omega
      subst hk'
      have htk : l.take k = l := List.take_of_length_le (by rw [HL.out]; omega)
      rw [htk] at hown
      go_wp2
      go_ret
      exact ⟨_, rfl, hown, hbel⟩
end Go.Proofs.YtooinlilplecpaaDoor
