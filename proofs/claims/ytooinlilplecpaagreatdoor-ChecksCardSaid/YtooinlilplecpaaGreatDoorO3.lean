/- Contract of the statement's own upTo where one kind alone is played: -1, whatever the script, where the step of that kind answers true and leaves the statement's world bare. -/
import Derived.Test.YtooinlilplecpaaGreatDoorO2
import Derived.Test.YtooinlilplecpaaGreatDoorH9
namespace Go.Proofs.YtooinlilplecpaaGreatDoor
open Go.RowKit

theorem RdStep.below {w w' : World} {cs : List Value} {s : StepD} (h : RdStep w cs s) (hb : Below w.heap.size w w') : RdStep w' cs s := by
  obtain ⟨a3, k3, v4, v5, v6, v7, a, cap, e, h1, h2, h3, hr3, hb3, hr, hx⟩ := h
  exact ⟨a3, k3, v4, v5, v6, v7, a, cap, e, h1, h2, h3, hr3.below hb (Nat.le_refl _), hb3, hr.below hb, hx⟩

/-- What is asked of a step of the kind. -/
def StepGives (K : Int) : Prop := ∀ (r : Value) (s : StepD) (cs : List Value) (W : World), s.k = K → RdStep W cs s →
  Calls Tryz.prog 14 #[r, .agg cs.toArray] W fun e w' => e = .returned (.bool true) ∧ Below W.heap.size W w'

set_option maxHeartbeats 4000000 in
set_option maxRecDepth 100000 in
theorem upTo_one (K : Int) (h18K : K < 18) (hK : R64 K) (hS : StepGives K) (a : Option Addr) (cap : Nat) (l : List StepD) (w : World) (hr : RdL 9 RdStep w a l.length cap l) :
    Calls Tryz.prog 13 #[.slice a l.length cap, .int .i64 K, .int .i64 K] w fun e w' => e = .returned (.int .i64 (-1)) ∧ Below w.heap.size w w' := by
  have hcap := hr.2.1
  have hmax := hr.2.2.1
  unfold maxLen at hmax
  have HC := hid hS
  have HR := hid hr
  obtain ⟨hK1, hK2⟩ := hK
  clear hr hS
  obtain ⟨n, hn⟩ : ∃ n, n = l.length := ⟨_, rfl⟩
  rw [← hn] at HR hcap ⊢
  have HN := hid hn
  clear hn
  go_enter Tryz.func13, Tryz.ntmps13
  go_wp2_with fail
  obtain ⟨w1, hw1⟩ : ∃ w1, w1 = w.alloc (Obj.cells nils 34) := ⟨_, rfl⟩
  have hb1 : Below w.heap.size w w1 := by rw [hw1]; exact (Below.refl _ _).alloc (Nat.le_refl _) _
  have hs1 : w1.heap.size = w.heap.size + 1 := by rw [hw1]; simp
  have HB : Hid (Bare w1 w.heap.size) := by show Bare _ _; unfold Bare; rw [hw1]; exact heap_alloc_new _ _
  go_loopw [8] (fun i wr => ∃ j : Nat, i = .int .i64 j ∧ j ≤ n ∧ Below w1.heap.size w1 wr) (fun i _ => n - (intOf i).toNat)
  case atStart => exact ⟨0, rfl, by omega, by rw [hw1]; exact Below.refl _ _⟩
  case round =>
    clear hw1
    obtain ⟨j, rfl, hj, hbel⟩ := hrel
    have hsz := hbel.size
    have hbe := hb1.trans (hbel.mono hb1.size)
    by_cases hjn : j < n
    · obtain ⟨s, hs⟩ : ∃ s, l[j]? = some s := ⟨_, List.getElem?_eq_getElem (by rw [← HN.out]; exact hjn)⟩
      obtain ⟨b, off, cs, rfl, _, hcells, hst⟩ := HR.out.2.2.2 j s hs
      have HST := hid (fun (W : World) (hW : Below wr.heap.size wr W) => (hst.below hbe).below hW)
      have HLK := hid (fun (W : World) (hW : Below wr.heap.size wr W) => looks_bare w.heap.size W ((HB.out.below hbel).below hW))
      obtain ⟨a3, k3, ⟨a4, n4, k4⟩, ⟨a5, n5, k5⟩, ⟨a6, n6, k6⟩, ⟨a7, n7, k7⟩, pa, pcap, rfl, hk, hn', hm, _, _, _, _, _⟩ := hst
      have hc : ∀ k v, [Value.int .i64 s.k, .int .i64 s.n, .int .i64 s.m, .slice a3 s.l.length k3, .slice a4 n4 k4, .slice a5 n5 k5, .slice a6 n6 k6, .slice a7 n7 k7, .slice pa s.p.length pcap][k]? = some v → wr.cell? ⟨b, off + j * 9 + k, none⟩ = some v := fun k v h => by
        have := hcells k v h
        exact (hbe.cell (p := ⟨b, off + j * 9 + k, none⟩) (World.block_lt_of_cell? w _ this)).trans this
      have c0 : wr.cell? ⟨b, off + j * 9, none⟩ = _ := hc 0 _ rfl
      have c1 := hc 1 _ rfl
      have c2 := hc 2 _ rfl
      have c3 := hc 3 _ rfl
      have c4 := hc 4 _ rfl
      have c5 := hc 5 _ rfl
      have c6 := hc 6 _ rfl
      have c7 := hc 7 _ rfl
      have c8 := hc 8 _ rfl
      have HW := hid (fun (W : World) (hW : Below wr.heap.size wr W) => step_write w.heap.size s.n s.m (.slice a3 s.l.length k3) (.slice a4 n4 k4) (.slice a5 n5 k5) (.slice a6 n6 k6) (.slice a7 n7 k7) (.slice pa s.p.length pcap) W ((HB.out.below hbel).below hW) hm)
      clear hcells hc hs
      have hjn' : (j : Int) < (n : Int) := by omega
      obtain ⟨hk1, hk2⟩ := hk
      by_cases h18 : s.k = 18
      · clear HST HC
        go_wp2_with fail
        refine (HW.out _ ((Below.refl _ _).alloc (Nat.le_refl _) _)).mono ?_
        rintro e w2 ⟨rfl, hb2⟩
        have hb2' := ((Below.refl wr.heap.size wr).alloc (Nat.le_refl _) _).trans (hb2.mono (by simp))
        go_wp2_with fail
        refine (HLK.out _ hb2').mono ?_
        rintro e w3 ⟨rfl, hb3⟩
        have hb3' := hb2'.trans (hb3.mono hb2'.size)
        go_wp2
        go_roundw
        case rel => exact ⟨j + 1, by go_num, by omega, hbel.trans (hb3'.mono hsz)⟩
        case measure => simp [intOf]; omega
      · by_cases hKk : s.k = K
        · have HST' := hid (fun (W : World) (r : Value) (hW : Below wr.heap.size wr W) => HC.out r s _ W hKk (HST.out W hW))
          clear HST HC HW
          rw [hKk] at HST'
          go_wp2_with fail
          refine (HST'.out _ _ ((Below.refl _ _).alloc (Nat.le_refl _) _)).mono ?_
          rintro e w2 ⟨rfl, hb2⟩
          have hb2' := ((Below.refl wr.heap.size wr).alloc (Nat.le_refl _) _).trans (hb2.mono (by simp))
          go_wp2_with fail
          refine (HLK.out _ hb2').mono ?_
          rintro e w3 ⟨rfl, hb3⟩
          have hb3' := hb2'.trans (hb3.mono hb2'.size)
          go_wp2
          go_roundw
          case rel => exact ⟨j + 1, by go_num, by omega, hbel.trans (hb3'.mono hsz)⟩
          case measure => simp [intOf]; omega
        · clear HST HC HW HLK
          have hbr : Below w1.heap.size w1 (wr.alloc (Obj.cells #[.int .i64 s.k, .int .i64 s.n, .int .i64 s.m, .slice a3 s.l.length k3, .slice a4 n4 k4, .slice a5 n5 k5, .slice a6 n6 k6, .slice a7 n7 k7, .slice pa s.p.length pcap] 46)) := hbel.alloc hsz _
          by_cases hlt : s.k < K
          · have hge : decide (K ≤ s.k) = false := by simp; omega
            go_wp2
            go_roundw
            case rel => exact ⟨j + 1, by go_num, by omega, hbr⟩
            case measure => simp [intOf]; omega
          · have hge : decide (K ≤ s.k) = true := by simp; omega
            have hle : decide (s.k ≤ K) = false := by simp; omega
            go_wp2
            go_roundw
            case rel => exact ⟨j + 1, by go_num, by omega, hbr⟩
            case measure => simp [intOf]; omega
    · go_wp2
      go_ret
      exact ⟨rfl, hbe⟩

theorem step_gives_check (hC : CheckGives) : StepGives 6 := by
  intro r s cs W hk hs
  obtain ⟨a3, k3, v4, v5, v6, v7, a, cap, rfl, h1, h2, h3, hr3, hb3, hr, hx, hfit⟩ := hs
  rw [hk]
  exact step_check hC r s.n s.m _ _ _ _ _ a cap s.p W hr hx hfit
end Go.Proofs.YtooinlilplecpaaGreatDoor
