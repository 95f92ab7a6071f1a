/- Contracts of the reference's Unrolled, most, goodNode and wrong: plain functions; nothing that was there is written. The contract of the reference's Rolled at the values of a well-formed table: the table itself; nothing that was there is written. -/
import Derived.Test.YtffnfjkjlmlonaaGreatDoorY3
import Derived.Test.YtffnfjkjlmlonaaGreatDoorZB9
import Derived.Test.YtffnfjkjlmlonaaGreatDoorZB2
namespace Go.Proofs.YtffnfjkjlmlonaaGreatDoor
open Go.RowKit
set_option maxHeartbeats 2000000 in
set_option maxRecDepth 100000 in
theorem runrolled_any (a : Option Addr) (len cap : Nat) (l : List (Int × Int)) (w : World) (hr : RdS w a len cap l) (hwf : wfS l (-1) 1000 = true) :
    Calls Tryz.prog 83 #[.slice a len cap] w fun e w' => ∃ v, e = .returned v ∧ w'.ownsRow w.heap.size 3 1 v (unroll l).length (i64s (unroll l)) ∧ Below w.heap.size w w' := by
  have HL := hid hr.hlen
  have hmax := hr.hmax
  have hcap := hr.hcap
  unfold maxLen at hmax
  obtain ⟨i0, hif, hz0, hz1, hz2⟩ := info_parts Tryz.infoInt64
  go_enter Tryz.func83, Tryz.ntmps83
  go_wp2
  go_loopw [3, 4] (fun v i wr => ∃ k : Nat, i = .int .i64 k ∧ k ≤ len ∧ wr.ownsRow w.heap.size 3 1 v (unroll (l.take k)).length (i64s (unroll (l.take k))) ∧ Below w.heap.size w wr) (fun _ i _ => len - (intOf i).toNat)
  case atStart => exact ⟨0, rfl, by omega, by simpa [unroll, i64s] using World.ownsRow_nil _ _ _ _, Below.refl _ _⟩
  case round =>
    obtain ⟨k, rfl, hk, hown, hbel⟩ := hrel
    have hsz := hbel.size
    by_cases hlt : k < len
    · obtain ⟨b0, off, rfl, hc⟩ := hr.open (by omega)
      obtain ⟨hc1, hc2⟩ := hc k hlt
      have hb0 := World.block_lt_of_cell? w _ hc1
      simp only at hb0
      have hkl : k < l.length := by rw [HL.out]; exact hlt
      obtain ⟨g1, g2, g3, g4, _⟩ := sum_take (l := l) (-1) 1000 k hwf (by omega) hkl
      have hul := unroll_len (l := l) (-1) 1000 k hwf (by omega) (by omega)
      have HU := hid (unroll_take (l := l) (k := k) hkl)
      obtain ⟨⟨v, n⟩, hp⟩ : ∃ p, l.getD k (0, 0) = p := ⟨_, rfl⟩
      rw [hp] at hc1 hc2 g2 g3 HU
      simp only at hc1 hc2 g2 g3 HU
      obtain ⟨N, rfl⟩ := Int.eq_ofNat_of_zero_le (show 0 ≤ n by omega)
      obtain ⟨U, hU⟩ : ∃ U, U = unroll (l.take k) := ⟨_, rfl⟩
      rw [← hU] at hown hul HU
      have hUl : U.length + N ≤ 1000 := by omega
      have HBEL := hid hbel
      have HOWN := hid hown
      have HC1 := hid hc1
      have HC2 := hid hc2
      have hk1 : (k : Int) < (len : Int) := by omega
      clear hc hp hul hU g1 g2 g3 g4 hown hbel hc1 hc2 hr hwf
      generalize wr = w1 at *
      go_wp2
      go_loopw [3, 5] (fun vv i wr => ∃ j : Nat, i = .int .i64 j ∧ j ≤ N ∧ wr.ownsRow w.heap.size 3 1 vv (U.length + j) (i64s (U ++ List.replicate j v)) ∧ Below w.heap.size w wr) (fun _ i _ => N - (intOf i).toNat)
      case atStart => exact ⟨0, rfl, by omega, by simpa using HOWN.out, HBEL.out⟩
      case round =>
        clear HOWN HBEL
        obtain ⟨j, rfl, hj, hown, hbel⟩ := hrel
        have hsz2 := hbel.size
        have e0 : wr.cell? ⟨b0, off + k * 2, none⟩ = some (.int .i64 v) := (hbel.cell (p := ⟨b0, off + k * 2, none⟩) hb0).trans HC1.out
        have e1 : wr.cell? ⟨b0, off + k * 2 + 1, none⟩ = some (.int .i64 N) := (hbel.cell (p := ⟨b0, off + k * 2 + 1, none⟩) hb0).trans HC2.out
        obtain ⟨va, vcap, rfl, hv1, hv2⟩ := owns_form hown
        by_cases hjn : j < N
        · have hjn' : (j : Int) < (N : Int) := by omega
          have HOWN := hid hown
          have HBEL := hid hbel
          clear hown hbel
          go_wp2_with (at_builtin; refine wpList_append_lies _ rfl (.tmp 21) (.tmp 27) 35 rfl w.heap.size 3 i0 (.int .i64 0) 1 8 Tryz.underlying35 hif hz0 hz1 hz2 rfl (by decide) _ _ _ rfl (HOWN.out.alloc _) ⟨wr.heap.size, 0, none⟩ 1 1 [.int .i64 v] rfl rfl (cell_one_new _ _ _) (fun u hu => by rw [List.mem_singleton.1 hu]; rfl) (by decide) (by unfold maxLen; omega) (by omega) (by simp; omega) _ rfl ?_)
          intro g cap' w5 hown5 hgrow5 hat5 hlt5
          have HR5 : Hid (w5.ownsRow w.heap.size 3 1 (.slice (some ⟨g, 0, none⟩) (U.length + j + 1) cap') (U.length + (j + 1)) (i64s (U ++ List.replicate (j + 1) v)) ∧ Below w.heap.size w w5) := by
            refine ⟨?_, (HBEL.out.alloc hsz2 _).grown hgrow5 (by simp; omega) (fun q hq => (HOWN.out.lt q hq).1)⟩
            have e3 : U ++ List.replicate (j + 1) v = (U ++ List.replicate j v) ++ [v] := by rw [List.replicate_succ', List.append_assoc]
            rw [e3, i64s_snoc]
            exact hown5
          clear hown5 hgrow5 hat5 HOWN HBEL e0 e1
          go_wp2
          go_roundw
          case rel => exact ⟨j + 1, by go_num, by omega, HR5.out.1, HR5.out.2⟩
          case measure => simp [intOf]; omega
        · have hjn' : decide ((j : Int) < (N : Int)) = false := by simp; omega
          have hje : j = N := by omega
          have HREL : Hid (wr.ownsRow w.heap.size 3 1 (.slice va (U.length + j) vcap) (unroll (l.take (k + 1))).length (i64s (unroll (l.take (k + 1)))) ∧ Below w.heap.size w wr) := by
            refine ⟨?_, hbel⟩
            rw [HU.out]
            subst hje
            simpa using hown
          go_wp2
          go_roundw
          case rel => exact ⟨k + 1, by go_num, by omega, HREL.out.1, HREL.out.2⟩
          case measure => simp [intOf]; omega
    · have hk' : k = len := by omega
      subst hk'
      have htk : l.take k = l := List.take_of_length_le (by rw [HL.out]; omega)
      rw [htk] at hown
      have hlt' : decide ((k : Int) < (k : Int)) = false := by simp
      go_wp2
      go_ret
      exact ⟨_, rfl, hown, hbel⟩
def mostL (v : List Int) : Int := v.foldl (fun n x => if n < x then x else n) 0
theorem mostL_take (v : List Int) (k : Nat) (h : k < v.length) : mostL (v.take (k + 1)) = if mostL (v.take k) < v.getD k 0 then v.getD k 0 else mostL (v.take k) := by
  unfold mostL
  rw [List.take_succ_eq_append_getElem h, List.foldl_append]
  simp [List.getD, h]
theorem fold_rep (x : Int) : ∀ (c : Nat) (n : Int), 1 ≤ c → (List.replicate c x).foldl (fun n y => if n < y then y else n) n = if n < x then x else n
  | 0, _, h => by omega
  | 1, n, _ => by simp
  | c + 2, n, _ => by
    rw [List.replicate_succ, List.foldl_cons, fold_rep x (c + 1) _ (by omega)]
    by_cases h : n < x <;> simp [h]
theorem mostL_unroll : ∀ (l : List (Int × Int)) (b r : Int), wfS l b r = true → ∀ n : Int, (unroll l).foldl (fun n x => if n < x then x else n) n = l.foldl (fun n p => if n < p.1 then p.1 else n) n
  | [], _, _, _, n => rfl
  | p :: t, b, r, h, n => by
    unfold wfS at h
    split at h
    · cases h
    · split at h
      · cases h
      · rename_i h2
        have e : unroll (p :: t) = List.replicate p.2.toNat p.1 ++ unroll t := by simp [unroll]
        rw [e, List.foldl_append, fold_rep p.1 p.2.toNat n (by omega), List.foldl_cons]
        exact mostL_unroll t _ _ h _
set_option maxHeartbeats 1000000 in
set_option maxRecDepth 100000 in
theorem rmost_any (a : Option Addr) (len cap : Nat) (l : List Int) (w : World) (hr : Rd .i64 w a len cap l) :
    Calls Tryz.prog 202 #[.slice a len cap] w fun e w' => e = .returned (.int .i64 (mostL l)) ∧ w' = w := by
  have HL := hid hr.hlen
  have hmax := hr.hmax
  have hcap := hr.hcap
  unfold maxLen at hmax
  go_enter Tryz.func202, Tryz.ntmps202
  go_wp2
  go_loop [3, 4] (fun n i => ∃ k : Nat, i = .int .i64 k ∧ k ≤ len ∧ n = .int .i64 (mostL (l.take k))) (fun _ i => len - (intOf i).toNat)
  case atStart => exact ⟨0, rfl, by omega, rfl⟩
  case round =>
    obtain ⟨k, rfl, hk, rfl⟩ := hrel
    by_cases hlt : k < len
    · obtain ⟨b0, off, rfl, hc⟩ := hr.open (by omega)
      have hc1 := hc k hlt
      have G4 := hid (mostL_take l k (by rw [HL.out]; exact hlt))
      generalize l.getD k 0 = v at *
      generalize mostL (l.take k) = q at *
      have hk1 : (k : Int) < (len : Int) := by omega
      clear hr hc
      by_cases hq : q < v
      · have HF : Hid (mostL (l.take (k + 1)) = v) := by show _ = _; rw [G4.out]; exact if_pos hq
        go_wp2
        go_round
        case rel => exact ⟨k + 1, by go_num, by omega, by rw [HF.out]⟩
        case measure => simp [intOf]; omega
      · have HF : Hid (mostL (l.take (k + 1)) = q) := by show _ = _; rw [G4.out]; exact if_neg hq
        have hq' : decide (q < v) = false := by simpa using hq
        go_wp2
        go_round
        case rel => exact ⟨k + 1, by go_num, by omega, by rw [HF.out]⟩
        case measure => simp [intOf]; omega
    · have hk' : k = len := by omega
      subst hk'
      have HF : Hid (mostL (l.take k) = mostL l) := by show _ = _; rw [List.take_of_length_le (by rw [HL.out]; omega)]
      have hlt' : decide ((k : Int) < (k : Int)) = false := by simp
      generalize mostL (l.take k) = q at *
      go_wp2
      go_ret
      exact ⟨ret_int HF.out, rfl⟩
set_option maxHeartbeats 1000000 in
set_option maxRecDepth 100000 in
theorem rgoodNode_any (ia : Option Addr) (ilen icap : Nat) (inst : List Int) (fn pc k before funcs : Int) (w : World) (hr : Rd .i64 w ia ilen icap inst) (hb : -1 ≤ before) :
    Calls Tryz.prog 203 #[.slice ia ilen icap, .agg #[.int .i64 fn, .int .i64 pc], .int .i64 k, .int .i64 before, .int .i64 funcs] w fun e w' => e = .returned (.bool (withB fn funcs && pcB pc before k inst)) ∧ Below w.heap.size w w' := by
  have HL := hid hr.hlen
  have hmax := hr.hmax
  have hcap := hr.hcap
  unfold maxLen at hmax
  have HW1 := hid (fun W => within_any fn funcs W)
  have HW2 := hid (fun W => within_any pc ((ilen : Int) - 1) W)
  obtain ⟨q1, hq1⟩ : ∃ q, q = withB fn funcs := ⟨_, rfl⟩
  obtain ⟨q2, hq2⟩ : ∃ q, q = withB pc ((ilen : Int) - 1) := ⟨_, rfl⟩
  rw [← hq1] at HW1 ⊢
  rw [← hq2] at HW2
  have hbA : ∀ o, Below w.heap.size w (w.alloc o) := fun o => (Below.refl _ _).alloc (Nat.le_refl _) _
  have HBA := hid hbA
  clear hbA hq1
  cases q1 with
  | false =>
    go_enter Tryz.func203, Tryz.ntmps203
    go_wp2_with fail
    refine (HW1.out _).mono ?_
    rintro e w' ⟨rfl, rfl⟩
    go_wp2_with fail
    refine (HW2.out _).mono ?_
    rintro e w' ⟨rfl, rfl⟩
    go_wp2
    go_ret
    exact ⟨by simp, HBA.out _⟩
  | true =>
    cases q2 with
    | false =>
      have HF : Hid (pcB pc before k inst = false) := by
        show _ = _
        unfold pcB
        unfold withB at hq2
        have := of_decide_eq_false hq2.symm
        rw [HL.out, decide_eq_false (by omega)]; rfl
      clear hq2
      go_enter Tryz.func203, Tryz.ntmps203
      go_wp2_with fail
      refine (HW1.out _).mono ?_
      rintro e w' ⟨rfl, rfl⟩
      go_wp2_with fail
      refine (HW2.out _).mono ?_
      rintro e w' ⟨rfl, rfl⟩
      go_wp2
      go_ret
      exact ⟨by rw [HF.out]; simp, HBA.out _⟩
    | true =>
      have hin : 0 ≤ pc ∧ pc < (ilen : Int) - 1 := by unfold withB at hq2; exact of_decide_eq_true hq2.symm
      clear hq2
      obtain ⟨n, rfl⟩ := Int.eq_ofNat_of_zero_le hin.1
      obtain ⟨b, off, rfl, hc⟩ := hr.open (by omega)
      have c0 := hc n (by omega)
      have c1 := hc (n + 1) (by omega)
      have hbl := World.block_lt_of_cell? w _ c0
      simp only at hbl
      have hn1 : n < ilen := by omega
      have hn2 : n + 1 < ilen := by omega
      have HE : Hid (pcB (n : Int) before k inst = (decide (before < (n : Int)) && (decide (inst.getD n 0 < k) && inst.getD (n + 1) 0 == k))) := by
        show _ = _
        unfold pcB
        rw [HL.out]
        by_cases h : before < (n : Int)
        · rw [decide_eq_true (by omega), decide_eq_true h]; simp
        · rw [decide_eq_false (by omega), decide_eq_false h]; simp
      generalize inst.getD n 0 = x at *
      generalize inst.getD (n + 1) 0 = y at *
      clear hc hr hin
      by_cases h1 : before < (n : Int)
      · by_cases h2 : x < k
        · have HF : Hid (pcB (n : Int) before k inst = (y == k)) := by show _ = _; rw [HE.out, decide_eq_true h1, decide_eq_true h2]; simp
          go_enter Tryz.func203, Tryz.ntmps203
          go_wp2_with fail
          refine (HW1.out _).mono ?_
          rintro e w' ⟨rfl, rfl⟩
          go_wp2_with fail
          refine (HW2.out _).mono ?_
          rintro e w' ⟨rfl, rfl⟩
          go_wp2
          go_ret
          exact ⟨by rw [HF.out]; simp, HBA.out _⟩
        · have h2' : decide (x < k) = false := by simpa using h2
          have HF : Hid (pcB (n : Int) before k inst = false) := by show _ = _; rw [HE.out, h2']; simp
          go_enter Tryz.func203, Tryz.ntmps203
          go_wp2_with fail
          refine (HW1.out _).mono ?_
          rintro e w' ⟨rfl, rfl⟩
          go_wp2_with fail
          refine (HW2.out _).mono ?_
          rintro e w' ⟨rfl, rfl⟩
          go_wp2
          go_ret
          exact ⟨by rw [HF.out]; simp, HBA.out _⟩
      · have h1' : decide (before < (n : Int)) = false := by simpa using h1
        have HF : Hid (pcB (n : Int) before k inst = false) := by show _ = _; rw [HE.out, h1']; simp
        go_enter Tryz.func203, Tryz.ntmps203
        go_wp2_with fail
        refine (HW1.out _).mono ?_
        rintro e w' ⟨rfl, rfl⟩
        go_wp2_with fail
        refine (HW2.out _).mono ?_
        rintro e w' ⟨rfl, rfl⟩
        go_wp2
        go_ret
        exact ⟨by rw [HF.out]; simp, HBA.out _⟩
end Go.Proofs.YtffnfjkjlmlonaaGreatDoor
namespace Go.Proofs.YtffnfjkjlmlonaaGreatDoor
open Go.RowKit
theorem unroll_at {l : List (Int × Int)} (hwf : wfS l (-1) 1000 = true) {m i : Nat} (hm : m < l.length) (h1 : sumS (l.take m) ≤ i) (h2 : (i : Int) < sumS (l.take (m + 1))) : (unroll l).getD i 0 = (l.getD m (0, 0)).1 := by
  have hul := unroll_len (l := l) (-1) 1000 m hwf (by omega) (by omega)
  have hs := sum_take (l := l) (-1) 1000 m hwf (by omega) hm
  have e : unroll l = unroll (l.take m) ++ (List.replicate (l.getD m (0, 0)).2.toNat (l.getD m (0, 0)).1 ++ unroll (l.drop (m + 1))) := by
    rw [← List.append_assoc, ← unroll_take hm]
    unfold unroll
    rw [← List.flatMap_append, List.take_append_drop]
  rw [e, List.getD_eq_getElem?_getD, List.getElem?_append_right (by omega), List.getElem?_append_left (by rw [List.length_replicate]; omega), List.getElem?_replicate, if_pos (by omega)]
  rfl
theorem wfS_ne {l : List (Int × Int)} : ∀ (b r : Int) (m : Nat), wfS l b r = true → m + 1 < l.length → (l.getD (m + 1) (0, 0)).1 ≠ (l.getD m (0, 0)).1 := by
  induction l with
  | nil => intro b r m _ h; simp at h
  | cons p t ih =>
    intro b r m h hm
    unfold wfS at h
    split at h
    · cases h
    · split at h
      · cases h
      · cases m with
        | zero =>
          cases t with
          | nil => simp at hm
          | cons q u =>
            unfold wfS at h
            split at h
            · cases h
            · rename_i hq
              simp only [List.getD_cons_succ, List.getD_cons_zero]
              exact fun e => hq (.inr e)
        | succ m => simpa using ih p.1 (r - p.2) m h (by simpa using hm)
set_option maxHeartbeats 2000000 in
set_option maxRecDepth 100000 in
theorem rrolled_any (a : Option Addr) (len cap : Nat) (l : List (Int × Int)) (w : World) (hwf : wfS l (-1) 1000 = true) (hr : Rd .i64 w a len cap (unroll l)) :
    Calls Tryz.prog 155 #[.slice a len cap] w fun e w' => ∃ v, e = .returned v ∧ w'.ownsRow w.heap.size 109 2 v l.length (flat l) ∧ Below w.heap.size w w' := by
  have HL := hid hr.hlen
  have hmax := hr.hmax
  have hcap := hr.hcap
  unfold maxLen at hmax
  obtain ⟨i0, hif, hz0, hz1, hz2⟩ := info_parts Tryz.infoSpan
  have hul := unroll_all_len hwf
  rw [HL.out] at hul
  have HWF := hid hwf
  have HR := hid hr
  have hlen1 : len ≤ 1000 := by omega
  have hsum : sumS (l.take l.length) = len := by rw [List.take_length]; omega
  have HSUM := hid hsum
  clear hr hwf hsum hul
  go_enter Tryz.func155, Tryz.ntmps155
  go_wp2
  go_loopw [3, 4, 5] (fun lv fr i wr => ∃ (k m S : Nat), i = .int .i64 k ∧ fr = .int .i64 S ∧ m ≤ l.length ∧ sumS (l.take m) = S ∧ S < k ∧ k ≤ len + 1 ∧ (m < l.length → (k : Int) ≤ sumS (l.take (m + 1))) ∧ (m = l.length → k = len + 1) ∧ wr.ownsRow w.heap.size 109 2 lv m (flat (l.take m)) ∧ Below w.heap.size w wr) (fun _ _ i _ => len + 1 - (intOf i).toNat)
  case atStart =>
    refine ⟨1, 0, 0, rfl, rfl, by omega, rfl, by omega, by omega, fun h => ?_, fun h => ?_, World.ownsRow_nil _ _ _ _, Below.refl _ _⟩
    · have := sum_take (l := l) (-1) 1000 0 HWF.out (by omega) h
      have e : sumS (l.take 0) = 0 := rfl
      omega
    · have h2 := HSUM.out
      rw [← h] at h2
      have e : sumS (l.take 0) = 0 := rfl
      omega
  case round =>
    obtain ⟨k, m, S, rfl, rfl, hm, hS, hSk, hkl, hin, hout, hown, hbel⟩ := hrel
    have hsz := hbel.size
    obtain ⟨va, vcap, rfl, hv1, hv2⟩ := owns_form hown
    by_cases hk : k ≤ len
    · have hml : m < l.length := by
        rcases Nat.lt_or_ge m l.length with h | h
        · exact h
        · have := hout (by omega); omega
      have hst := sum_take (l := l) (-1) 1000 m HWF.out (by omega) hml
      have hink := hin hml
      have hk' : (k : Int) ≤ (len : Int) := by omega
      obtain ⟨b, off, rfl, hc⟩ := (HR.out.below hbel (Nat.le_refl _)).open (by omega)
      have cS := hc S (by omega)
      rw [unroll_at HWF.out hml (by omega) (by omega)] at cS
      have hlast : sumS (l.take (m + 1)) ≤ len := by
        rcases Nat.lt_or_ge (m + 1) l.length with h | h
        · have h2 : ∀ d, m + 1 + d ≤ l.length → sumS (l.take (m + 1)) ≤ sumS (l.take (m + 1 + d)) := by
            intro d
            induction d with
            | zero => intro _; exact Int.le_refl _
            | succ d ih =>
              intro hd
              have h3 := ih (by omega)
              have h4 := sum_take (l := l) (-1) 1000 (m + 1 + d) HWF.out (by omega) (by omega)
              have e5 : m + 1 + (d + 1) = m + 1 + d + 1 := by omega
              rw [e5]
              omega
          have h5 := h2 (l.length - (m + 1)) (by omega)
          rw [show m + 1 + (l.length - (m + 1)) = l.length by omega, HSUM.out] at h5
          exact h5
        · have e6 : m + 1 = l.length := by omega
          rw [e6, HSUM.out]; exact Int.le_refl _
      by_cases hend : (k : Int) = sumS (l.take (m + 1))
      · -- a span ends here
        have htk : flat (l.take (m + 1)) = flat (l.take m) ++ [.int .i64 (l.getD m (0, 0)).1, .int .i64 (l.getD m (0, 0)).2] := by
          rw [List.take_succ_eq_append_getElem hml, flat_snoc]
          simp [List.getD, hml]
        have hn : (k : Int) - (S : Int) = (l.getD m (0, 0)).2 := by omega
        have HTK := hid htk
        have HN := hid hn
        have hmle : m ≤ 1000 := by
          have h2 : ∀ j, j ≤ l.length → (j : Int) ≤ sumS (l.take j) := by
            intro j
            induction j with
            | zero => intro _; exact Int.le_refl _
            | succ j ih =>
              intro hj
              have h3 := ih (by omega)
              have h4 := sum_take (l := l) (-1) 1000 j HWF.out (by omega) (by omega)
              omega
          have := h2 m hm
          omega
        have hnext : m + 1 < l.length → ((k + 1 : Nat) : Int) ≤ sumS (l.take (m + 1 + 1)) := fun h => by
          have := sum_take (l := l) (-1) 1000 (m + 1) HWF.out (by omega) h
          omega
        have hnend : m + 1 = l.length → k + 1 = len + 1 := fun h => by
          have := HSUM.out
          rw [← h] at this
          omega
        have hSd : sumS (l.take (m + 1)) = (k : Int) := hend.symm
        obtain ⟨x, hx⟩ : ∃ x, (l.getD m (0, 0)).1 = x := ⟨_, rfl⟩
        obtain ⟨y, hy⟩ : ∃ y, (l.getD m (0, 0)).2 = y := ⟨_, rfl⟩
        rw [hx] at cS HTK
        rw [hy] at HTK HN
        have HOWN := hid hown
        have HBEL := hid hbel
        have hSl : S < len := by omega
        have hS' : (S : Int) < (len : Int) := by omega
        have HSD := hid hSd
        have HNX := hid hnext
        have HNE := hid hnend
        have hlt0 : b < wr.heap.size := World.block_lt_of_cell? wr _ cS
        by_cases hkl2 : k = len
        · have hke : ((k : Int) == (len : Int)) = true := by simp; omega
          clear hown hbel hin hout hst hink hc hend hn hx hy htk hlast hSd hnext hnend
          subst hkl2
          go_wp2
          go_region
          all_goals
            have cS' : wr.drew.cell? ⟨b, off + S, none⟩ = some (.int .i64 x) := cS
            go_wp2_with (at_builtin; refine wpList_append_lies _ rfl (.tmp 27) (.tmp 36) 37 rfl w.heap.size 109 i0 (.agg #[.int .i64 0, .int .i64 0]) 2 16 Tryz.underlying37 hif hz0 hz1 hz2 rfl (by decide) _ _ _ rfl (HOWN.out.alloc _).drew ⟨wr.heap.size, 0, none⟩ 1 1 [.int .i64 x, .int .i64 ((k : Int) - (S : Int))] rfl rfl (fun j u h => span2_new wr _ _ _ j u h) (span2_one _ _) (by decide) (by unfold maxLen; omega) (by omega) (by simp; omega) _ rfl ?_)
            intro g cap' w5 hown5 hgrow5 hat5 hlt5
            have HR5 : Hid (w5.ownsRow w.heap.size 109 2 (.slice (some ⟨g, 0, none⟩) (m + 1) cap') (m + 1) (flat (l.take (m + 1))) ∧ Below w.heap.size w w5) := by
              refine ⟨?_, ((HBEL.out.alloc hsz _).drew).grown hgrow5 (by show w.heap.size ≤ (wr.alloc _).heap.size; simp; omega) (fun q hq => (HOWN.out.lt q hq).1)⟩
              rw [HTK.out, ← HN.out]; exact hown5
            clear hown5 hgrow5 hat5 HOWN HBEL
            go_wp2
            go_roundw
            case rel => exact ⟨k + 1, m + 1, k, by go_num, rfl, by omega, HSD.out, by omega, by omega, HNX.out, fun _ => rfl, HR5.out.1, HR5.out.2⟩
            case measure => simp [intOf]
        · have hke : ((k : Int) == (len : Int)) = false := by simp; omega
          have hm2 : m + 1 < l.length := by
            rcases Nat.lt_or_ge (m + 1) l.length with h | h
            · exact h
            · exfalso
              have e6 : m + 1 = l.length := by omega
              have h7 := HSUM.out
              rw [← e6] at h7
              omega
          have hst2 := sum_take (l := l) (-1) 1000 (m + 1) HWF.out (by omega) hm2
          have ck := hc k (by omega)
          rw [unroll_at HWF.out hm2 (by omega) (by omega)] at ck
          have hne := wfS_ne (l := l) (-1) 1000 m HWF.out hm2
          rw [hx] at hne
          generalize (l.getD (m + 1) (0, 0)).1 = z at ck hne
          have hne' : (z != x) = true := by simpa using hne
          have hkk : k < len := by omega
          have hkk' : (k : Int) < (len : Int) := by omega
          clear hown hbel hin hout hst hst2 hink hc hend hn hx hy htk hlast hSd hnext hnend hne hkl2
          go_wp2
          go_region
          all_goals
            have cS' : wr.drew.cell? ⟨b, off + S, none⟩ = some (.int .i64 x) := cS
            go_wp2_with (at_builtin; refine wpList_append_lies _ rfl (.tmp 27) (.tmp 36) 37 rfl w.heap.size 109 i0 (.agg #[.int .i64 0, .int .i64 0]) 2 16 Tryz.underlying37 hif hz0 hz1 hz2 rfl (by decide) _ _ _ rfl (HOWN.out.alloc _).drew ⟨wr.heap.size, 0, none⟩ 1 1 [.int .i64 x, .int .i64 ((k : Int) - (S : Int))] rfl rfl (fun j u h => span2_new wr _ _ _ j u h) (span2_one _ _) (by decide) (by unfold maxLen; omega) (by omega) (by simp; omega) _ rfl ?_)
            intro g cap' w5 hown5 hgrow5 hat5 hlt5
            have HR5 : Hid (w5.ownsRow w.heap.size 109 2 (.slice (some ⟨g, 0, none⟩) (m + 1) cap') (m + 1) (flat (l.take (m + 1))) ∧ Below w.heap.size w w5) := by
              refine ⟨?_, ((HBEL.out.alloc hsz _).drew).grown hgrow5 (by show w.heap.size ≤ (wr.alloc _).heap.size; simp; omega) (fun q hq => (HOWN.out.lt q hq).1)⟩
              rw [HTK.out, ← HN.out]; exact hown5
            clear hown5 hgrow5 hat5 HOWN HBEL
            go_wp2
            go_roundw
            case rel => exact ⟨k + 1, m + 1, k, by go_num, rfl, by omega, HSD.out, by omega, by omega, HNX.out, HNE.out, HR5.out.1, HR5.out.2⟩
            case measure => simp [intOf]; omega
      · -- the span goes on
        have hke : ((k : Int) == (len : Int)) = false := by simp; omega
        have ck := hc k (by omega)
        rw [unroll_at HWF.out hml (by omega) (by omega)] at ck
        generalize (l.getD m (0, 0)).1 = x at ck cS
        have hne' : (x != x) = false := by simp
        have hkk : k < len := by omega
        have hkk' : (k : Int) < (len : Int) := by omega
        have hSl : S < len := by omega
        have hS' : (S : Int) < (len : Int) := by omega
        have HO := hid hown
        have HB := hid hbel
        have HIN : Hid (m < l.length → ((k + 1 : Nat) : Int) ≤ sumS (l.take (m + 1))) := fun _ => by omega
        have hlt0 : b < wr.heap.size := World.block_lt_of_cell? wr _ cS
        clear hown hbel hin hout hst hink hc hend hlast
        go_wp2
        go_region
        all_goals
          go_wp2
          go_roundw
          case rel => exact ⟨k + 1, m, S, by go_num, rfl, hm, hS, by omega, by omega, HIN.out, fun h => by omega, HO.out.drew, HB.out.drew⟩
          case measure => simp [intOf]; omega
    · have hk' : decide ((k : Int) ≤ (len : Int)) = false := by simp; omega
      have hme : m = l.length := by
        rcases Nat.lt_or_ge m l.length with h | h
        · exfalso
          have h2 := hin h
          have hst := sum_take (l := l) (-1) 1000 m HWF.out (by omega) h
          have h2' : ∀ d, m + 1 + d ≤ l.length → sumS (l.take (m + 1)) ≤ sumS (l.take (m + 1 + d)) := by
            intro d
            induction d with
            | zero => intro _; exact Int.le_refl _
            | succ d ih =>
              intro hd
              have h3 := ih (by omega)
              have h4 := sum_take (l := l) (-1) 1000 (m + 1 + d) HWF.out (by omega) (by omega)
              have e5 : m + 1 + (d + 1) = m + 1 + d + 1 := by omega
              rw [e5]
              omega
          have h5 := h2' (l.length - (m + 1)) (by omega)
          rw [show m + 1 + (l.length - (m + 1)) = l.length by omega, HSUM.out] at h5
          omega
        · omega
      have HF : Hid (wr.ownsRow w.heap.size 109 2 (.slice va m vcap) l.length (flat l)) := by
        show World.ownsRow _ _ _ _ _ _ _
        have e : l.take m = l := List.take_of_length_le (by omega)
        rw [e] at hown
        rw [hme] at hown ⊢
        exact hown
      clear hin hout hown
      go_wp2
      go_ret
      exact ⟨_, rfl, HF.out, hbel⟩
end Go.Proofs.YtffnfjkjlmlonaaGreatDoor
