/- The contract of the reference's GetNumber: the plain function getN. -/
import Derived.Test.YtffnfjkjlmlonaaGreatDoorZB21
namespace Go.Proofs.YtffnfjkjlmlonaaGreatDoor
open Go.RowKit
set_option maxHeartbeats 2000000 in
set_option maxRecDepth 100000 in
theorem rGetN_any (a : Option Addr) (len cap : Nat) (bs : List Int) (at_ : Int) (w : World) (hr : Rd .u8 w a len cap bs) (hx : ∀ j, 0 ≤ bs.getD j 0 ∧ bs.getD j 0 ≤ 255) :
    Calls Tryz.prog 28 #[.slice a len cap, .int .i64 at_] w fun e w' => e = .returned (.tuple #[.int .i64 (getN bs at_).1, .int .i64 (getN bs at_).2.1, .int .i64 (getN bs at_).2.2]) ∧ Below w.heap.size w w' := by
  have HL := hid hr.hlen
  have hmax := hr.hmax
  have hcap := hr.hcap
  unfold maxLen at hmax
  by_cases h0 : at_ < 0
  · have HF : Hid (getN bs at_ = (0, 0, 1)) := by show _ = _; unfold getN; rw [if_pos (.inl h0)]
    go_enter Tryz.func28, Tryz.ntmps28
    go_wp2
    go_ret3
    exact ⟨ret_three HF.out, Below.refl _ _⟩
  · have h0' : decide (at_ < 0) = false := by simpa using h0
    by_cases h1 : (len : Int) < at_
    · have HF : Hid (getN bs at_ = (0, 0, 1)) := by show _ = _; unfold getN; rw [if_pos (.inr (by rw [HL.out]; exact h1))]
      go_enter Tryz.func28, Tryz.ntmps28
      go_wp2
      go_ret3
      exact ⟨ret_three HF.out, Below.refl _ _⟩
    · obtain ⟨n, rfl⟩ := Int.eq_ofNat_of_zero_le (show 0 ≤ at_ by omega)
      have hn : n ≤ len := by omega
      have h1' : decide ((len : Int) < (n : Int)) = false := by simp; omega
      have e0 : getN bs (n : Int) = if (wid 5 (bs.drop n)).2 ≠ 0 then (0, 0, (wid 5 (bs.drop n)).2) else if canonB ((bs.drop n).take (wid 5 (bs.drop n)).1.toNat) then (valB ((bs.drop n).take (wid 5 (bs.drop n)).1.toNat), (n : Int) + (wid 5 (bs.drop n)).1, 0) else (0, 0, 3) := by
        unfold getN
        rw [if_neg (by rw [HL.out]; omega)]
        rfl
      have hrl : (bs.drop n).length = len - n := by rw [List.length_drop, HL.out]
      have hrg : ∀ j, (bs.drop n).getD j 0 = bs.getD (n + j) 0 := fun j => by simp [List.getD]
      have HE := hid e0
      have HRL := hid hrl
      have HRG := hid hrg
      have HX := hid hx
      have HR := hid hr
      clear e0 hrl hrg hx h0 h1
      go_enter Tryz.func28, Tryz.ntmps28
      go_wp2
      go_loop [7] (fun i => ∃ k : Nat, i = .int .i64 ((n : Int) + k) ∧ k ≤ 5 ∧ n + k ≤ len ∧ ∀ j, j < k → ¬ (bs.drop n).getD j 0 < 128) (fun i => 5 - (intOf i - n).toNat)
      case atStart => exact ⟨0, by simp, by omega, by omega, fun j hj => by omega⟩
      case round =>
        obtain ⟨k, rfl, hk5, hkl, hj⟩ := hrel
        have HJ := hid hj
        clear hj
        have e1 : (n : Int) + (k : Int) = ((n + k : Nat) : Int) := by omega
        by_cases hlt : n + k < len
        · obtain ⟨b, off, rfl, hc⟩ := hr.open (by omega)
          have hck := hc (n + k) hlt
          obtain ⟨x, hxx⟩ : ∃ x, bs.getD (n + k) 0 = x := ⟨_, rfl⟩
          have hxb := HX.out (n + k)
          rw [hxx] at hck hxb
          have HXX : Hid ((bs.drop n).getD k 0 = x) := by show _ = _; rw [HRG.out, hxx]
          have hlt' : (n : Int) + (k : Int) < (len : Int) := by omega
          have hto : ((n : Int) + (k : Int)).toNat = n + k := by omega
          have hsub : (n : Int) + (k : Int) - (n : Int) = (k : Int) := by omega
          have HC := hid hc
          clear hc hr e1 hxx
          by_cases hxx : x < 128
          · have hxx' : decide (128 ≤ x) = false := by simp; omega
            by_cases hk : k = 5
            · subst hk
              have HF : Hid (getN bs (n : Int) = (0, 0, 3)) := by
                show _ = _
                rw [HE.out, wid_five _ (by rw [HRL.out]; omega) HJ.out]; simp
              have hsub' : ((n : Int) + ((5 : Nat) : Int) - (n : Int) == 5) = true := by simp; omega
              clear HE
              go_wp2
              go_ret3
              exact ⟨ret_three HF.out, Below.refl _ _⟩
            · have hk4 : k < 5 := by omega
              have hsub' : ((k : Int) == 5) = false := by simp; omega
              have hlen' : ((n : Int) + (k : Int) == (len : Int)) = false := by simp; omega
              obtain ⟨X, hX⟩ : ∃ X, X = (bs.drop n).take (k + 1) := ⟨_, rfl⟩
              have hXl : X.length = k + 1 := by rw [hX, List.length_take, HRL.out]; omega
              have hXg : ∀ j, j < k + 1 → X.getD j 0 = bs.getD (n + j) 0 := fun j hj => by rw [hX]; simp [List.getD, hj]
              have hXs : X = (bs.drop n).take k ++ [x] := by
                rw [hX, List.take_succ_eq_append_getElem (by rw [HRL.out]; omega)]
                congr 1
                have := HXX.out
                rw [List.getD_eq_getElem?_getD, List.getElem?_eq_getElem (by rw [HRL.out]; omega)] at this
                simpa using this
              have hXp : ∀ y ∈ (bs.drop n).take k, 128 ≤ y ∧ y ≤ 255 := by
                intro y hy
                obtain ⟨j, hj, rfl⟩ := List.getElem_of_mem hy
                rw [List.length_take, HRL.out] at hj
                have h5 := HJ.out j (by omega)
                have h6 := HX.out (n + j)
                rw [← HRG.out] at h6
                have h7 : ((bs.drop n).take k)[j]'(by rw [List.length_take, HRL.out]; omega) = (bs.drop n).getD j 0 := by
                  rw [List.getElem_take, List.getD_eq_getElem?_getD, List.getElem?_eq_getElem (by rw [HRL.out]; omega)]; rfl
                rw [h7]; omega
              have hXb : ∀ y ∈ X, 0 ≤ y ∧ y ≤ 255 := by
                rw [hXs]
                intro y hy
                rcases List.mem_append.1 hy with h | h
                · have := hXp y h; omega
                · rw [List.mem_singleton.1 h]; omega
              have hcn := canon_num ((bs.drop n).take k) x (by rw [List.length_take]; omega) hxb.1 hxx hXp
              rw [← hXs] at hcn
              have hw := wid_at k (bs.drop n) hk4 (by rw [HRL.out]; omega) HJ.out (by rw [HXX.out]; exact hxx)
              have hg : getN bs (n : Int) = if canonB X = true then (valB X, (n : Int) + ((k : Int) + 1), 0) else (0, 0, 3) := by
                rw [HE.out, hw]
                have e3 : ((k : Int) + 1).toNat = k + 1 := by omega
                simp [e3, hX]
              have hvs := valB_small X (by omega)
              have HG := hid hg
              have HCN := hid hcn
              have HXB := hid hXb
              have HXG := hid hXg
              have HXL := hid hXl
              have hle5 : X.length ≤ 5 := by omega
              clear hX hXs hXp hXb hXg hcn hg hw HE HJ HXX hXl
              go_wp2
              go_loop [8, 9] (fun m i => ∃ j : Nat, j ≤ k + 1 ∧ i = .int .i64 ((n : Int) + j - 1) ∧ m = .int .i64 (valB (X.drop j))) (fun _ i => (intOf i - n + 1).toNat)
              case atStart => exact ⟨k + 1, by omega, by congr 1; omega, by rw [List.drop_of_length_le (by rw [HXL.out]; omega)]; rfl⟩
              case round =>
                obtain ⟨j, hjk, rfl, rfl⟩ := hrel
                cases j with
                | zero =>
                  have e4 : (n : Int) + ((0 : Nat) : Int) - 1 = (n : Int) - 1 := by omega
                  rw [e4]
                  have hge : decide ((n : Int) ≤ (n : Int) - 1) = false := by simp; omega
                  have e5 : X.drop 0 = X := rfl
                  rw [e5]
                  obtain ⟨V, hV⟩ : ∃ V, V = valB X := ⟨_, rfl⟩
                  have HDG := hid (rdigits_any V w (by omega) (by omega))
                  have hnl := numB_len V
                  rw [← hV] at HG HCN hvs ⊢
                  have HVV := hid hV
                  clear hV
                  go_wp2_with fail
                  refine HDG.out.mono ?_
                  rintro e w1 ⟨v1, rfl, hown1, hb1⟩
                  obtain ⟨ga, gcap, rfl, -, -, hcs1⟩ := owns_some hown1 (by omega)
                  have hbs1 : w.heap.size ≤ w1.heap.size := hb1.size
                  have hB := hid hb1
                  have d1 : ∀ i, i < (numB V).length → w1.drew.cell? ⟨ga, 0 + i, none⟩ = some (.int .u8 ((numB V).getD i 0)) := by
                    intro i hi
                    have h5 := hcs1 i (.int .u8 ((numB V).getD i 0)) (by simp [u8s, List.getD, hi])
                    have e7 : (⟨ga, 0, none⟩ : Addr).add i = ⟨ga, 0 + i, none⟩ := by unfold Addr.add; split <;> simp_all
                    rw [e7] at h5
                    exact h5
                  have d2 : ∀ i, i < k + 1 → w1.drew.cell? ⟨b, off + n + i, none⟩ = some (.int .u8 (X.getD i 0)) := by
                    intro i hi
                    have h5 := HC.out (n + i) (by omega)
                    have h6 := (hb1.cell (p := ⟨b, off + (n + i), none⟩) (World.block_lt_of_cell? w _ h5)).trans h5
                    rw [HXG.out i hi, show off + n + i = off + (n + i) by omega]
                    exact h6
                  have hnB : ∀ y ∈ numB V, 0 ≤ y ∧ y ≤ 255 := numF_byte 4 V (by omega) (by simp [lim]; omega)
                  have hse := str_eq (numB V) X hnB HXB.out
                  have v1 := run_convert_bytes_arg (P := Tryz.prog) w1.drew 36 5 Tryz.underlying36 Tryz.underlying5 ga 0 (numB V).length gcap (numB V) rfl d1 9 Tryz.underlying9
                  have v2 := run_convert_bytes_arg (P := Tryz.prog) w1.drew 36 5 Tryz.underlying36 Tryz.underlying5 b (off + n) (k + 1) (cap - n) X HXL.out d2 9 Tryz.underlying9
                  have e8 : n + k + 1 - n = k + 1 := by omega
                  have v3 := v2
                  rw [← e8] at v3
                  have e9 : ((n : Int) + (k : Int) + 1).toNat = n + k + 1 := by omega
                  have e10 : ((n : Int) + (k : Int) + 1).toNat - n = k + 1 := by omega
                  have v4 := v2
                  rw [← e10] at v4
                  have hcn' : ¬ cap = n := by omega
                  have hcb : (n : Int) + (k : Int) + 1 ≤ (cap : Int) := by omega
                  have hcb2 : n + k + 1 ≤ cap := by omega
                  clear d1 d2 hcs1 hown1 hb1 e8 e10 HC hck
                  generalize (numB V).length = m at *
                  by_cases hgt : 2147483647 < V
                  · have HF : Hid (getN bs (n : Int) = (0, 0, 3)) := by
                      show _ = _
                      rw [HG.out, if_neg (fun h => by have := (HCN.out.1 h).1; omega)]
                    clear v1 v2 v3 v4 hse
                    go_wp2
                    go_region
                    all_goals
                      go_wp2
                      go_ret3
                      exact ⟨ret_three HF.out, hB.out.drew⟩
                  · have hgt' : decide (2147483647 < V) = false := by simpa using hgt
                    by_cases hq : numB V = X
                    · have HF : Hid (getN bs (n : Int) = (V, (n : Int) + ((k : Int) + 1), 0)) := by
                        show _ = _
                        rw [HG.out, if_pos (HCN.out.2 ⟨by omega, hq⟩)]
                      rw [decide_eq_true hq] at hse
                      generalize strOfNums (numB V) = S1 at *
                      generalize strOfNums X = S2 at *
                      clear hq
                      go_wp2
                      go_region
                      all_goals
                        go_wp2
                        go_ret3
                        exact ⟨ret_three (by rw [HF.out]; simp [Int.add_assoc]), hB.out.drew⟩
                    · have HF : Hid (getN bs (n : Int) = (0, 0, 3)) := by
                        show _ = _
                        rw [HG.out, if_neg (fun h => hq (HCN.out.1 h).2)]
                      rw [decide_eq_false hq] at hse
                      generalize strOfNums (numB V) = S1 at *
                      generalize strOfNums X = S2 at *
                      clear hq
                      go_wp2
                      go_region
                      all_goals
                        go_wp2
                        go_ret3
                        exact ⟨ret_three HF.out, hB.out.drew⟩
                | succ q =>
                  have e4 : (n : Int) + ((q + 1 : Nat) : Int) - 1 = (n : Int) + (q : Int) := by omega
                  rw [e4]
                  have cq := HC.out (n + q) (by omega)
                  have hgq := HXG.out q (by omega)
                  have hyb := HX.out (n + q)
                  have hvd := valB_drop X q (by rw [HXL.out]; omega)
                  have hvq := valB_small (X.drop (q + 1)) (by rw [List.length_drop]; omega)
                  rw [hgq] at hvd
                  generalize bs.getD (n + q) 0 = y at *
                  obtain ⟨z, hz⟩ : ∃ z, z = valB (X.drop (q + 1)) := ⟨_, rfl⟩
                  rw [← hz] at hvd hvq ⊢
                  have HVD := hid hvd
                  have hq1 : (n : Int) ≤ (n : Int) + (q : Int) := by omega
                  have hq2 : ((n : Int) + (q : Int)).toNat = n + q := by omega
                  have hq3 : n + q < len := by omega
                  have hq4 : (n : Int) + (q : Int) < (len : Int) := by omega
                  clear hz hvd hgq
                  go_wp2
                  go_round
                  case rel => exact ⟨q, by omega, by go_num, by rw [HVD.out]; go_num⟩
                  case measure => simp [intOf]; omega
          · have hxx' : (128 : Int) ≤ x := by omega
            by_cases hk : k = 5
            · subst hk
              have HF : Hid (getN bs (n : Int) = (0, 0, 3)) := by
                show _ = _
                rw [HE.out, wid_five _ (by rw [HRL.out]; omega) HJ.out]; simp
              have hsub' : decide ((n : Int) + ((5 : Nat) : Int) - (n : Int) < 5) = false := by simp; omega
              clear HE
              go_wp2
              go_ret3
              exact ⟨ret_three HF.out, Below.refl _ _⟩
            · have hk4 : (k : Int) < 5 := by omega
              go_wp2
              go_round
              case rel => exact ⟨k + 1, by go_num, by omega, by omega, fun j hj => by
                by_cases e : j = k
                · subst e; rw [HXX.out]; exact hxx
                · exact HJ.out j (by omega)⟩
              case measure => simp [intOf]; omega
        · have hlt' : decide ((n : Int) + (k : Int) < (len : Int)) = false := by simp; omega
          have hkl' : n + k = len := by omega
          by_cases hk : k = 5
          · subst hk
            have HF : Hid (getN bs (n : Int) = (0, 0, 3)) := by
              show _ = _
              rw [HE.out, wid_five _ (by rw [HRL.out]; omega) HJ.out]; simp
            clear HE
            go_wp2
            go_ret3
            exact ⟨ret_three HF.out, Below.refl _ _⟩
          · have HF : Hid (getN bs (n : Int) = (0, 0, 2)) := by
              show _ = _
              rw [HE.out, wid_short k _ (by omega) (by rw [HRL.out]; omega) HJ.out]; simp
            have hsub : (n : Int) + (k : Int) - (n : Int) = (k : Int) := by omega
            have hk5' : ((k : Int) == 5) = false := by simp; omega
            have hle' : ((n : Int) + (k : Int) == (len : Int)) = true := by simp; omega
            clear HE
            go_wp2
            go_ret3
            exact ⟨ret_three HF.out, Below.refl _ _⟩
end Go.Proofs.YtffnfjkjlmlonaaGreatDoor
