/- The contract of the reference's GetTable: the plain function getT. -/
import Derived.Test.YtffnfjkjlmlonaaGreatDoorY2
import Derived.Deep.AppendLies
namespace Go.Proofs.YtffnfjkjlmlonaaGreatDoor
open Go.RowKit
theorem endB_getN {bs : List Int} {p : Int} (h : endB bs p = true) : getN bs p = (0, p + 1, 0) := by
  unfold endB at h
  rw [Bool.and_eq_true] at h
  have h1 := of_decide_eq_true h.1
  have h2 : bs.getD p.toNat 0 = 0 := by simpa using h.2
  have hlt : p.toNat < bs.length := by omega
  have hd : bs.drop p.toNat = 0 :: bs.drop (p.toNat + 1) := by
    rw [List.drop_eq_getElem_cons hlt]
    have : bs[p.toNat] = 0 := by simpa [List.getD, hlt] using h2
    rw [this]
  unfold getN
  rw [if_neg (by omega), hd]
  simp [wid, canonB, valB]
theorem getN_endB {bs : List Int} (hx : ∀ j, 0 ≤ bs.getD j 0 ∧ bs.getD j 0 ≤ 255) {p : Int} (h : (getN bs p).2.2 = 0) (h0 : (getN bs p).1 = 0) : endB bs p = true ∧ (getN bs p).2.1 = p + 1 := by
  obtain ⟨g1, _, _⟩ := getN_inv bs hx p h
  rw [h0] at g1
  have e : numB 0 = [0] := rfl
  rw [e] at g1
  obtain ⟨k1, k2, k3, k4⟩ := g1
  simp at k2
  have hlt : p.toNat < bs.length := by omega
  rw [List.drop_eq_getElem_cons hlt] at k4
  have h5 : bs[p.toNat] = 0 := by simpa using (List.cons.inj k4).1
  refine ⟨?_, k2⟩
  unfold endB
  rw [Bool.and_eq_true]
  exact ⟨by simp; omega, by simp [List.getD, hlt, h5]⟩
theorem span2_new (w : World) (a b : Value) (t : TypeId) : ∀ j u, [a, b][j]? = some u → (w.alloc (.cells #[a, b] t)).cell? ((⟨w.heap.size, 0, none⟩ : Addr).add j) = some u := by
  intro j u hu
  match j, hu with
  | 0, hu => simp at hu; subst hu; simp [Addr.add]
  | 1, hu => simp at hu; subst hu; simp [Addr.add]
theorem span2_one (a b : Int) : ∀ u ∈ [Value.int .i64 a, .int .i64 b], u.oneCell' = true := by
  intro u hu; simp at hu; rcases hu with rfl | rfl <;> rfl
/-- A table behind the first number of a span. -/
def half (bs : List Int) (f : Nat) (acc : List (Int × Int)) (p v room : Int) : List (Int × Int) × Int × Int :=
  if (getN bs p).2.2 ≠ 0 then ([], 0, (getN bs p).2.2) else if (getN bs p).1 = 0 ∨ room < (getN bs p).1 then ([], 0, 4) else getTF bs f (acc ++ [(v, (getN bs p).1)]) (getN bs p).2.1 v (room - (getN bs p).1)
theorem even_step {bs : List Int} (hx : ∀ j, 0 ≤ bs.getD j 0 ∧ bs.getD j 0 ≤ 255) (f : Nat) (acc : List (Int × Int)) (p b r : Int) :
    getTF bs (f + 1) acc p b r = if (getN bs p).2.2 ≠ 0 then ([], 0, (getN bs p).2.2) else if (getN bs p).1 = 0 then (if acc = [] then ([], 0, 4) else (acc, (getN bs p).2.1, 0)) else if isV (b + zag (getN bs p).1) = false then ([], 0, 4) else half bs f acc (getN bs p).2.1 (b + zag (getN bs p).1) r := by
  rw [getTF_succ]
  by_cases he : (getN bs p).2.2 ≠ 0
  · have hn : endB bs p = false := by
      cases h : endB bs p with
      | false => rfl
      | true => rw [endB_getN h] at he; simp at he
    have hs : (getSp bs p b r).2.2.2 = (getN bs p).2.2 := by unfold getSp; simp only; rw [if_pos he]
    rw [if_neg (by rw [hn]; simp), if_pos (by rw [hs]; exact he), if_pos he, hs]
  · rw [if_neg he]
    have he0 : (getN bs p).2.2 = 0 := by simpa using he
    by_cases h0 : (getN bs p).1 = 0
    · obtain ⟨g1, g2⟩ := getN_endB hx he0 h0
      rw [if_pos h0]
      by_cases ha : acc = []
      · have hs : (getSp bs p b r).2.2.2 = 4 := by unfold getSp; simp only; rw [if_neg he, if_pos (.inl h0)]
        rw [if_neg (fun h => h.1 ha), if_pos (by rw [hs]; omega), if_pos ha, hs]
      · rw [if_pos ⟨ha, g1⟩, if_neg ha, g2]
    · have hn : endB bs p = false := by
        cases h : endB bs p with
        | false => rfl
        | true => rw [endB_getN h] at h0; simp at h0
      rw [if_neg (by rw [hn]; simp), if_neg h0]
      by_cases hv : isV (b + zag (getN bs p).1) = false
      · have hs : (getSp bs p b r).2.2.2 = 4 := by unfold getSp; simp only; rw [if_neg he, if_pos (.inr hv)]
        rw [if_pos (by rw [hs]; omega), if_pos hv, hs]
      · rw [if_neg hv]
        have hor : ¬ ((getN bs p).1 = 0 ∨ isV (b + zag (getN bs p).1) = false) := by rintro (h | h); exact h0 h; exact hv h
        unfold half
        by_cases h3 : (getN bs (getN bs p).2.1).2.2 ≠ 0
        · have hs : (getSp bs p b r).2.2.2 = (getN bs (getN bs p).2.1).2.2 := by unfold getSp; simp only; rw [if_neg he, if_neg hor, if_pos h3]
          rw [if_pos (by rw [hs]; exact h3), if_pos h3, hs]
        · rw [if_neg h3]
          by_cases h4 : (getN bs (getN bs p).2.1).1 = 0 ∨ r < (getN bs (getN bs p).2.1).1
          · have hs : (getSp bs p b r).2.2.2 = 4 := by unfold getSp; simp only; rw [if_neg he, if_neg hor, if_neg h3, if_pos h4]
            rw [if_pos (by rw [hs]; omega), if_pos h4, hs]
          · have hs : getSp bs p b r = (b + zag (getN bs p).1, (getN bs (getN bs p).2.1).1, (getN bs (getN bs p).2.1).2.1, 0) := by unfold getSp; simp only; rw [if_neg he, if_neg hor, if_neg h3, if_neg h4]
            rw [if_neg (by rw [hs]; simp), if_neg h4, hs]
set_option maxHeartbeats 4000000 in
set_option maxRecDepth 100000 in
theorem rGetT_any (a : Option Addr) (len cap : Nat) (bs : List Int) (at0 : Int) (w : World) (hr : Rd .u8 w a len cap bs) (hx : ∀ j, 0 ≤ bs.getD j 0 ∧ bs.getD j 0 ≤ 255) :
    Calls Tryz.prog 35 #[.slice a len cap, .int .i64 at0] w fun e w' =>
      ∃ v, e = .returned (.tuple #[v, .int .i64 (getT bs at0).2.1, .int .i64 (getT bs at0).2.2]) ∧
        w'.ownsRow w.heap.size 109 2 v (getT bs at0).1.length (flat (getT bs at0).1) ∧ Below w.heap.size w w' := by
  have HL := hid hr.hlen
  have hmax := hr.hmax
  have hcap := hr.hcap
  unfold maxLen at hmax
  by_cases h0 : at0 < 0
  · have HF : Hid (getT bs at0 = ([], 0, 1)) := by show _ = _; unfold getT; rw [if_pos (.inl h0)]
    go_enter Tryz.func35, Tryz.ntmps35
    go_wp2
    go_ret3
    rw [HF.out]
    exact ⟨_, rfl, World.ownsRow_nil _ _ _ _, Below.refl _ _⟩
  · have h0' : decide (at0 < 0) = false := by simpa using h0
    by_cases h1 : (len : Int) < at0
    · have HF : Hid (getT bs at0 = ([], 0, 1)) := by show _ = _; unfold getT; rw [if_pos (.inr (by rw [HL.out]; exact h1))]
      go_enter Tryz.func35, Tryz.ntmps35
      go_wp2
      go_ret3
      rw [HF.out]
      exact ⟨_, rfl, World.ownsRow_nil _ _ _ _, Below.refl _ _⟩
    · have h1' : decide ((len : Int) < at0) = false := by simpa using h1
      have HS : Hid (getT bs at0 = getTF bs 1001 [] at0 (-1) 1000) := by
        show _ = _; unfold getT; rw [if_neg (by rw [HL.out]; omega)]
      obtain ⟨i0, hif, hz0, hz1, hz2⟩ := info_parts Tryz.infoSpan
      have HR := hid hr
      have HX := hid hx
      have HGN := hid (fun (W : World) (p : Int) (h : Below w.heap.size w W) => rGetN_any a len cap bs p W (hr.below h (Nat.le_refl _)) hx)
      clear hr hx
      go_enter Tryz.func35, Tryz.ntmps35
      go_wp2
      go_loopw [1, 7, 8, 9, 10] (fun at_ l al vl tn wr => ∃ (acc : List (Int × Int)) (f : Nat) (p A V : Int) (T : Nat), at_ = .int .i64 p ∧ al = .int .i64 A ∧ vl = .int .i64 V ∧ tn = .int .i64 T ∧ 0 ≤ p ∧ p ≤ bs.length ∧ (acc.length : Int) ≤ A ∧ A ≤ 1000 ∧ -1 ≤ V ∧ V ≤ 9999 ∧ 1000 - A < f ∧ wr.ownsRow w.heap.size 109 2 l acc.length (flat acc) ∧ Below w.heap.size w wr ∧
        ((T = 2 * acc.length ∧ getT bs at0 = getTF bs f acc p V (1000 - A)) ∨ (T = 2 * acc.length + 1 ∧ (acc.length : Int) + 1 ≤ 1001 ∧ getT bs at0 = half bs (f - 1) acc p V (1000 - A)))) (fun _ _ _ _ t _ => 2002 - (intOf t).toNat)
      case atStart => exact ⟨[], 1001, at0, 0, -1, 0, rfl, rfl, rfl, rfl, by omega, by rw [HL.out]; omega, by simp, by omega, by omega, by omega, by omega, World.ownsRow_nil _ _ _ _, Below.refl _ _, .inl ⟨rfl, HS.out⟩⟩
      case round =>
        clear HS h0 h0' h1 h1'
        obtain ⟨acc, f, p, A, V, T, rfl, rfl, rfl, rfl, hp0, hp1, hA0, hA1, hV0, hV1, hf, hown, hbel, hcase⟩ := hrel
        obtain ⟨la, lcap, rfl, hl1, hl2⟩ := owns_form hown
        have hsz := hbel.size
        have HN := hid (HGN.out wr p hbel)
        have hgi : (getN bs p).2.2 = 0 → 0 ≤ (getN bs p).1 ∧ (getN bs p).1 ≤ 2147483647 ∧ p + 1 ≤ (getN bs p).2.1 ∧ (getN bs p).2.1 ≤ bs.length := fun h => by
          obtain ⟨g1, g2, g3⟩ := getN_inv bs HX.out p h
          have g4 := getN_bd bs p h
          exact ⟨g2, g3, g4.2.2.2.1, g4.2.2.2.2⟩
        have hT : (T : Int) ≤ 2001 := by rcases hcase with ⟨h, _⟩ | ⟨h, _⟩ <;> omega
        obtain ⟨f, rfl⟩ : ∃ f', f = f' + 1 := ⟨f - 1, by omega⟩
        rcases hcase with ⟨hTe, hg⟩ | ⟨hTo, hTb, hg⟩
        · rw [even_step HX.out] at hg
          have hpar : ((T : Int) % 2 == 1) = false := by simp; omega
          obtain ⟨⟨n, nx, er⟩, hnn⟩ : ∃ q, getN bs p = q := ⟨_, rfl⟩
          rw [hnn] at HN hg hgi
          simp only at HN hg hgi
          by_cases her : er = 0
          · subst her
            obtain ⟨n0, n1, n2, n3⟩ := hgi rfl
            rw [if_neg (by simp)] at hg
            by_cases hn0 : n = 0
            · subst hn0
              rw [if_pos rfl] at hg
              by_cases hac : acc = []
              · subst hac
                rw [if_pos rfl] at hg
                have hT0 : T = 0 := by simpa using hTe
                have hTz : ((T : Int) == 0) = true := by simp [hT0]
                clear hT0 hTe
                have HF := hid hg
                clear hg hown hnn
                go_wp2_with fail
                refine HN.out.mono ?_
                rintro e w1 ⟨rfl, hb1⟩
                have HB := hid (hbel.trans (hb1.mono hsz))
                clear hb1 hbel
                go_wp2
                go_ret3
                rw [HF.out]
                exact ⟨_, rfl, World.ownsRow_nil _ _ _ _, HB.out⟩
              · rw [if_neg hac] at hg
                have hTn : ((T : Int) == 0) = false := by have := List.length_pos_iff.2 hac; simp; omega
                have HF := hid hg
                have HO := hid hown
                clear hg hown hnn
                go_wp2_with fail
                refine HN.out.mono ?_
                rintro e w1 ⟨rfl, hb1⟩
                have HB := hid (hbel.trans (hb1.mono hsz))
                have HO1 := hid (owns_below HO.out hb1)
                clear hb1 hbel
                go_wp2
                go_ret3
                rw [HF.out]
                exact ⟨_, rfl, HO1.out, HB.out⟩
            · rw [if_neg hn0] at hg
              have hn0' : (n == 0) = false := by simpa using hn0
              have hz : V + zag n = if n % 2 = 0 then V + n / 2 else V - n / 2 - 1 := by unfold zag; split <;> omega
              obtain ⟨v', hv'⟩ : ∃ v', V + zag n = v' := ⟨_, rfl⟩
              rw [hv'] at hg hz
              by_cases hiv : isV v' = false
              · rw [if_pos hiv] at hg
                have hout : v' < 0 ∨ 9999 < v' := by
                  unfold isV at hiv
                  have := of_decide_eq_false hiv
                  omega
                have HF := hid hg
                clear hg hown hnn hv' hiv
                by_cases hev : n % 2 = 0
                · rw [if_pos hev] at hz
                  have hev' : (n % 2 == 0) = true := by simpa using hev
                  clear hev
                  rcases hout with ho | ho
                  · have ho' : V + n / 2 < 0 := by omega
                    clear ho hz
                    go_wp2_with fail
                    refine HN.out.mono ?_
                    rintro e w1 ⟨rfl, hb1⟩
                    have HB := hid (hbel.trans (hb1.mono hsz))
                    clear hb1 hbel
                    go_wp2
                    go_ret3
                    rw [HF.out]
                    exact ⟨_, rfl, World.ownsRow_nil _ _ _ _, HB.out⟩
                  · have ho' : 9999 < V + n / 2 := by omega
                    have ho2 : decide (V + n / 2 < 0) = false := by simp; omega
                    clear ho hz
                    go_wp2_with fail
                    refine HN.out.mono ?_
                    rintro e w1 ⟨rfl, hb1⟩
                    have HB := hid (hbel.trans (hb1.mono hsz))
                    clear hb1 hbel
                    go_wp2
                    go_ret3
                    rw [HF.out]
                    exact ⟨_, rfl, World.ownsRow_nil _ _ _ _, HB.out⟩
                · rw [if_neg hev] at hz
                  have hev' : (n % 2 == 0) = false := by simpa using hev
                  clear hev
                  have ho' : V - n / 2 - 1 < 0 := by omega
                  clear hout hz
                  go_wp2_with fail
                  refine HN.out.mono ?_
                  rintro e w1 ⟨rfl, hb1⟩
                  have HB := hid (hbel.trans (hb1.mono hsz))
                  clear hb1 hbel
                  go_wp2
                  go_ret3
                  rw [HF.out]
                  exact ⟨_, rfl, World.ownsRow_nil _ _ _ _, HB.out⟩
              · rw [if_neg hiv] at hg
                have hin : 0 ≤ v' ∧ v' ≤ 9999 := by
                  have h5 : isV v' = true := by simpa using hiv
                  unfold isV at h5
                  exact of_decide_eq_true h5
                have HF := hid hg
                have HO := hid hown
                clear hg hown hnn hv' hiv
                by_cases hev : n % 2 = 0
                · rw [if_pos hev] at hz
                  have hev' : (n % 2 == 0) = true := by simpa using hev
                  have ho1 : decide (V + n / 2 < 0) = false := by simp; omega
                  have ho2 : decide (9999 < V + n / 2) = false := by simp; omega
                  have HZ := hid hz
                  clear hev hz
                  go_wp2_with fail
                  refine HN.out.mono ?_
                  rintro e w1 ⟨rfl, hb1⟩
                  have HB := hid (hbel.trans (hb1.mono hsz))
                  have HO1 := hid (owns_below HO.out hb1)
                  clear hb1 hbel
                  go_wp2
                  go_roundw
                  case rel => exact ⟨acc, f + 1, nx, A, v', T + 1, rfl, rfl, by rw [HZ.out], by go_num, by omega, by omega, hA0, hA1, by omega, by omega, hf, HO1.out, HB.out, .inr ⟨by omega, by omega, HF.out⟩⟩
                  case measure => simp [intOf]; omega
                · rw [if_neg hev] at hz
                  have hev' : (n % 2 == 0) = false := by simpa using hev
                  have ho1 : decide (V - n / 2 - 1 < 0) = false := by simp; omega
                  have ho2 : decide (9999 < V - n / 2 - 1) = false := by simp; omega
                  have HZ := hid hz
                  clear hev hz
                  go_wp2_with fail
                  refine HN.out.mono ?_
                  rintro e w1 ⟨rfl, hb1⟩
                  have HB := hid (hbel.trans (hb1.mono hsz))
                  have HO1 := hid (owns_below HO.out hb1)
                  clear hb1 hbel
                  go_wp2
                  go_roundw
                  case rel => exact ⟨acc, f + 1, nx, A, v', T + 1, rfl, rfl, by rw [HZ.out], by go_num, by omega, by omega, hA0, hA1, by omega, by omega, hf, HO1.out, HB.out, .inr ⟨by omega, by omega, HF.out⟩⟩
                  case measure => simp [intOf]; omega
          · rw [if_pos her] at hg
            have her' : (er != 0) = true := by simpa using her
            have HF := hid hg
            clear hg hown hnn her hgi
            go_wp2_with fail
            refine HN.out.mono ?_
            rintro e w1 ⟨rfl, hb1⟩
            have HB := hid (hbel.trans (hb1.mono hsz))
            clear hb1 hbel
            go_wp2
            go_ret3
            rw [HF.out]
            exact ⟨_, rfl, World.ownsRow_nil _ _ _ _, HB.out⟩
        · have hpar : ((T : Int) % 2 == 1) = true := by simp; omega
          unfold half at hg
          obtain ⟨⟨n, nx, er⟩, hnn⟩ : ∃ q, getN bs p = q := ⟨_, rfl⟩
          rw [hnn] at HN hg hgi
          simp only at HN hg hgi
          by_cases her : er = 0
          · subst her
            obtain ⟨n0, n1, n2, n3⟩ := hgi rfl
            rw [if_neg (by simp)] at hg
            by_cases hbad : n = 0 ∨ 1000 - A < n
            · rw [if_pos hbad] at hg
              have HF := hid hg
              clear hg hown hnn
              rcases hbad with hb0 | hb0
              · have hb0' : (n == 0) = true := by simpa using hb0
                clear hb0
                go_wp2_with fail
                refine HN.out.mono ?_
                rintro e w1 ⟨rfl, hb1⟩
                have HB := hid (hbel.trans (hb1.mono hsz))
                clear hb1 hbel
                go_wp2
                go_ret3
                rw [HF.out]
                exact ⟨_, rfl, World.ownsRow_nil _ _ _ _, HB.out⟩
              · by_cases hb3 : n = 0
                · exfalso; omega
                · have hb0' : (n == 0) = false := by simpa using hb3
                  have hb4 : 1000 < A + n := by omega
                  clear hb0 hb3
                  go_wp2_with fail
                  refine HN.out.mono ?_
                  rintro e w1 ⟨rfl, hb1⟩
                  have HB := hid (hbel.trans (hb1.mono hsz))
                  clear hb1 hbel
                  go_wp2
                  go_ret3
                  rw [HF.out]
                  exact ⟨_, rfl, World.ownsRow_nil _ _ _ _, HB.out⟩
            · rw [if_neg hbad] at hg
              have hb0' : (n == 0) = false := by simp; omega
              have hb4 : decide (1000 < A + n) = false := by simp; omega
              have hnp : 1 ≤ n := by omega
              have hle : A + n ≤ 1000 := by omega
              have HF := hid hg
              have HO := hid hown
              clear hg hown hnn hbad
              go_wp2_with fail
              refine HN.out.mono ?_
              rintro e w1 ⟨rfl, hb1⟩
              have hbw1 : Below w.heap.size w w1 := hbel.trans (hb1.mono hsz)
              have hs1 := hbw1.size
              have HB := hid hbw1
              have HO1 := hid (owns_below HO.out hb1)
              clear hb1 hbel hbw1
              go_wp2_with (at_builtin; refine wpList_append_lies _ rfl (.tmp 49) (.tmp 53) 37 rfl w.heap.size 109 i0 (.agg #[.int .i64 0, .int .i64 0]) 2 16 Tryz.underlying37 hif hz0 hz1 hz2 rfl (by decide) _ _ _ rfl (HO1.out.alloc _) ⟨w1.heap.size, 0, none⟩ 1 1 [.int .i64 V, .int .i64 n] rfl rfl (span2_new _ _ _ _) (span2_one _ _) (by decide) (by unfold maxLen; omega) (by omega) (by simp; omega) _ rfl ?_)
              intro g cap' w5 hown5 hgrow5 hat5 hlt5
              have HR5 : Hid (w5.ownsRow w.heap.size 109 2 (.slice (some ⟨g, 0, none⟩) (acc.length + 1) cap') (acc ++ [(V, n)]).length (flat (acc ++ [(V, n)])) ∧ Below w.heap.size w w5) := by
                refine ⟨?_, (HB.out.alloc hs1 _).grown hgrow5 (by simp; omega) (fun q hq => (HO1.out.lt q hq).1)⟩
                rw [flat_snoc]; simpa using hown5
              clear hown5 hgrow5 hat5 HO1 HB HO
              go_wp2
              go_roundw
              case rel => exact ⟨acc ++ [(V, n)], f, nx, A + n, V, T + 1, rfl, rfl, rfl, by go_num, by omega, by omega, by simp; omega, by omega, by omega, by omega, by omega, HR5.out.1, HR5.out.2, .inl ⟨by simp; omega, by have := HF.out; rwa [show 1000 - (A + n) = 1000 - A - n by omega]⟩⟩
              case measure => simp [intOf]; omega
          · rw [if_pos her] at hg
            have her' : (er != 0) = true := by simpa using her
            have HF := hid hg
            clear hg hown hnn her hgi
            go_wp2_with fail
            refine HN.out.mono ?_
            rintro e w1 ⟨rfl, hb1⟩
            have HB := hid (hbel.trans (hb1.mono hsz))
            clear hb1 hbel
            go_wp2
            go_ret3
            rw [HF.out]
            exact ⟨_, rfl, World.ownsRow_nil _ _ _ _, HB.out⟩
end Go.Proofs.YtffnfjkjlmlonaaGreatDoor
