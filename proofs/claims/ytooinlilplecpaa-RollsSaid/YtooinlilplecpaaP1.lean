/- The contract of the law's own function rolled: it gives the spans of some values, in a row of the call's own; nothing that was there is written. -/
import Derived.Test.YtooinlilplecpaaW8
import Derived.Test.YtooinlilplecpaaP0
import Derived.Deep.QuietTactic
import Derived.BigQuiet
namespace Go.Proofs.Ytooinlilplecpaa
open Go.RowKit

def rollStep (acc : List (Int × Int)) (x : Int) : List (Int × Int) :=
  match acc.getLast? with
  | some p => if p.1 = x then acc.dropLast ++ [(x, p.2 + 1)] else acc ++ [(x, 1)]
  | none => acc ++ [(x, 1)]
def rollL (vs : List Int) : List (Int × Int) := vs.foldl rollStep []
theorem rollL_snoc (vs : List Int) (x : Int) : rollL (vs ++ [x]) = rollStep (rollL vs) x := by simp [rollL]
theorem rollStep_same (pre : List (Int × Int)) (x n : Int) : rollStep (pre ++ [(x, n)]) x = pre ++ [(x, n + 1)] := by simp [rollStep]
theorem rollStep_other (pre : List (Int × Int)) (x y n : Int) (h : y ≠ x) : rollStep (pre ++ [(y, n)]) x = pre ++ [(y, n)] ++ [(x, 1)] := by simp [rollStep, h]
theorem rollStep_nil (x : Int) : rollStep [] x = [(x, 1)] := rfl
/-- Behind at least one value: the last span has the last value. -/
theorem roll_last : ∀ (n : Nat) (vs : List Int), vs.length = n + 1 → ∃ pre m, rollL vs = pre ++ [(vs.getD n 0, m)] ∧ 1 ≤ m ∧ m ≤ (n : Int) + 1 ∧ pre.length ≤ n := by
  intro n
  induction n with
  | zero =>
    intro vs h
    match vs, h with
    | [x], _ => exact ⟨[], 1, by simp [rollL, rollStep], by omega, by omega, by simp⟩
  | succ n ih =>
    intro vs h
    obtain ⟨us, x, rfl⟩ : ∃ us x, vs = us ++ [x] := by
      have hne : vs ≠ [] := by intro e; simp [e] at h
      exact ⟨vs.dropLast, vs.getLast hne, (List.dropLast_concat_getLast hne).symm⟩
    have hl : us.length = n + 1 := by simpa using h
    obtain ⟨pre, m, e, h1, h2, h3⟩ := ih us hl
    have ex : (us ++ [x]).getD (n + 1) 0 = x := by simp [List.getD, hl]
    rw [rollL_snoc, e, ex]
    by_cases hx : us.getD n 0 = x
    · rw [hx]; exact ⟨pre, m + 1, rollStep_same pre x m, by omega, by omega, by omega⟩
    · refine ⟨pre ++ [(us.getD n 0, m)], 1, rollStep_other pre x _ m hx, by omega, by omega, by simp; omega⟩

theorem take_snoc (vs : List Int) (k : Nat) (h : k < vs.length) : vs.take (k + 1) = vs.take k ++ [vs.getD k 0] := by
  rw [List.take_succ_eq_append_getElem h]; simp [List.getD, h]

theorem below_draws {B : Nat} {a w : World} (h : Below B a w) (n : Nat) : Below B a (w.drewN n) := h.trans ⟨rfl, rfl, rfl, Nat.le_refl _, fun _ _ => rfl⟩
theorem two_new (w : World) (x y : Value) (e : TypeId) : ∀ (j : Nat) (u : Value), [x, y][j]? = some u → (w.alloc (.cells #[x, y] e)).cell? ((⟨w.heap.size, 0, none⟩ : Addr).add j) = some u := by
  intro j u hj
  match j, hj with
  | 0, hj => simp at hj; subst hj; simp [Addr.add]
  | 1, hj => simp at hj; subst hj; simp [Addr.add]
theorem two_one (a b : Int) : ∀ u ∈ [Value.int .i64 a, .int .i64 b], u.oneCell' = true := by
  intro u hu; simp at hu; rcases hu with rfl | rfl <;> rfl
theorem flat_last (pre : List (Int × Int)) (y m : Int) (n : Nat) (h : n = pre.length) : (flat (pre ++ [(y, m)]))[n * 2 + 1]? = some (.int .i64 m) := by
  rw [flat_snoc, List.getElem?_append_right (by rw [flat_len]; omega), flat_len, h]
  simp
theorem flat_set (pre : List (Int × Int)) (y m : Int) (n : Nat) (h : n = pre.length) : (flat (pre ++ [(y, m)])).set (n * 2 + 1) (.int .i64 (m + 1)) = flat (pre ++ [(y, m + 1)]) := by
  rw [flat_snoc, flat_snoc, List.set_append_right _ _ (by rw [flat_len]; omega), flat_len, h]
  simp

/-- The relation of rolled's loop. -/
def RelR (w : World) (vs : List Int) (l i : Value) (wr : World) : Prop :=
  ∃ (k : Nat), i = .int .i64 k ∧ k ≤ vs.length ∧ wr.ownsRow w.heap.size 33 2 l (rollL (vs.take k)).length (flat (rollL (vs.take k))) ∧ Below w.heap.size w wr

set_option maxHeartbeats 2000000 in
set_option maxRecDepth 100000 in
theorem rolled_any (a : Option Addr) (len cap : Nat) (vs : List Int) (w : World) (hr : Rd .i64 w a len cap vs) (h1000 : len ≤ 1000) :
    Calls Try.prog 5 #[.slice a len cap] w fun e w' => ∃ v, e = .returned v ∧
      w'.ownsRow w.heap.size 33 2 v (rollL vs).length (flat (rollL vs)) ∧ Below w.heap.size w w' := by
  have HL := hid hr.hlen
  have hmax := hr.hmax
  have hcap := hr.hcap
  unfold maxLen at hmax
  obtain ⟨i0, hi, hz0, hz1, hz2⟩ := info_parts Try.infoSpan
  go_enter Try.func5, Try.ntmps5
  go_wp2
  go_loopw [3, 4] (fun l i wr => RelR w vs l i wr) (fun _ i _ => len - (intOf i).toNat)
  case atStart => exact ⟨0, rfl, by omega, World.ownsRow_nil _ _ _ _, Below.refl _ _⟩
  case round =>
    obtain ⟨k, rfl, hk, hown, hbel⟩ := hrel
    rw [HL.out] at hk
    have hsz := hbel.size
    by_cases hlt : k < len
    · obtain ⟨b0, off, rfl, hc⟩ := (hr.below hbel (Nat.le_refl _)).open (by omega)
      have hck := hc k hlt
      have hlt' : k < vs.length := by rw [HL.out]; exact hlt
      have hts := take_snoc vs k hlt'
      have hb0 := World.block_lt_of_cell? wr _ hck
      simp only at hb0
      cases k with
      | zero =>
        have HN : Hid (rollL (vs.take (0 + 1)) = [(vs.getD 0 0, 1)]) := by show _ = _; rw [hts]; simp [rollL, rollStep]
        obtain ⟨x, hx⟩ : ∃ x, x = vs.getD 0 0 := ⟨_, rfl⟩
        rw [← hx] at hck HN
        clear hts hx hc hr
        have hown0 : wr.ownsRow w.heap.size 33 2 u3 0 [] := hown
        clear hown
        have hown := hown0
        clear hown0
        go_wp2
        go_quiet (fail)
        have hown' : (wr.drewN nq).ownsRow w.heap.size 33 2 u3 0 [] := hown
        have hbel' : Below w.heap.size w (wr.drewN nq) := below_draws hbel nq
        have hck' : (wr.drewN nq).cell? ⟨b0, off, none⟩ = some (.int .i64 x) := hck
        have hb0' : b0 < (wr.drewN nq).heap.size := hb0
        clear hown hbel hck hb0 hsz
        generalize wr.drewN nq = wq at *
        have hown := hown'
        have hbel := hbel'
        have hck := hck'
        have hb0 := hb0'
        have hsz := hbel.size
        clear hown' hbel' hck' hb0'
        go_wp2_with (at_builtin; refine wpList_append_own _ rfl (.tmp 35) (.tmp 41) 24 rfl w.heap.size 33 i0 (.agg #[.int .i64 0, .int .i64 0]) 2 16 Try.underlying24 hi hz0 hz1 hz2 rfl (by decide) _ _ _ rfl (hown.alloc _) ⟨wq.heap.size, 0, none⟩ 1 1 [.int .i64 x, .int .i64 1] rfl rfl (two_new _ _ _ _) (two_one _ _) (by unfold maxLen; omega) (by omega) (by simp; omega) ?_)
        intro v' w2 hown2 hgrow _
        have hbel2 : Below w.heap.size w w2 := (hbel.alloc hsz _).grown hgrow (by simp; omega) (fun k hk => (hown.lt k hk).1)
        have HO := hid hown2
        clear hown2 hgrow hown hbel hck
        go_wp2
        go_roundw
        case rel =>
          refine ⟨1, rfl, by omega, ?_, hbel2⟩
          rw [HN.out]
          exact HO.out
        case measure => simp [intOf]; omega
      | succ k =>
        have hcp := hc k (by omega)
        obtain ⟨pre, m, hroll, hm1, hm2, hm3⟩ := roll_last k (vs.take (k + 1)) (by rw [List.length_take]; omega)
        have ep : (vs.take (k + 1)).getD k 0 = vs.getD k 0 := by simp [List.getD]
        rw [ep] at hroll
        have hnext : rollL (vs.take (k + 1 + 1)) = rollStep (pre ++ [(vs.getD k 0, m)]) (vs.getD (k + 1) 0) := by rw [hts, rollL_snoc, hroll]
        rw [hroll, List.length_append] at hown
        have HN := hid hnext
        clear hnext hroll ep hts hc hr
        obtain ⟨x, hx⟩ : ∃ x, x = vs.getD (k + 1) 0 := ⟨_, rfl⟩
        obtain ⟨y, hy⟩ : ∃ y, y = vs.getD k 0 := ⟨_, rfl⟩
        rw [← hx] at hck HN
        rw [← hy] at hcp HN hown
        clear hx hy
        obtain ⟨n, hn⟩ : ∃ n, n = pre.length := ⟨_, rfl⟩
        have hown0 : wr.ownsRow w.heap.size 33 2 u3 (n + 1) (flat (pre ++ [(y, m)])) := by rw [hn]; exact hown
        have hn3 : n ≤ k := by omega
        have HNL := hid hn
        clear hown hn hm3
        have hown := hown0
        clear hown0
        have hpos : (0 : Int) < (k : Int) + 1 := by omega
        by_cases hxy : x = y
        · have hxb : (x == y) = true := by simpa using hxy
          have HN2 : Hid (rollL (vs.take (k + 1 + 1)) = pre ++ [(x, m + 1)]) := by show _ = _; rw [HN.out, ← hxy, rollStep_same]
          have HXY := hid hxy
          clear hxy HN
          go_wp2
          go_quiet (fail)
          have hown' : (wr.drewN nq).ownsRow w.heap.size 33 2 u3 (n + 1) (flat (pre ++ [(y, m)])) := hown
          have hbel' : Below w.heap.size w (wr.drewN nq) := below_draws hbel nq
          have hck' : (wr.drewN nq).cell? ⟨b0, off + (k + 1), none⟩ = some (.int .i64 x) := hck
          have hb0' : b0 < (wr.drewN nq).heap.size := hb0
          clear hown hbel hck hb0 hsz
          generalize wr.drewN nq = wq at *
          have hown := hown'
          have hbel := hbel'
          have hck := hck'
          have hb0 := hb0'
          have hsz := hbel.size
          clear hown' hbel' hck' hb0'
          clear hcp hck hxb
          obtain ⟨g, gcap, rfl, hg1, hg2, _⟩ := owns_some hown (by omega)
          have hcell := hown.cellAt (n * 2 + 1) (by omega)
          have hfz := hown.frozenAt (n * 2 + 1)
          have hst := hown.stored (n * 2 + 1) (.int .i64 (m + 1))
          have hfl : (flat (pre ++ [(y, m)]))[n * 2 + 1]? = some (.int .i64 m) := flat_last pre y m n HNL.out
          rw [hfl] at hcell
          have hset : (flat (pre ++ [(y, m)])).set (n * 2 + 1) (.int .i64 (m + 1)) = flat (pre ++ [(y, m + 1)]) := flat_set pre y m n HNL.out
          rw [hset] at hst
          have HST := hid hst
          clear hset hfl hst hown
          go_wp2
          go_roundw
          case rel =>
            refine ⟨k + 1 + 1, by go_num, by omega, ?_, hbel.setCell (by exact hg1) _⟩
            rw [HN2.out, HXY.out, List.length_append, ← HNL.out]
            exact HST.out.1
          case measure => simp [intOf]; omega
        · have hxb : (x == y) = false := by simpa using hxy
          have HN2 : Hid (rollL (vs.take (k + 1 + 1)) = pre ++ [(y, m)] ++ [(x, 1)]) := by show _ = _; rw [HN.out, rollStep_other _ _ _ _ (fun e => hxy e.symm)]
          clear hxy HN
          go_wp2
          go_quiet (fail)
          have hown' : (wr.drewN nq).ownsRow w.heap.size 33 2 u3 (n + 1) (flat (pre ++ [(y, m)])) := hown
          have hbel' : Below w.heap.size w (wr.drewN nq) := below_draws hbel nq
          have hck' : (wr.drewN nq).cell? ⟨b0, off + (k + 1), none⟩ = some (.int .i64 x) := hck
          have hb0' : b0 < (wr.drewN nq).heap.size := hb0
          clear hown hbel hck hb0 hsz
          generalize wr.drewN nq = wq at *
          have hown := hown'
          have hbel := hbel'
          have hck := hck'
          have hb0 := hb0'
          have hsz := hbel.size
          clear hown' hbel' hck' hb0'
          clear hcp hxb
          go_wp2_with (at_builtin; refine wpList_append_own _ rfl (.tmp 35) (.tmp 41) 24 rfl w.heap.size 33 i0 (.agg #[.int .i64 0, .int .i64 0]) 2 16 Try.underlying24 hi hz0 hz1 hz2 rfl (by decide) _ _ _ rfl (hown.alloc _) ⟨wq.heap.size, 0, none⟩ 1 1 [.int .i64 x, .int .i64 1] rfl rfl (two_new _ _ _ _) (two_one _ _) (by unfold maxLen; omega) (by omega) (by simp; omega) ?_)
          intro v' w2 hown2 hgrow _
          have hbel2 : Below w.heap.size w w2 := (hbel.alloc hsz _).grown hgrow (by simp; omega) (fun k hk => (hown.lt k hk).1)
          have HO := hid hown2
          clear hown2 hgrow hown hbel hck
          go_wp2
          go_roundw
          case rel =>
            refine ⟨k + 1 + 1, by go_num, by omega, ?_, hbel2⟩
            rw [HN2.out, flat_snoc, List.length_append, List.length_append, ← HNL.out]
            exact HO.out
          case measure => simp [intOf]; omega
    · have hk' : k = len := by omega
      subst hk'
      have HN : Hid (vs.take k = vs) := by show _ = _; exact List.take_of_length_le (by rw [HL.out]; omega)
      go_wp2
      go_ret
      refine ⟨_, rfl, ?_, hbel⟩
      have := hown
      rw [HN.out] at this
      exact this
end Go.Proofs.Ytooinlilplecpaa
