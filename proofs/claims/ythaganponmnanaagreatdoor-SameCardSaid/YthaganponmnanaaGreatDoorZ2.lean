/- Contracts of the developers' word.mayStand, word.Is: the plain functions isLet and wordB; nothing that was there is written. The contract of table.Bytes: it gives what the plain function of this text gives, in a row of the call's own; nothing that was there is written. -/
import Derived.Test.YthaganponmnanaaGreatDoorZ1
namespace Go.Proofs.YthaganponmnanaaGreatDoor
open Go.RowKit

theorem isLet_byte : ∀ n : Nat, n < 256 → isLet (n : Int) = (decide (97 ≤ n ∧ n ≤ 122) || (decide (48 ≤ n ∧ n ≤ 57) || (n == 46 || n == 47))) := by decide +kernel

set_option maxHeartbeats 1000000 in
set_option maxRecDepth 100000 in
theorem mayStand_any (n : Nat) (hn : n < 256) (w : World) :
    Calls Tryz.prog 90 #[.int .u8 (n : Int)] w fun r w' => r = .returned (.bool (isLet n)) ∧ w' = w := by
  have H := hid (isLet_byte n hn)
  obtain ⟨c, hc⟩ : ∃ c : Int, c = (n : Int) := ⟨_, rfl⟩
  by_cases h1 : 97 ≤ n
  · have g1 : (97 : Int) ≤ c := by omega
    by_cases h2 : n ≤ 122
    · have g2 : c ≤ 122 := by omega
      have HF : Hid (isLet c = true) := by show _ = _; rw [hc, H.out]; simp [h1, h2]
      rw [← hc]
      clear hc H
      go_enter Tryz.func90, Tryz.ntmps90
      go_wp2
      go_ret
      exact ⟨ret_bool HF.out.symm, rfl⟩
    · have g2 : decide (c ≤ 122) = false := by simp; omega
      have g3 : (48 : Int) ≤ c := by omega
      have g4 : decide (c ≤ 57) = false := by simp; omega
      have g5 : (c == 46) = false := by simp; omega
      have g6 : (c == 47) = false := by simp; omega
      have HF : Hid (isLet c = false) := by show _ = _; rw [hc, H.out]; simp; omega
      rw [← hc]
      clear hc H
      go_enter Tryz.func90, Tryz.ntmps90
      go_wp2
      go_ret
      exact ⟨ret_bool HF.out.symm, rfl⟩
  · have g1 : decide ((97 : Int) ≤ c) = false := by simp; omega
    by_cases h3 : 48 ≤ n
    · have g3 : (48 : Int) ≤ c := by omega
      have g5 : (c == 46) = false := by simp; omega
      have g6 : (c == 47) = false := by simp; omega
      by_cases h4 : n ≤ 57
      · have g4 : c ≤ 57 := by omega
        have HF : Hid (isLet c = true) := by show _ = _; rw [hc, H.out]; simp [h3, h4]
        rw [← hc]
        clear hc H
        go_enter Tryz.func90, Tryz.ntmps90
        go_wp2
        go_ret
        exact ⟨ret_bool HF.out.symm, rfl⟩
      · have g4 : decide (c ≤ 57) = false := by simp; omega
        have HF : Hid (isLet c = false) := by show _ = _; rw [hc, H.out]; simp; omega
        rw [← hc]
        clear hc H
        go_enter Tryz.func90, Tryz.ntmps90
        go_wp2
        go_ret
        exact ⟨ret_bool HF.out.symm, rfl⟩
    · have g3 : decide ((48 : Int) ≤ c) = false := by simp; omega
      by_cases h5 : n = 46
      · have g5 : (c == 46) = true := by simp; omega
        have HF : Hid (isLet c = true) := by show _ = _; rw [hc, H.out]; simp [h5]
        rw [← hc]
        clear hc H
        go_enter Tryz.func90, Tryz.ntmps90
        go_wp2
        go_ret
        exact ⟨ret_bool HF.out.symm, rfl⟩
      · have g5 : (c == 46) = false := by simp; omega
        have HF : Hid (isLet c = (c == 47)) := by
          show _ = _
          rw [hc, H.out]
          by_cases h : n = 47
          · subst h; decide
          · have : ((n : Int) == 47) = false := by simp; omega
            rw [this]; simp; omega
        rw [← hc]
        clear hc H
        go_enter Tryz.func90, Tryz.ntmps90
        go_wp2
        go_ret
        exact ⟨ret_bool HF.out.symm, rfl⟩

set_option maxHeartbeats 1000000 in
set_option maxRecDepth 100000 in
theorem isWord_any (s : ByteArray) (w : World) (hs : s.size ≤ maxLen) :
    Calls Tryz.prog 75 #[.string s] w fun e w' => e = .returned (.bool (wordB s)) ∧ Below w.heap.size w w' := by
  unfold maxLen at hs
  by_cases h1 : s.size < 1
  · have g1 : (s.size : Int) < 1 := by omega
    have HF : Hid (wordB s = false) := by show _ = _; unfold wordB; rw [decide_eq_false (by omega)]; rfl
    go_enter Tryz.func75, Tryz.ntmps75
    go_wp2
    go_ret
    exact ⟨ret_bool HF.out.symm, Below.refl _ _⟩
  · have g1 : decide ((s.size : Int) < 1) = false := by simp; omega
    by_cases h2 : 20 < s.size
    · have g2 : (20 : Int) < (s.size : Int) := by omega
      have HF : Hid (wordB s = false) := by show _ = _; unfold wordB; rw [decide_eq_false (by omega)]; rfl
      go_enter Tryz.func75, Tryz.ntmps75
      go_wp2
      go_ret
      exact ⟨ret_bool HF.out.symm, Below.refl _ _⟩
    · have g2 : decide ((20 : Int) < (s.size : Int)) = false := by simp; omega
      have HW : Hid (wordB s = (byteL s).all isLet) := by show _ = _; unfold wordB; rw [decide_eq_true (by omega)]; rfl
      go_enter Tryz.func75, Tryz.ntmps75
      go_wp2
      go_loopw [3] (fun i wr => ∃ k : Nat, i = .int .i64 k ∧ k ≤ s.size ∧ ((byteL s).take k).all isLet = true ∧ Below w.heap.size w wr) (fun i _ => s.size - (intOf i).toNat)
      case atStart => exact ⟨0, rfl, by omega, rfl, Below.refl _ _⟩
      case round =>
        obtain ⟨k, rfl, hk, hall, hbel⟩ := hrel
        have HA := hid hall
        clear hall
        by_cases hlt : k < s.size
        · have hlt' : (k : Int) < (s.size : Int) := by omega
          have hstep : ((byteL s).take (k + 1)).all isLet = isLet (s[k].toNat : Int) := by
            rw [byteL_take s k hlt, List.all_append, HA.out]; simp
          have HM := hid (fun W => mayStand_any s[k].toNat s[k].toNat_lt W)
          obtain ⟨t, ht⟩ : ∃ t, t = isLet (s[k].toNat : Int) := ⟨_, rfl⟩
          rw [← ht] at hstep HM
          have HS := hid hstep
          clear ht hstep
          cases t with
          | true =>
            go_wp2_with fail
            refine (HM.out _).mono ?_
            rintro e w' ⟨rfl, rfl⟩
            go_wp2
            go_roundw
            case rel => exact ⟨k + 1, by go_num, by omega, HS.out, hbel⟩
            case measure => simp [intOf]; omega
          | false =>
            have HF : Hid (wordB s = false) := by
              show _ = _
              rw [HW.out]
              have h1 : byteL s = (byteL s).take (k + 1) ++ (byteL s).drop (k + 1) := (List.take_append_drop _ _).symm
              rw [h1, List.all_append, HS.out]; rfl
            go_wp2_with fail
            refine (HM.out _).mono ?_
            rintro e w' ⟨rfl, rfl⟩
            go_wp2
            go_ret
            exact ⟨ret_bool HF.out.symm, hbel⟩
        · have hks : k = s.size := by omega
          have HF : Hid (wordB s = true) := by show _ = _; have := HA.out; rw [hks, List.take_of_length_le (by rw [byteL_len]; omega)] at this; rw [HW.out]; exact this
          have hge : decide ((k : Int) < (s.size : Int)) = false := by simp; omega
          clear hks
          go_wp2
          go_ret
          exact ⟨ret_bool HF.out.symm, hbel⟩

end Go.Proofs.YthaganponmnanaaGreatDoor
namespace Go.Proofs.YthaganponmnanaaGreatDoor
open Go.RowKit

theorem wfS_len : ∀ (l : List (Int × Int)) (b r : Int), wfS l b r = true → 0 ≤ r → (l.length : Int) ≤ r
  | [], _, _, _, h => by simpa using h
  | p :: t, b, r, h, hr => by
    unfold wfS at h
    by_cases h1 : isV p.1 = false ∨ p.1 = b
    · rw [if_pos h1] at h; cases h
    · rw [if_neg h1] at h
      by_cases h2 : p.2 < 1 ∨ r < p.2
      · rw [if_pos h2] at h; cases h
      · rw [if_neg h2] at h
        have := wfS_len t _ _ h (by omega)
        simp; omega
theorem wfS_at : ∀ (l : List (Int × Int)) (b r : Int) (k : Nat), wfS l b r = true → r ≤ 1000 → k < l.length →
    0 ≤ (l.getD k (0, 0)).1 ∧ (l.getD k (0, 0)).1 ≤ 9999 ∧ 1 ≤ (l.getD k (0, 0)).2 ∧ (l.getD k (0, 0)).2 ≤ 1000
  | [], _, _, _, _, _, h => by simp at h
  | p :: t, b, r, k, h, hr, hk => by
    unfold wfS at h
    by_cases h1 : isV p.1 = false ∨ p.1 = b
    · rw [if_pos h1] at h; cases h
    · rw [if_neg h1] at h
      by_cases h2 : p.2 < 1 ∨ r < p.2
      · rw [if_pos h2] at h; cases h
      · rw [if_neg h2] at h
        cases k with
        | zero =>
          have hv : isV p.1 = true := by simpa using fun e => h1 (.inl e)
          unfold isV at hv
          have hv := of_decide_eq_true hv
          simp only [List.getD_cons_zero]
          omega
        | succ k =>
          have := wfS_at t _ _ k h (by omega) (by simpa using hk)
          simpa using this

def atS : List (Int × Int) → Int → Int × Int
  | [], _ => (0, 1)
  | p :: r, pc => if pc < p.2 then (p.1, 0) else atS r (pc - p.2)
def atT (l : List (Int × Int)) (pc : Int) : Int × Int := if wfT l = false then (0, 4) else if pc < 0 then (0, 1) else atS l pc

theorem drop_getD {α : Type} (l : List α) (k : Nat) (d : α) (h : k < l.length) : l.drop k = l.getD k d :: l.drop (k + 1) := by
  rw [List.drop_eq_getElem_cons h]; simp [List.getD, h]

theorem owns_some {w : World} {base : Nat} {e : TypeId} {size : Nat} {v : Value} {n : Nat} {xs : List Value} (h : w.ownsRow base e size v n xs) (hn : 0 < n) :
    ∃ g cap, v = .slice (some ⟨g, 0, none⟩) n cap ∧ base ≤ g ∧ g < w.heap.size ∧ ∀ j u, xs[j]? = some u → w.cell? ((⟨g, 0, none⟩ : Addr).add j) = some u := by
  have hc := fun g hg => h.cells (g := g) hg
  rcases h.2 with ⟨_, h0⟩ | ⟨g, cap, cur, rfl, hg, hh, _⟩
  · omega
  · exact ⟨g, cap, rfl, hg, (Array.getElem?_eq_some_iff.1 hh).1, hc g rfl⟩

def putS : List (Int × Int) → Int → List Int
  | [], _ => [0]
  | p :: r, before => numB (zig (p.1 - before)) ++ (numB p.2 ++ putS r p.1)
def putT (l : List (Int × Int)) : List Int × Int := if wfT l = false then ([], 4) else (putS l (-1), 0)
theorem zig_bd (d : Int) (h1 : -10000 ≤ d) (h2 : d ≤ 10000) : 0 ≤ zig d ∧ zig d ≤ 20000 := by
  unfold zig; by_cases h : 0 ≤ d
  · rw [if_pos h]; omega
  · rw [if_neg h]; omega

/-- The relation of table.Bytes' loop. -/
def RelP (w : World) (l : List (Int × Int)) (b before i : Value) (wr : World) : Prop :=
  ∃ (k : Nat) (pre : List Int) (c : Int), before = .int .i64 c ∧ i = .int .i64 k ∧ k ≤ l.length ∧ -1 ≤ c ∧ c ≤ 9999 ∧ putS l (-1) = pre ++ putS (l.drop k) c ∧ pre.length ≤ 10 * k ∧
    wr.ownsRow w.heap.size 5 1 b pre.length (u8s pre) ∧ Below w.heap.size w wr

/-- A row of the call's own is not a block of another element type. -/
theorem owns_other {w : World} {base : Nat} {e e' : TypeId} {size : Nat} {v : Value} {n : Nat} {xs : List Value} (h : w.ownsRow base e size v n xs) {g : Nat} {cs : Array Value} {fz : Nat × Nat} (hg : w.heap[g]? = some (.cells cs e' fz)) (hne : e ≠ e') : some g ≠ v.ownBlock := by
  rcases h.2 with ⟨rfl, _⟩ | ⟨g', cap, cur, rfl, _, hh, _⟩
  · simp [Value.ownBlock]
  · intro hb
    simp [Value.ownBlock] at hb
    subst hb
    rw [hg] at hh
    injection hh with hh
    injection hh with _ hh _
    exact hne hh.symm

theorem box_cells {w : World} {g : Nat} {x y : Value} {e : TypeId} (h : w.heap[g]? = some (.cells #[x, y] e (0, 0))) : w.cell? ⟨g, 0, none⟩ = some x ∧ w.cell? ⟨g, 1, none⟩ = some y := by
  constructor <;> simp [World.cell?, h]

theorem u8s_one (l : List Int) : ∀ u ∈ u8s l, u.oneCell' = true := by
  intro u hu
  obtain ⟨x, _, rfl⟩ := List.mem_map.1 hu
  rfl

theorem owns_low7 {w : World} {base base' : Nat} {e : TypeId} {size : Nat} {v : Value} {n : Nat} {xs : List Value} (h : w.ownsRow base e size v n xs) (hb : base' ≤ base) : w.ownsRow base' e size v n xs := by
  refine ⟨h.1, ?_⟩
  rcases h.2 with hn | ⟨g, cap, cur, hv, hg, r⟩
  · exact .inl hn
  · exact .inr ⟨g, cap, cur, hv, Nat.le_trans hb hg, r⟩

set_option maxHeartbeats 2000000 in
set_option maxRecDepth 100000 in
theorem tbytes_any (a : Option Addr) (len cap : Nat) (l : List (Int × Int)) (w : World) (hr : RdS w a len cap l) (hwt : wfT l = true) :
    Calls Tryz.prog 80 #[.slice a len cap] w fun e w' => ∃ v, e = .returned v ∧
      w'.ownsRow w.heap.size 5 1 v (putS l (-1)).length (u8s (putS l (-1))) ∧ Below w.heap.size w w' := by
  have HL := hid hr.hlen
  have hmax := hr.hmax
  have hcap := hr.hcap
  unfold maxLen at hmax
  obtain ⟨i0, hi, hz0, hz1, hz2⟩ := info_parts Tryz.infoByte
  have hws : wfS l (-1) 1000 = true := by unfold wfT at hwt; rw [Bool.and_eq_true] at hwt; exact hwt.1
  have hln := wfS_len l (-1) 1000 hws (by omega)
  have HWS := hid hws
  clear hwt hws
  have hb : Below w.heap.size w w := Below.refl _ _
  go_enter Tryz.func80, Tryz.ntmps80
  go_wp2
  go_loopw [3, 4, 10] (fun b c i wr => RelP w l b c i wr) (fun _ _ i _ => len - (intOf i).toNat)
  case atStart => exact ⟨0, [], -1, rfl, rfl, by omega, by omega, by omega, rfl, by simp, World.ownsRow_nil _ _ _ _, hb⟩
  case round =>
    clear hb
    obtain ⟨k, pre, c, rfl, rfl, hk, hc0, hc1, hP, hpl, hown, hbel⟩ := hrel
    rw [HL.out] at hk hln
    have hsz := hbel.size
    by_cases hlt : k < len
    · obtain ⟨b0, off, rfl, hc⟩ := (hr.below hbel (Nat.le_refl _)).open (by omega)
      obtain ⟨hcv, hcn⟩ := hc k hlt
      have hlt' : k < l.length := by rw [HL.out]; exact hlt
      have hb0 := World.block_lt_of_cell? wr _ hcv
      have hat := wfS_at l (-1) 1000 k HWS.out (by omega) hlt'
      have e : putS (l.drop k) c = numB (zig ((l.getD k (0, 0)).1 - c)) ++ (numB (l.getD k (0, 0)).2 ++ putS (l.drop (k + 1)) (l.getD k (0, 0)).1) := by
        rw [drop_getD l k (0, 0) hlt']; rfl
      obtain ⟨⟨v, n⟩, hp⟩ : ∃ p, l.getD k (0, 0) = p := ⟨_, rfl⟩
      rw [hp] at hcv hcn e hat
      simp only at hcv hcn e hb0 hat
      obtain ⟨d1, d2, d3, d4⟩ := hat
      have HP := hid (hP.trans (by rw [e]))
      clear e hP hr hc hp
      have hzb := zig_bd (v - c) (by omega) (by omega)
      go_wp2_with (go_at_call 95; refine (fromSigned_any _ _ (by omega) (by omega)).mono ?_; rintro e w' ⟨rfl, rfl⟩)
      obtain ⟨bw, hbw⟩ : ∃ bw, bw = wr.alloc (Obj.cells #[Value.int IntKind.i64 v, Value.int IntKind.i64 n] 150) := ⟨_, rfl⟩
      have hown1 : bw.ownsRow w.heap.size 5 1 u3 pre.length (u8s pre) := by rw [hbw]; exact hown.alloc _
      have hbel1 : Below w.heap.size w bw := by rw [hbw]; exact hbel.alloc hsz _
      have hbs : bw.heap.size = wr.heap.size + 1 := by rw [hbw]; simp
      have hx : bw.heap[wr.heap.size]? = some (.cells #[.int .i64 v, .int .i64 n] 150 (0, 0)) := by rw [hbw]; exact heap_alloc_new _ _
      rw [← hbw]
      clear hbw hown hbel hcv hcn
      refine (bytes_any _ _ (by omega) (by omega)).mono ?_
      rintro e w2 ⟨v2, rfl, ho2, hb2⟩
      have hl1 := numB_len (zig (v - c))
      obtain ⟨A, hA⟩ : ∃ A, A = numB (zig (v - c)) := ⟨_, rfl⟩
      rw [← hA] at ho2 hl1 HP
      clear hA
      obtain ⟨g2, cap2, rfl, hg2, hg2', hcs2⟩ := owns_some ho2 (by omega)
      have hown2 := owns_below hown1 hb2
      have hbel2 := hbel1.trans (hb2.mono hbel1.size)
      have hy := (hb2.block wr.heap.size (by omega)).trans hx
      have hs2 := hb2.size
      clear hown1 hbel1 hx hb2 ho2 hzb
      have HY := hid hy
      clear hy
      go_wp2_with (at_builtin; refine wpList_append_own _ rfl (.tmp 19) (.tmp 21) 28 rfl w.heap.size 5 i0 (.int .u8 0) 1 1 Tryz.underlying28 hi hz0 hz1 hz2 rfl (by decide) _ _ _ rfl hown2 ⟨g2, 0, none⟩ A.length cap2 (u8s A) rfl (by rw [u8s_len, Nat.mul_one]) hcs2 (u8s_one A) (by unfold maxLen; omega) (by omega) (by omega) ?_)
      intro v3 w3 hown3 hgrow3 _
      have hbel3 : Below w.heap.size w w3 := hbel2.grown hgrow3 (by omega) (fun k hk => (hown2.lt k hk).1)
      have hz := (hgrow3.block wr.heap.size (by omega) (owns_other hown2 HY.out (by decide))).trans HY.out
      obtain ⟨hz0', hz1'⟩ := box_cells hz
      have hs3 := hgrow3.size
      clear hown2 hbel2 HY hgrow3 hcs2
      have HZ := hid hz
      clear hz
      go_wp2_with fail
      clear hz0' hz1'
      refine (bytes_any _ _ (by omega) (by omega)).mono ?_
      rintro e w4 ⟨v4, rfl, ho4, hb4⟩
      have hl4 := numB_len n
      obtain ⟨B, hB⟩ : ∃ B, B = numB n := ⟨_, rfl⟩
      rw [← hB] at ho4 hl4 HP
      clear hB
      obtain ⟨g4, cap4, rfl, hg4, hg4', hcs4⟩ := owns_some ho4 (by omega)
      have hown4 := owns_below hown3 hb4
      have hbel4 := hbel3.trans (hb4.mono hbel3.size)
      have hy := (hb4.block wr.heap.size (by omega)).trans HZ.out
      have hs4 := hb4.size
      clear hown3 hbel3 HZ hb4 ho4
      have HY := hid hy
      clear hy
      go_wp2_with (at_builtin; refine wpList_append_own _ rfl (.tmp 23) (.tmp 26) 28 rfl w.heap.size 5 i0 (.int .u8 0) 1 1 Tryz.underlying28 hi hz0 hz1 hz2 rfl (by decide) _ _ _ rfl hown4 ⟨g4, 0, none⟩ B.length cap4 (u8s B) rfl (by rw [u8s_len, Nat.mul_one]) hcs4 (u8s_one B) (by unfold maxLen; omega) (by omega) (by omega) ?_)
      intro v5 w5 hown5 hgrow5 _
      have hbel5 : Below w.heap.size w w5 := hbel4.grown hgrow5 (by omega) (fun k hk => (hown4.lt k hk).1)
      have hz := (hgrow5.block wr.heap.size (by omega) (owns_other hown4 HY.out (by decide))).trans HY.out
      obtain ⟨hz0', hz1'⟩ := box_cells hz
      clear hown4 hbel4 HY hgrow5 hcs4 hz hz1'
      have HO := hid hown5
      clear hown5
      go_wp2
      go_roundw
      case rel =>
        refine ⟨k + 1, pre ++ (A ++ B), v, rfl, by go_num, by omega, by omega, by omega, by rw [HP.out]; simp, by simp; omega, ?_, hbel5⟩
        rw [u8s_append, u8s_append, List.length_append, List.length_append, ← Nat.add_assoc]
        exact HO.out
      case measure => simp [intOf]; omega
    · have HP : Hid (putS l (-1) = pre ++ [0]) := by show _ = _; rw [hP, List.drop_of_length_le (by rw [HL.out]; omega)]; rfl
      clear hP
      go_wp2_with (at_builtin; refine wpList_append_own _ rfl (.tmp 31) (.tmp 32) 28 rfl w.heap.size 5 i0 (.int .u8 0) 1 1 Tryz.underlying28 hi hz0 hz1 hz2 rfl (by decide) _ _ _ rfl (hown.alloc _) ⟨wr.heap.size, 0, none⟩ 1 1 [.int .u8 0] rfl rfl (cell_one_new _ _ _) (fun u hu => by rw [List.mem_singleton.1 hu]; rfl) (by unfold maxLen; omega) (by omega) (by simp; omega) ?_)
      intro v5 w5 hown5 hgrow5 _
      have hbel5 : Below w.heap.size w w5 := (hbel.alloc hsz _).grown hgrow5 (by simp; omega) (fun k hk => (hown.lt k hk).1)
      have HO := hid hown5
      clear hown5 hgrow5 hown hbel
      go_wp2
      go_ret
      rw [HP.out]
      refine ⟨_, rfl, ?_, hbel5⟩
      rw [u8s_snoc, List.length_append]
      exact HO.out

end Go.Proofs.YthaganponmnanaaGreatDoor
