/- The contract of table.Get: for whatever bytes and place it gives the spans, the place and the error that the plain function getT of this text gives; the spans lie in a row of the call's own; nothing that was there is written. Contracts of number.Bytes, table.WellFormed and table.At: they give what the plain functions of this text give; nothing that was there is written. -/
import Derived.Test.YtffnfjkjlmlonaaGreatDoorZ0
namespace Go.Proofs.YtffnfjkjlmlonaaGreatDoor
open Go.RowKit

def flat (l : List (Int × Int)) : List Value := l.flatMap fun p => [.int .i64 p.1, .int .i64 p.2]
theorem flat_snoc (l : List (Int × Int)) (p : Int × Int) : flat (l ++ [p]) = flat l ++ [.int .i64 p.1, .int .i64 p.2] := by simp [flat]
theorem flat_len (l : List (Int × Int)) : (flat l).length = l.length * 2 := by
  induction l with
  | nil => rfl
  | cons p r ih => simp only [flat, List.flatMap_cons, List.length_append, List.length_cons, List.length_nil] at ih ⊢; omega

def getTF (bs : List Int) : Nat → List (Int × Int) → Int → Int → Int → List (Int × Int) × Int × Int
  | 0, _, _, _, _ => ([], 0, 4)
  | f + 1, acc, at_, before, room =>
    if acc ≠ [] ∧ endB bs at_ = true then (acc, at_ + 1, 0) else
    if (getSp bs at_ before room).2.2.2 ≠ 0 then ([], 0, (getSp bs at_ before room).2.2.2) else
    getTF bs f (acc ++ [((getSp bs at_ before room).1, (getSp bs at_ before room).2.1)]) (getSp bs at_ before room).2.2.1 (getSp bs at_ before room).1 (room - (getSp bs at_ before room).2.1)

theorem getTF_succ (bs : List Int) (f : Nat) (acc : List (Int × Int)) (at_ before room : Int) : getTF bs (f + 1) acc at_ before room =
    if acc ≠ [] ∧ endB bs at_ = true then (acc, at_ + 1, 0) else
    if (getSp bs at_ before room).2.2.2 ≠ 0 then ([], 0, (getSp bs at_ before room).2.2.2) else
    getTF bs f (acc ++ [((getSp bs at_ before room).1, (getSp bs at_ before room).2.1)]) (getSp bs at_ before room).2.2.1 (getSp bs at_ before room).1 (room - (getSp bs at_ before room).2.1) := rfl

def getT (bs : List Int) (at_ : Int) : List (Int × Int) × Int × Int :=
  if at_ < 0 ∨ (bs.length : Int) < at_ then ([], 0, 1) else getTF bs 1001 [] at_ (-1) 1000

theorem getSp_bd (bs : List Int) (at_ before room : Int) (h : (getSp bs at_ before room).2.2.2 = 0) :
    0 ≤ (getSp bs at_ before room).1 ∧ (getSp bs at_ before room).1 ≤ 9999 ∧ 1 ≤ (getSp bs at_ before room).2.1 ∧ (getSp bs at_ before room).2.1 ≤ room ∧
    at_ + 2 ≤ (getSp bs at_ before room).2.2.1 ∧ (getSp bs at_ before room).2.2.1 ≤ bs.length := by
  unfold getSp at h ⊢
  simp only at h ⊢
  by_cases h1 : (getN bs at_).2.2 ≠ 0
  · rw [if_pos h1] at h; exact absurd h h1
  · rw [if_neg h1] at h ⊢
    by_cases h2 : (getN bs at_).1 = 0 ∨ isV (before + zag (getN bs at_).1) = false
    · rw [if_pos h2] at h; simp at h
    · rw [if_neg h2] at h ⊢
      by_cases h3 : (getN bs (getN bs at_).2.1).2.2 ≠ 0
      · rw [if_pos h3] at h; exact absurd h h3
      · rw [if_neg h3] at h ⊢
        by_cases h4 : (getN bs (getN bs at_).2.1).1 = 0 ∨ room < (getN bs (getN bs at_).2.1).1
        · rw [if_pos h4] at h; simp at h
        · rw [if_neg h4]
          have b1 := getN_bd bs at_ (by simpa using h1)
          have b2 := getN_bd bs (getN bs at_).2.1 (by simpa using h3)
          have hv : isV (before + zag (getN bs at_).1) = true := by simpa using fun e => h2 (.inr e)
          unfold isV at hv
          have hv := of_decide_eq_true hv
          refine ⟨hv.1, hv.2, by simp only; omega, by simp only; omega, by simp only; omega, b2.2.2.2.2⟩

theorem owns_form {w : World} {base : Nat} {e : TypeId} {size : Nat} {v : Value} {n : Nat} {xs : List Value} (h : w.ownsRow base e size v n xs) : ∃ a cap, v = .slice a n cap ∧ n ≤ cap ∧ cap ≤ maxLen := by
  rcases h.2 with ⟨rfl, rfl⟩ | ⟨g, cap, cur, rfl, _, _, h1, h2, _⟩
  · exact ⟨none, 0, rfl, Nat.le_refl _, by unfold maxLen; omega⟩
  · exact ⟨_, cap, rfl, h1, h2⟩

theorem owns_below {w w' : World} {base : Nat} {e : TypeId} {size : Nat} {v : Value} {n : Nat} {xs : List Value} (h : w.ownsRow base e size v n xs) (hb : Below w.heap.size w w') : w'.ownsRow base e size v n xs := by
  refine ⟨h.1, ?_⟩
  rcases h.2 with hn | ⟨g, cap, cur, rfl, hg, hh, r⟩
  · exact .inl hn
  · exact .inr ⟨g, cap, cur, rfl, hg, (hb.block g (Array.getElem?_eq_some_iff.1 hh).1).trans hh, r⟩

theorem Tryz.infoSpan : (Tryz.prog.info? 109).map (fun i => (i.zero, i.size, i.bytes)) = some (some (.agg #[.int .i64 0, .int .i64 0]), 2, 16) := by kernel_rfl

/-- The relation of table.Get's loop. -/
def RelT (w : World) (bs : List Int) (at0 : Int) (at_ l before room : Value) (wr : World) : Prop :=
  ∃ (acc : List (Int × Int)) (f : Nat) (p b r : Int), at_ = .int .i64 p ∧ before = .int .i64 b ∧ room = .int .i64 r ∧
    getT bs at0 = getTF bs f acc p b r ∧ r.toNat < f ∧ 0 ≤ r ∧ (acc.length : Int) + r ≤ 1000 ∧ -1 ≤ b ∧ b ≤ 9999 ∧ 0 ≤ p ∧ p ≤ bs.length ∧
    wr.ownsRow w.heap.size 109 2 l acc.length (flat acc) ∧ Below w.heap.size w wr

theorem ret_table {v : Value} {p : List (Int × Int) × Int × Int} {a b : Int} (h : p.2 = (a, b)) :
    Ending.returned (.tuple #[v, .int .i64 a, .int .i64 b]) = .returned (.tuple #[v, .int .i64 p.2.1, .int .i64 p.2.2]) := by rw [h]

set_option maxHeartbeats 1000000 in
set_option maxRecDepth 100000 in
theorem tget_any (a : Option Addr) (len cap : Nat) (bs : List Int) (at0 : Int) (w : World) (hr : Rd .u8 w a len cap bs) (hx : ∀ j, 0 ≤ bs.getD j 0 ∧ bs.getD j 0 ≤ 255) :
    Calls Tryz.prog 84 #[.slice a len cap, .int .i64 at0] w fun e w' =>
      ∃ v, e = .returned (.tuple #[v, .int .i64 (getT bs at0).2.1, .int .i64 (getT bs at0).2.2]) ∧
        w'.ownsRow w.heap.size 109 2 v (getT bs at0).1.length (flat (getT bs at0).1) ∧ Below w.heap.size w w' := by
  have HL := hid hr.hlen
  have hmax := hr.hmax
  have hcap := hr.hcap
  unfold maxLen at hmax
  by_cases h0 : at0 < 0
  · have HF : Hid (getT bs at0 = ([], 0, 1)) := by show _ = _; unfold getT; rw [if_pos (.inl h0)]
    go_enter Tryz.func84, Tryz.ntmps84
    go_wp2
    go_ret3
    rw [HF.out]
    exact ⟨_, rfl, World.ownsRow_nil _ _ _ _, Below.refl _ _⟩
  · have h0' : decide (at0 < 0) = false := by simpa using h0
    by_cases h1 : (len : Int) < at0
    · have HF : Hid (getT bs at0 = ([], 0, 1)) := by show _ = _; unfold getT; rw [if_pos (.inr (by rw [HL.out]; exact h1))]
      go_enter Tryz.func84, Tryz.ntmps84
      go_wp2
      go_ret3
      rw [HF.out]
      exact ⟨_, rfl, World.ownsRow_nil _ _ _ _, Below.refl _ _⟩
    · have h1' : decide ((len : Int) < at0) = false := by simpa using h1
      have HS : Hid (getT bs at0 = getTF bs 1001 [] at0 (-1) 1000) := by
        show _ = _; unfold getT; rw [if_neg (by rw [HL.out]; omega)]
      go_enter Tryz.func84, Tryz.ntmps84
      go_wp2
      go_loopw [1, 7, 8, 9] (fun p l b r wr => RelT w bs at0 p l b r wr) (fun _ _ _ r _ => (intOf r).toNat)
      case atStart => exact ⟨[], 1001, at0, -1, 1000, rfl, rfl, rfl, HS.out, by omega, by omega, by simp, by omega, by omega, by omega, by rw [HL.out]; omega, World.ownsRow_nil _ _ _ _, Below.refl _ _⟩
      case round =>
        clear HS h0 h0' h1 h1'
        obtain ⟨acc, f, p, b, r, rfl, rfl, rfl, hT, hrf, hr0, hacc, hb1, hb2, hp1, hp2, hown, hbel⟩ := hrel
        have HT := hid hT
        clear hT
        obtain ⟨la, lcap, rfl, hl1, hl2⟩ := owns_form hown
        have hrd := hr.below hbel (Nat.le_refl _)
        have HEND := hid (endsAt_any a len cap bs p wr hrd)
        have HSP := hid (getSpan_any a len cap bs p b r wr hrd hx hb1 hb2)
        have hrdW := hid hrd
        clear hr hrd
        obtain ⟨f, rfl⟩ : ∃ f', f = f' + 1 := ⟨f - 1, by omega⟩
        by_cases hend : acc ≠ [] ∧ endB bs p = true
        · have HF : Hid (getT bs at0 = (acc, p + 1, 0)) := by show _ = _; rw [HT.out, getTF_succ, if_pos hend]
          have hn : (0 : Int) < (acc.length : Int) := by have := List.length_pos_iff.2 hend.1; omega
          have he := hend.2
          have hp3 : p < (len : Int) := by
            unfold endB at he
            rw [Bool.and_eq_true] at he
            have := of_decide_eq_true he.1
            rw [HL.out] at this
            exact this.2
          rw [he] at HEND
          clear hend he HSP HT
          go_wp2_with (go_at_call 134; refine HEND.out.mono ?_; rintro e w' ⟨rfl, rfl⟩)
          go_ret3
          rw [HF.out]
          exact ⟨_, rfl, hown, hbel⟩
        · obtain ⟨⟨sv, sn, st, se⟩, hs⟩ : ∃ q, getSp bs p b r = q := ⟨_, rfl⟩
          rw [hs] at HSP
          have e1 : getT bs at0 = if se ≠ 0 then ([], 0, se) else getTF bs f (acc ++ [(sv, sn)]) st sv (r - sn) := by
            rw [HT.out, getTF_succ, if_neg hend, hs]
          by_cases hse : se = 0
          · have hbd := getSp_bd bs p b r (by rw [hs]; exact hse)
            rw [hs] at hbd
            simp only at hbd
            obtain ⟨d1, d2, d3, d4, d5, d6⟩ := hbd
            subst hse
            have HF : Hid (getT bs at0 = getTF bs f (acc ++ [(sv, sn)]) st sv (r - sn)) := by show _ = _; rw [e1]; simp
            clear e1 hs HT
            obtain ⟨i0, hi, hz0, hz1, hz2⟩ := info_parts Tryz.infoSpan
            have hp1' : -1 ≤ b := hb1
            clear hb1
            by_cases hacc0 : acc = []
            · subst hacc0
              clear hend HEND
              go_wp2_with (first | (go_at_call 135; refine HSP.out.mono ?_; rintro e w1 ⟨rfl, hb1⟩) | (at_builtin; refine wpList_append_own _ rfl (.tmp 44) (.tmp 46) 37 rfl w.heap.size 109 i0 (.agg #[.int .i64 0, .int .i64 0]) 2 16 Tryz.underlying37 hi hz0 hz1 hz2 rfl (by decide) _ _ _ rfl (((owns_below hown hb1).alloc _).alloc _) ⟨w1.heap.size + 1, 0, none⟩ 1 1 [.int .i64 sv, .int .i64 sn] rfl rfl ?c1 ?c2 ?c3 ?c4 ?c5 ?_))
              case c1 =>
                intro j u hj
                match j, hj with
                | 0, hj => simp at hj; subst hj; simp [Addr.add]
                | 1, hj => simp at hj; subst hj; simp [Addr.add]
              case c2 => intro u hu; simp at hu; rcases hu with rfl | rfl <;> rfl
              case c3 => unfold maxLen; omega
              case c4 => omega
              case c5 => have h1 := hbel.size; have h2 := hb1.size; simp; omega
              intro v' w2 hown' hgrow _
              have h1 := hbel.size
              have h2 := hb1.size
              have hb2' : Below w.heap.size w w2 := ((((hbel.trans (hb1.mono h1)).alloc (by omega) _).alloc (by simp; omega) _).grown hgrow (by simp; omega) (fun k hk => (hown.lt k hk).1))
              have hne : some w1.heap.size ≠ (Value.slice la 0 lcap).ownBlock := by
                intro h
                have := (hown.lt _ h.symm).2
                omega
              have hc0 : w2.cell? ⟨w1.heap.size, 0, none⟩ = some (.int .i64 sv) := hgrow.cell (a := ⟨w1.heap.size, 0, none⟩) (by simp) hne
              have hc1 : w2.cell? ⟨w1.heap.size, 1, none⟩ = some (.int .i64 sn) := hgrow.cell (a := ⟨w1.heap.size, 1, none⟩) (by simp) hne
              have HO := hid hown'
              clear hown' hgrow hown hb1 hbel hne
              go_wp2
              go_roundw
              case rel =>
                have HO2 := HO.out
                exact ⟨[] ++ [(sv, sn)], f, st, sv, r - sn, rfl, rfl, rfl, HF.out, by omega, by omega, by simp; omega, by omega, by omega, by omega, by omega, by rw [flat_snoc]; simpa using HO2, hb2'⟩
              case measure => simp [intOf]; omega
            · have hn : (0 : Int) < (acc.length : Int) := by have := List.length_pos_iff.2 hacc0; omega
              have he : endB bs p = false := by
                cases h : endB bs p with
                | true => exact absurd ⟨hacc0, h⟩ hend
                | false => rfl
              rw [he] at HEND
              clear hend he
              go_wp2_with (first | (go_at_call 134; refine HEND.out.mono ?_; rintro e w' ⟨rfl, rfl⟩) | (go_at_call 135; refine HSP.out.mono ?_; rintro e w1 ⟨rfl, hb1⟩) | (at_builtin; refine wpList_append_own _ rfl (.tmp 44) (.tmp 46) 37 rfl w.heap.size 109 i0 (.agg #[.int .i64 0, .int .i64 0]) 2 16 Tryz.underlying37 hi hz0 hz1 hz2 rfl (by decide) _ _ _ rfl (((owns_below hown hb1).alloc _).alloc _) ⟨w1.heap.size + 1, 0, none⟩ 1 1 [.int .i64 sv, .int .i64 sn] rfl rfl ?c1 ?c2 ?c3 ?c4 ?c5 ?_))
              case c1 =>
                intro j u hj
                match j, hj with
                | 0, hj => simp at hj; subst hj; simp [Addr.add]
                | 1, hj => simp at hj; subst hj; simp [Addr.add]
              case c2 => intro u hu; simp at hu; rcases hu with rfl | rfl <;> rfl
              case c3 => unfold maxLen; omega
              case c4 => omega
              case c5 => have h1 := hbel.size; have h2 := hb1.size; simp; omega
              intro v' w2 hown' hgrow _
              have h1 := hbel.size
              have h2 := hb1.size
              have hb2' : Below w.heap.size w w2 := ((((hbel.trans (hb1.mono h1)).alloc (by omega) _).alloc (by simp; omega) _).grown hgrow (by simp; omega) (fun k hk => (hown.lt k hk).1))
              have hne : some w1.heap.size ≠ (Value.slice la acc.length lcap).ownBlock := by
                intro h
                have := (hown.lt _ h.symm).2
                omega
              have hc0 : w2.cell? ⟨w1.heap.size, 0, none⟩ = some (.int .i64 sv) := hgrow.cell (a := ⟨w1.heap.size, 0, none⟩) (by simp) hne
              have hc1 : w2.cell? ⟨w1.heap.size, 1, none⟩ = some (.int .i64 sn) := hgrow.cell (a := ⟨w1.heap.size, 1, none⟩) (by simp) hne
              have HO := hid hown'
              clear hown' hgrow hown hb1 hbel hne
              go_wp2
              go_roundw
              case rel =>
                have HO2 := HO.out
                exact ⟨acc ++ [(sv, sn)], f, st, sv, r - sn, rfl, rfl, rfl, HF.out, by omega, by omega, by simp; omega, by omega, by omega, by omega, by omega, by rw [flat_snoc]; simpa using HO2, hb2'⟩
              case measure => simp [intOf]; omega
          · have HF : Hid (getT bs at0 = ([], 0, se)) := by show _ = _; rw [e1, if_pos hse]
            have hse' : (se != 0) = true := by simpa using hse
            clear e1 hs HT hse
            by_cases hacc0 : acc = []
            · subst hacc0
              clear hend HEND
              go_wp2_with (go_at_call 135; refine HSP.out.mono ?_; rintro e w1 ⟨rfl, hb1⟩)
              go_ret3
              rw [HF.out]
              exact ⟨_, rfl, World.ownsRow_nil _ _ _ _, hbel.trans ((hb1.mono hbel.size).alloc (Nat.le_trans hbel.size hb1.size) _)⟩
            · have hn : (0 : Int) < (acc.length : Int) := by have := List.length_pos_iff.2 hacc0; omega
              have he : endB bs p = false := by
                cases h : endB bs p with
                | true => exact absurd ⟨hacc0, h⟩ hend
                | false => rfl
              rw [he] at HEND
              clear hend he
              go_wp2_with (first | (go_at_call 134; refine HEND.out.mono ?_; rintro e w' ⟨rfl, rfl⟩) | (go_at_call 135; refine HSP.out.mono ?_; rintro e w1 ⟨rfl, hb1⟩))
              go_ret3
              rw [HF.out]
              exact ⟨_, rfl, World.ownsRow_nil _ _ _ _, hbel.trans ((hb1.mono hbel.size).alloc (Nat.le_trans hbel.size hb1.size) _)⟩
end Go.Proofs.YtffnfjkjlmlonaaGreatDoor
namespace Go.Proofs.YtffnfjkjlmlonaaGreatDoor
open Go.RowKit

def numF : Nat → Int → List Int
  | 0, n => [n]
  | f + 1, n => if n < 128 then [n] else (n % 128 + 128) :: numF f (n / 128)
def numB (n : Int) : List Int := numF 4 n
theorem numF_succ (f : Nat) (n : Int) : numF (f + 1) n = if n < 128 then [n] else (n % 128 + 128) :: numF f (n / 128) := rfl
theorem numF_small (f : Nat) (n : Int) (h : n < 128) : numF f n = [n] := by
  cases f with
  | zero => rfl
  | succ f => rw [numF_succ, if_pos h]
theorem numF_len : ∀ (f : Nat) (n : Int), 1 ≤ (numF f n).length ∧ (numF f n).length ≤ f + 1
  | 0, _ => by simp [numF]
  | f + 1, n => by
    rw [numF_succ]
    by_cases h : n < 128
    · rw [if_pos h]; simp
    · rw [if_neg h]; have := numF_len f (n / 128); simp; omega
theorem numB_len (n : Int) : 1 ≤ (numB n).length ∧ (numB n).length ≤ 5 := numF_len 4 n

def u8s (l : List Int) : List Value := l.map (Value.int .u8)
theorem u8s_snoc (l : List Int) (x : Int) : u8s (l ++ [x]) = u8s l ++ [.int .u8 x] := by simp [u8s]
theorem u8s_append (l m : List Int) : u8s (l ++ m) = u8s l ++ u8s m := by simp [u8s]
theorem u8s_len (l : List Int) : (u8s l).length = l.length := by simp [u8s]

theorem Tryz.infoByte : (Tryz.prog.info? 5).map (fun i => (i.zero, i.size, i.bytes)) = some (some (.int .u8 0), 1, 1) := by kernel_rfl

def lim : Nat → Int
  | 0 => 128
  | f + 1 => 128 * lim f
theorem lim_step (f : Nat) (m : Int) (h : m < lim (f + 1)) : m / 128 < lim f := by
  have e : lim (f + 1) = 128 * lim f := rfl
  rw [e] at h; omega

/-- The relation of number.Bytes's loop. -/
def RelB (w : World) (n : Int) (m l : Value) (wr : World) : Prop :=
  ∃ (pre : List Int) (f : Nat) (x : Int), m = .int .i64 x ∧ 0 ≤ x ∧ x ≤ 2147483647 ∧ numB n = pre ++ numF f x ∧ x < lim f ∧ pre.length + f = 4 ∧
    wr.ownsRow w.heap.size 5 1 l pre.length (u8s pre) ∧ Below w.heap.size w wr

set_option maxHeartbeats 1000000 in
set_option maxRecDepth 100000 in
theorem bytes_any (n : Int) (w : World) (h0 : 0 ≤ n) (h1 : n ≤ 2147483647) :
    Calls Tryz.prog 128 #[.int .i64 n] w fun e w' => ∃ v, e = .returned v ∧ w'.ownsRow w.heap.size 5 1 v (numB n).length (u8s (numB n)) ∧ Below w.heap.size w w' := by
  obtain ⟨i0, hi, hz0, hz1, hz2⟩ := info_parts Tryz.infoByte
  go_enter Tryz.func128, Tryz.ntmps128
  go_wp2
  go_loopw [0, 3] (fun m l wr => RelB w n m l wr) (fun m _ _ => (intOf m).toNat)
  case atStart => exact ⟨[], 4, n, rfl, h0, h1, rfl, by simp [lim]; omega, rfl, World.ownsRow_nil _ _ _ _, Below.refl _ _⟩
  case round =>
    obtain ⟨pre, f, x, rfl, hx0, hx1, hN, hlim, hpl, hown, hbel⟩ := hrel
    have HN := hid hN
    clear hN h0 h1
    have hsz := hbel.size
    by_cases hx : x < 128
    · have HF : Hid (numB n = pre ++ [x]) := by show _ = _; rw [HN.out, numF_small f x hx]
      clear HN hlim
      go_wp2_with (at_builtin; refine wpList_append_own _ rfl (.tmp 15) (.tmp 18) 36 rfl w.heap.size 5 i0 (.int .u8 0) 1 1 Tryz.underlying36 hi hz0 hz1 hz2 rfl (by decide) _ _ _ rfl (hown.alloc _) ⟨wr.heap.size, 0, none⟩ 1 1 [.int .u8 x] rfl rfl (cell_one_new _ _ _) (fun u hu => by rw [List.mem_singleton.1 hu]; rfl) (by unfold maxLen; omega) (by omega) (by simp; omega) ?_)
      intro v' w2 hown' hgrow _
      have hb2 : Below w.heap.size w w2 := (hbel.alloc hsz _).grown hgrow (by simp; omega) (fun k hk => (hown.lt k hk).1)
      have HO := hid hown'
      clear hown' hgrow hown hbel
      go_wp2
      go_ret
      refine ⟨_, rfl, ?_, hb2⟩
      rw [HF.out, u8s_snoc]
      simpa using HO.out
    · have hf : f ≠ 0 := by rintro rfl; simp [lim] at hlim; omega
      obtain ⟨f, rfl⟩ : ∃ f', f = f' + 1 := ⟨f - 1, by omega⟩
      have hl2 := lim_step f x hlim
      have HF : Hid (numB n = (pre ++ [x % 128 + 128]) ++ numF f (x / 128)) := by show _ = _; rw [HN.out, numF_succ, if_neg hx]; simp
      have HL := hid hl2
      clear HN hlim hl2
      obtain ⟨y, hy⟩ : ∃ y, y = x % 128 + 128 := ⟨_, rfl⟩
      have hy1 : 128 ≤ x % 128 + 128 := by omega
      have hy2 : x % 128 + 128 ≤ 255 := by omega
      clear hy
      go_wp2_with (at_builtin; refine wpList_append_own _ rfl (.tmp 6) (.tmp 11) 36 rfl w.heap.size 5 i0 (.int .u8 0) 1 1 Tryz.underlying36 hi hz0 hz1 hz2 rfl (by decide) _ _ _ rfl (hown.alloc _) ⟨wr.heap.size, 0, none⟩ 1 1 [.int .u8 (x % 128 + 128)] rfl rfl (cell_one_new _ _ _) (fun u hu => by rw [List.mem_singleton.1 hu]; rfl) (by unfold maxLen; omega) (by omega) (by simp; omega) ?_)
      intro v' w2 hown' hgrow _
      have hb2 : Below w.heap.size w w2 := (hbel.alloc hsz _).grown hgrow (by simp; omega) (fun k hk => (hown.lt k hk).1)
      have HO := hid hown'
      clear hown' hgrow hown hbel
      go_wp2
      go_roundw
      case rel =>
        have HO2 := HO.out
        exact ⟨pre ++ [x % 128 + 128], f, x / 128, rfl, by omega, by omega, HF.out, HL.out, by simp; omega, by rw [u8s_snoc]; simpa using HO2, hb2⟩
      case measure => simp [intOf]; omega

/-- A slice of spans that is only read. -/
structure RdS (w : World) (a : Option Addr) (len cap : Nat) (l : List (Int × Int)) : Prop where
  hlen : l.length = len
  hcap : len ≤ cap
  hmax : cap ≤ maxLen
  cell : ∀ i, i < len → ∃ b off, a = some ⟨b, off, none⟩ ∧ w.cell? ⟨b, off + i * 2, none⟩ = some (.int .i64 (l.getD i (0, 0)).1) ∧ w.cell? ⟨b, off + i * 2 + 1, none⟩ = some (.int .i64 (l.getD i (0, 0)).2)

theorem RdS.open {w : World} {a : Option Addr} {len cap : Nat} {l : List (Int × Int)} (h : RdS w a len cap l) (hp : 0 < len) :
    ∃ b off, a = some ⟨b, off, none⟩ ∧ ∀ i, i < len → w.cell? ⟨b, off + i * 2, none⟩ = some (.int .i64 (l.getD i (0, 0)).1) ∧ w.cell? ⟨b, off + i * 2 + 1, none⟩ = some (.int .i64 (l.getD i (0, 0)).2) := by
  obtain ⟨b, off, rfl, _⟩ := h.cell 0 hp
  refine ⟨b, off, rfl, fun i hi => ?_⟩
  obtain ⟨b', off', e, hc⟩ := h.cell i hi
  cases e
  exact hc

theorem RdS.below {w w' : World} {a : Option Addr} {len cap : Nat} {l : List (Int × Int)} (h : RdS w a len cap l) {B : Nat} (hb : Below B w w') (hB : w.heap.size ≤ B) : RdS w' a len cap l := by
  refine ⟨h.hlen, h.hcap, h.hmax, fun i hi => ?_⟩
  obtain ⟨b, off, e, hc, hd⟩ := h.cell i hi
  exact ⟨b, off, e, (hb.cell (p := ⟨b, off + i * 2, none⟩) (by have := World.block_lt_of_cell? w _ hc; exact Nat.lt_of_lt_of_le this hB)).trans hc,
    (hb.cell (p := ⟨b, off + i * 2 + 1, none⟩) (by have := World.block_lt_of_cell? w _ hd; exact Nat.lt_of_lt_of_le this hB)).trans hd⟩

def wfS : List (Int × Int) → Int → Int → Bool
  | [], _, _ => true
  | p :: r, before, room => if isV p.1 = false ∨ p.1 = before then false else if p.2 < 1 ∨ room < p.2 then false else wfS r p.1 (room - p.2)
def wfT (l : List (Int × Int)) : Bool := wfS l (-1) 1000 && decide (0 < l.length)

theorem wfS_drop (l : List (Int × Int)) (k : Nat) (b r : Int) (h : k < l.length) :
    wfS (l.drop k) b r = if isV (l.getD k (0, 0)).1 = false ∨ (l.getD k (0, 0)).1 = b then false else if (l.getD k (0, 0)).2 < 1 ∨ r < (l.getD k (0, 0)).2 then false else wfS (l.drop (k + 1)) (l.getD k (0, 0)).1 (r - (l.getD k (0, 0)).2) := by
  have e : l.drop k = l.getD k (0, 0) :: l.drop (k + 1) := by
    rw [List.drop_eq_getElem_cons h]; simp [List.getD, h]
  rw [e]; rfl

/-- The relation of table.WellFormed's loop. -/
def RelW (w : World) (l : List (Int × Int)) (before room i : Value) (wr : World) : Prop :=
  ∃ (k : Nat) (b r : Int), before = .int .i64 b ∧ room = .int .i64 r ∧ i = .int .i64 k ∧ k ≤ l.length ∧ 0 ≤ r ∧ r ≤ 1000 ∧ wfS l (-1) 1000 = wfS (l.drop k) b r ∧ Below w.heap.size w wr

set_option maxHeartbeats 1000000 in
set_option maxRecDepth 100000 in
theorem wellFormed_any (a : Option Addr) (len cap : Nat) (l : List (Int × Int)) (w : World) (hr : RdS w a len cap l) :
    Calls Tryz.prog 132 #[.slice a len cap] w fun e w' => e = .returned (.bool (wfT l)) ∧ Below w.heap.size w w' := by
  have HL := hid hr.hlen
  have hmax := hr.hmax
  have hcap := hr.hcap
  unfold maxLen at hmax
  go_enter Tryz.func132, Tryz.ntmps132
  go_wp2
  go_loopw [3, 4, 9] (fun b r i wr => RelW w l b r i wr) (fun _ _ i _ => len - (intOf i).toNat)
  case atStart => exact ⟨0, -1, 1000, rfl, rfl, rfl, by omega, by omega, by omega, rfl, Below.refl _ _⟩
  case round =>
    obtain ⟨k, b, r, rfl, rfl, rfl, hk, hr0, hr1, hW, hbel⟩ := hrel
    rw [HL.out] at hk
    have hsz := hbel.size
    by_cases hlt : k < len
    · obtain ⟨b0, off, rfl, hc⟩ := (hr.below hbel (Nat.le_refl _)).open (by omega)
      obtain ⟨hc1, hc2⟩ := hc k hlt
      have hlt' : k < l.length := by rw [HL.out]; exact hlt
      have hb0 := World.block_lt_of_cell? wr _ hc1
      have e := wfS_drop l k b r hlt'
      obtain ⟨⟨v, n⟩, hp⟩ : ∃ p, l.getD k (0, 0) = p := ⟨_, rfl⟩
      rw [hp] at hc1 hc2 e
      simp only at hc1 hc2 e hb0
      have HV0 := fun W => isValue_any v W
      have hwf : wfT l = (wfS (l.drop k) b r && true) := by unfold wfT; rw [hW]; simp; intro _; omega
      clear hr hc hp
      by_cases hv : isV v = false
      · rw [if_pos (.inl hv)] at e
        have HF : Hid (wfT l = false) := by show _ = _; rw [hwf, e]; rfl
        rw [hv] at HV0
        have HV := hid HV0
        clear e hW hv HV0 hwf
        go_wp2_with (go_at_call 183; refine (HV.out _).mono ?_; rintro e w' ⟨rfl, rfl⟩)
        go_ret
        exact ⟨ret_bool HF.out.symm, hbel.alloc hsz _⟩
      · have hv' : isV v = true := by simpa using hv
        rw [hv'] at HV0
        have HV := hid HV0
        clear HV0
        by_cases hvb : v = b
        · rw [if_pos (.inr hvb)] at e
          have HF : Hid (wfT l = false) := by show _ = _; rw [hwf, e]; rfl
          have hvb' : (v == b) = true := by simpa using hvb
          clear e hW hv hv' hvb hwf
          go_wp2_with (go_at_call 183; refine (HV.out _).mono ?_; rintro e w' ⟨rfl, rfl⟩)
          go_ret
          exact ⟨ret_bool HF.out.symm, hbel.alloc hsz _⟩
        · rw [if_neg (by rintro (h | h); exact hv h; exact hvb h)] at e
          have hvb' : (v == b) = false := by simpa using hvb
          by_cases hn1 : n < 1
          · rw [if_pos (.inl hn1)] at e
            have HF : Hid (wfT l = false) := by show _ = _; rw [hwf, e]; rfl
            clear e hW hv hv' hvb hwf
            go_wp2_with (go_at_call 183; refine (HV.out _).mono ?_; rintro e w' ⟨rfl, rfl⟩)
            go_ret
            exact ⟨ret_bool HF.out.symm, hbel.alloc hsz _⟩
          · have hn1' : decide (n < 1) = false := by simpa using hn1
            by_cases hn2 : r < n
            · rw [if_pos (.inr hn2)] at e
              have HF : Hid (wfT l = false) := by show _ = _; rw [hwf, e]; rfl
              clear e hW hv hv' hvb hwf
              go_wp2_with (go_at_call 183; refine (HV.out _).mono ?_; rintro e w' ⟨rfl, rfl⟩)
              go_ret
              exact ⟨ret_bool HF.out.symm, hbel.alloc hsz _⟩
            · have hn2' : decide (r < n) = false := by simpa using hn2
              rw [if_neg (by rintro (h | h); exact hn1 h; exact hn2 h)] at e
              have HF := hid (hW.trans e)
              have hnn : 1 ≤ n := by omega
              have hnr : n ≤ r := by omega
              clear e hW hv hv' hvb hwf
              go_wp2_with (go_at_call 183; refine (HV.out _).mono ?_; rintro e w' ⟨rfl, rfl⟩)
              go_roundw
              case rel => exact ⟨k + 1, v, r - n, rfl, rfl, by go_num, by omega, by omega, by omega, HF.out, hbel.alloc hsz _⟩
              case measure => simp [intOf]; omega
    · have hk' : k = len := by omega
      subst hk'
      have HF : Hid (wfT l = decide (0 < k)) := by
        show _ = _; unfold wfT; rw [hW, List.drop_of_length_le (by rw [HL.out]; omega), HL.out]; simp [wfS]
      clear hW
      go_wp2
      go_ret
      exact ⟨ret_bool (by rw [HF.out]), hbel⟩
end Go.Proofs.YtffnfjkjlmlonaaGreatDoor
