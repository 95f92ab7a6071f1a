/- Contracts of number.Bytes, table.WellFormed and table.At: they give what the plain functions of this text give; nothing that was there is written. -/
import Derived.Test.YtooinlilplecpaaGreatDoorW5
namespace Go.Proofs.YtooinlilplecpaaGreatDoor
open Go.RowKit

def numF : Nat → Int → List Int
  | 0, n => [n]
  | f + 1, n => if n < 128 then [n] else (n % 128 + 128) :: numF f (n / 128)
def numB (n : Int) : List Int := numF 4 n
theorem numF_succ (f : Nat) (n : Int) : numF (f + 1) n = if n < 128 then [n] else (n % 128 + 128) :: numF f (n / 128) := rfl
theorem numF_small (f : Nat) (n : Int) (h : n < 128) : numF f n = [n] := by
  cases f with
  | zero => rfl
  | succ f => rw [numF_succ, if_pos h]
theorem numF_len : ∀ (f : Nat) (n : Int), 1 ≤ (numF f n).length ∧ (numF f n).length ≤ f + 1
  | 0, _ => by simp [numF]
  | f + 1, n => by
    rw [numF_succ]
    by_cases h : n < 128
    · rw [if_pos h]; simp
    · rw [if_neg h]; have := numF_len f (n / 128); simp; omega
theorem numB_len (n : Int) : 1 ≤ (numB n).length ∧ (numB n).length ≤ 5 := numF_len 4 n

def u8s (l : List Int) : List Value := l.map (Value.int .u8)
theorem u8s_snoc (l : List Int) (x : Int) : u8s (l ++ [x]) = u8s l ++ [.int .u8 x] := by simp [u8s]
theorem u8s_append (l m : List Int) : u8s (l ++ m) = u8s l ++ u8s m := by simp [u8s]
theorem u8s_len (l : List Int) : (u8s l).length = l.length := by simp [u8s]

theorem Tryz.infoByte : (Tryz.prog.info? 5).map (fun i => (i.zero, i.size, i.bytes)) = some (some (.int .u8 0), 1, 1) := by kernel_rfl

def lim : Nat → Int
  | 0 => 128
  | f + 1 => 128 * lim f
theorem lim_step (f : Nat) (m : Int) (h : m < lim (f + 1)) : m / 128 < lim f := by
  have e : lim (f + 1) = 128 * lim f := rfl
  rw [e] at h; omega

/-- The relation of number.Bytes's loop. -/
def RelB (w : World) (n : Int) (m l : Value) (wr : World) : Prop :=
  ∃ (pre : List Int) (f : Nat) (x : Int), m = .int .i64 x ∧ 0 ≤ x ∧ x ≤ 2147483647 ∧ numB n = pre ++ numF f x ∧ x < lim f ∧ pre.length + f = 4 ∧
    wr.ownsRow w.heap.size 5 1 l pre.length (u8s pre) ∧ Below w.heap.size w wr

set_option maxHeartbeats 1000000 in
set_option maxRecDepth 100000 in
theorem bytes_any (n : Int) (w : World) (h0 : 0 ≤ n) (h1 : n ≤ 2147483647) :
    Calls Tryz.prog 133 #[.int .i64 n] w fun e w' => ∃ v, e = .returned v ∧ w'.ownsRow w.heap.size 5 1 v (numB n).length (u8s (numB n)) ∧ Below w.heap.size w w' := by
  obtain ⟨i0, hi, hz0, hz1, hz2⟩ := info_parts Tryz.infoByte
  go_enter Tryz.func133, Tryz.ntmps133
  go_wp2
  go_loopw [0, 3] (fun m l wr => RelB w n m l wr) (fun m _ _ => (intOf m).toNat)
  case atStart => exact ⟨[], 4, n, rfl, h0, h1, rfl, by simp [lim]; omega, rfl, World.ownsRow_nil _ _ _ _, Below.refl _ _⟩
  case round =>
    obtain ⟨pre, f, x, rfl, hx0, hx1, hN, hlim, hpl, hown, hbel⟩ := hrel
    have HN := hid hN
    clear hN h0 h1
    have hsz := hbel.size
    by_cases hx : x < 128
    · have HF : Hid (numB n = pre ++ [x]) := by show _ = _; rw [HN.out, numF_small f x hx]
      clear HN hlim
      go_wp2_with (at_builtin; refine wpList_append_own _ rfl (.tmp 15) (.tmp 18) 36 rfl w.heap.size 5 i0 (.int .u8 0) 1 1 Tryz.underlying36 hi hz0 hz1 hz2 rfl (by decide) _ _ _ rfl (hown.alloc _) ⟨wr.heap.size, 0, none⟩ 1 1 [.int .u8 x] rfl rfl (cell_one_new _ _ _) (fun u hu => by rw [List.mem_singleton.1 hu]; rfl) (by unfold maxLen; omega) (by omega) (by simp; omega) ?_)
      intro v' w2 hown' hgrow _
      have hb2 : Below w.heap.size w w2 := (hbel.alloc hsz _).grown hgrow (by simp; omega) (fun k hk => (hown.lt k hk).1)
      have HO := hid hown'
      clear hown' hgrow hown hbel
      go_wp2
      go_ret
      refine ⟨_, rfl, ?_, hb2⟩
      rw [HF.out, u8s_snoc]
      simpa using HO.out
    · have hf : f ≠ 0 := by rintro rfl; simp [lim] at hlim; omega
      obtain ⟨f, rfl⟩ : ∃ f', f = f' + 1 := ⟨f - 1, by omega⟩
      have hl2 := lim_step f x hlim
      have HF : Hid (numB n = (pre ++ [x % 128 + 128]) ++ numF f (x / 128)) := by show _ = _; rw [HN.out, numF_succ, if_neg hx]; simp
      have HL := hid hl2
      clear HN hlim hl2
      obtain ⟨y, hy⟩ : ∃ y, y = x % 128 + 128 := ⟨_, rfl⟩
      have hy1 : 128 ≤ x % 128 + 128 := by omega
      have hy2 : x % 128 + 128 ≤ 255 := by omega
      clear hy
      go_wp2_with (at_builtin; refine wpList_append_own _ rfl (.tmp 6) (.tmp 11) 36 rfl w.heap.size 5 i0 (.int .u8 0) 1 1 Tryz.underlying36 hi hz0 hz1 hz2 rfl (by decide) _ _ _ rfl (hown.alloc _) ⟨wr.heap.size, 0, none⟩ 1 1 [.int .u8 (x % 128 + 128)] rfl rfl (cell_one_new _ _ _) (fun u hu => by rw [List.mem_singleton.1 hu]; rfl) (by unfold maxLen; omega) (by omega) (by simp; omega) ?_)
      intro v' w2 hown' hgrow _
      have hb2 : Below w.heap.size w w2 := (hbel.alloc hsz _).grown hgrow (by simp; omega) (fun k hk => (hown.lt k hk).1)
      have HO := hid hown'
      clear hown' hgrow hown hbel
      go_wp2
      go_roundw
      case rel =>
        have HO2 := HO.out
        exact ⟨pre ++ [x % 128 + 128], f, x / 128, rfl, by omega, by omega, HF.out, HL.out, by simp; omega, by rw [u8s_snoc]; simpa using HO2, hb2⟩
      case measure => simp [intOf]; omega

/-- A slice of spans that is only read. -/
structure RdS (w : World) (a : Option Addr) (len cap : Nat) (l : List (Int × Int)) : Prop where
  hlen : l.length = len
  hcap : len ≤ cap
  hmax : cap ≤ maxLen
  cell : ∀ i, i < len → ∃ b off, a = some ⟨b, off, none⟩ ∧ w.cell? ⟨b, off + i * 2, none⟩ = some (.int .i64 (l.getD i (0, 0)).1) ∧ w.cell? ⟨b, off + i * 2 + 1, none⟩ = some (.int .i64 (l.getD i (0, 0)).2)

theorem RdS.open {w : World} {a : Option Addr} {len cap : Nat} {l : List (Int × Int)} (h : RdS w a len cap l) (hp : 0 < len) :
    ∃ b off, a = some ⟨b, off, none⟩ ∧ ∀ i, i < len → w.cell? ⟨b, off + i * 2, none⟩ = some (.int .i64 (l.getD i (0, 0)).1) ∧ w.cell? ⟨b, off + i * 2 + 1, none⟩ = some (.int .i64 (l.getD i (0, 0)).2) := by
  obtain ⟨b, off, rfl, _⟩ := h.cell 0 hp
  refine ⟨b, off, rfl, fun i hi => ?_⟩
  obtain ⟨b', off', e, hc⟩ := h.cell i hi
  cases e
  exact hc

theorem RdS.below {w w' : World} {a : Option Addr} {len cap : Nat} {l : List (Int × Int)} (h : RdS w a len cap l) {B : Nat} (hb : Below B w w') (hB : w.heap.size ≤ B) : RdS w' a len cap l := by
  refine ⟨h.hlen, h.hcap, h.hmax, fun i hi => ?_⟩
  obtain ⟨b, off, e, hc, hd⟩ := h.cell i hi
  exact ⟨b, off, e, (hb.cell (p := ⟨b, off + i * 2, none⟩) (by have := World.block_lt_of_cell? w _ hc; exact Nat.lt_of_lt_of_le this hB)).trans hc,
    (hb.cell (p := ⟨b, off + i * 2 + 1, none⟩) (by have := World.block_lt_of_cell? w _ hd; exact Nat.lt_of_lt_of_le this hB)).trans hd⟩

def wfS : List (Int × Int) → Int → Int → Bool
  | [], _, _ => true
  | p :: r, before, room => if isV p.1 = false ∨ p.1 = before then false else if p.2 < 1 ∨ room < p.2 then false else wfS r p.1 (room - p.2)
def wfT (l : List (Int × Int)) : Bool := wfS l (-1) 1000 && decide (0 < l.length)

theorem wfS_drop (l : List (Int × Int)) (k : Nat) (b r : Int) (h : k < l.length) :
    wfS (l.drop k) b r = if isV (l.getD k (0, 0)).1 = false ∨ (l.getD k (0, 0)).1 = b then false else if (l.getD k (0, 0)).2 < 1 ∨ r < (l.getD k (0, 0)).2 then false else wfS (l.drop (k + 1)) (l.getD k (0, 0)).1 (r - (l.getD k (0, 0)).2) := by
  have e : l.drop k = l.getD k (0, 0) :: l.drop (k + 1) := by
    rw [List.drop_eq_getElem_cons h]; simp [List.getD, h]
  rw [e]; rfl

/-- The relation of table.WellFormed's loop. -/
def RelW (w : World) (l : List (Int × Int)) (before room i : Value) (wr : World) : Prop :=
  ∃ (k : Nat) (b r : Int), before = .int .i64 b ∧ room = .int .i64 r ∧ i = .int .i64 k ∧ k ≤ l.length ∧ 0 ≤ r ∧ r ≤ 1000 ∧ wfS l (-1) 1000 = wfS (l.drop k) b r ∧ Below w.heap.size w wr

set_option maxHeartbeats 1000000 in
set_option maxRecDepth 100000 in
theorem wellFormed_any (a : Option Addr) (len cap : Nat) (l : List (Int × Int)) (w : World) (hr : RdS w a len cap l) :
    Calls Tryz.prog 137 #[.slice a len cap] w fun e w' => e = .returned (.bool (wfT l)) ∧ Below w.heap.size w w' := by
  have HL := hid hr.hlen
  have hmax := hr.hmax
  have hcap := hr.hcap
  unfold maxLen at hmax
  go_enter Tryz.func137, Tryz.ntmps137
  go_wp2
  go_loopw [3, 4, 9] (fun b r i wr => RelW w l b r i wr) (fun _ _ i _ => len - (intOf i).toNat)
  case atStart => exact ⟨0, -1, 1000, rfl, rfl, rfl, by omega, by omega, by omega, rfl, Below.refl _ _⟩
  case round =>
    obtain ⟨k, b, r, rfl, rfl, rfl, hk, hr0, hr1, hW, hbel⟩ := hrel
    rw [HL.out] at hk
    have hsz := hbel.size
    by_cases hlt : k < len
    · obtain ⟨b0, off, rfl, hc⟩ := (hr.below hbel (Nat.le_refl _)).open (by omega)
      obtain ⟨hc1, hc2⟩ := hc k hlt
      have hlt' : k < l.length := by rw [HL.out]; exact hlt
      have hb0 := World.block_lt_of_cell? wr _ hc1
      have e := wfS_drop l k b r hlt'
      obtain ⟨⟨v, n⟩, hp⟩ : ∃ p, l.getD k (0, 0) = p := ⟨_, rfl⟩
      rw [hp] at hc1 hc2 e
      simp only at hc1 hc2 e hb0
      have HV0 := fun W => isValue_any v W
      have hwf : wfT l = (wfS (l.drop k) b r && true) := by unfold wfT; rw [hW]; simp; intro _; omega
      clear hr hc hp
      by_cases hv : isV v = false
      · rw [if_pos (.inl hv)] at e
        have HF : Hid (wfT l = false) := by show _ = _; rw [hwf, e]; rfl
        rw [hv] at HV0
        have HV := hid HV0
        clear e hW hv HV0 hwf
        go_wp2_with (go_at_call 188; refine (HV.out _).mono ?_; rintro e w' ⟨rfl, rfl⟩)
        go_ret
        exact ⟨ret_bool HF.out.symm, hbel.alloc hsz _⟩
      · have hv' : isV v = true := by simpa using hv
        rw [hv'] at HV0
        have HV := hid HV0
        clear HV0
        by_cases hvb : v = b
        · rw [if_pos (.inr hvb)] at e
          have HF : Hid (wfT l = false) := by show _ = _; rw [hwf, e]; rfl
          have hvb' : (v == b) = true := by simpa using hvb
          clear e hW hv hv' hvb hwf
          go_wp2_with (go_at_call 188; refine (HV.out _).mono ?_; rintro e w' ⟨rfl, rfl⟩)
          go_ret
          exact ⟨ret_bool HF.out.symm, hbel.alloc hsz _⟩
        · rw [if_neg (by rintro (h | h); exact hv h; exact hvb h)] at e
          have hvb' : (v == b) = false := by simpa using hvb
          by_cases hn1 : n < 1
          · rw [if_pos (.inl hn1)] at e
            have HF : Hid (wfT l = false) := by show _ = _; rw [hwf, e]; rfl
            clear e hW hv hv' hvb hwf
            go_wp2_with (go_at_call 188; refine (HV.out _).mono ?_; rintro e w' ⟨rfl, rfl⟩)
            go_ret
            exact ⟨ret_bool HF.out.symm, hbel.alloc hsz _⟩
          · have hn1' : decide (n < 1) = false := by simpa using hn1
            by_cases hn2 : r < n
            · rw [if_pos (.inr hn2)] at e
              have HF : Hid (wfT l = false) := by show _ = _; rw [hwf, e]; rfl
              clear e hW hv hv' hvb hwf
              go_wp2_with (go_at_call 188; refine (HV.out _).mono ?_; rintro e w' ⟨rfl, rfl⟩)
              go_ret
              exact ⟨ret_bool HF.out.symm, hbel.alloc hsz _⟩
            · have hn2' : decide (r < n) = false := by simpa using hn2
              rw [if_neg (by rintro (h | h); exact hn1 h; exact hn2 h)] at e
              have HF := hid (hW.trans e)
              have hnn : 1 ≤ n := by omega
              have hnr : n ≤ r := by omega
              clear e hW hv hv' hvb hwf
              go_wp2_with (go_at_call 188; refine (HV.out _).mono ?_; rintro e w' ⟨rfl, rfl⟩)
              go_roundw
              case rel => exact ⟨k + 1, v, r - n, rfl, rfl, by go_num, by omega, by omega, by omega, HF.out, hbel.alloc hsz _⟩
              case measure => simp [intOf]; omega
    · have hk' : k = len := by omega
      subst hk'
      have HF : Hid (wfT l = decide (0 < k)) := by
        show _ = _; unfold wfT; rw [hW, List.drop_of_length_le (by rw [HL.out]; omega), HL.out]; simp [wfS]
      clear hW
      go_wp2
      go_ret
      exact ⟨ret_bool (by rw [HF.out]), hbel⟩
end Go.Proofs.YtooinlilplecpaaGreatDoor
