/- Contracts of number.Bytes, table.WellFormed and table.At: they give what the plain functions of this text give; nothing that was there is written. The contract of table.Bytes: it gives what the plain function of this text gives, in a row of the call's own; nothing that was there is written. Contracts of table.At and table.Put: they give what the plain functions give; what comes out lies in a row of the call's own; nothing that was there is written. Contracts of unfold.PutTable, unfold.GetTable and unfold.At: they hand on what table.Put, table.Get and table.At give. The contract of unfoldkeep.pick: for whatever integer it gives its fold into the numbers below n, the world being left as it was. The contract of the law's own function rolled: it gives the spans of some values, in a row of the call's own; nothing that was there is written. -/
import Derived.Test.YtebjndcokkefhaaDoorZ1
import Derived.Test.YtebjndcokkefhaaDoorZ0
import Derived.Deep.QuietTactic
import Derived.BigQuiet
namespace Go.Proofs.YtebjndcokkefhaaDoor
open Go.RowKit

def numF : Nat → Int → List Int
  | 0, n => [n]
  | f + 1, n => if n < 128 then [n] else (n % 128 + 128) :: numF f (n / 128)
def numB (n : Int) : List Int := numF 4 n
theorem numF_succ (f : Nat) (n : Int) : numF (f + 1) n = if n < 128 then [n] else (n % 128 + 128) :: numF f (n / 128) := rfl
theorem numF_small (f : Nat) (n : Int) (h : n < 128) : numF f n = [n] := by
  cases f with
  | zero => rfl
  | succ f => rw [numF_succ, if_pos h]
theorem numF_len : ∀ (f : Nat) (n : Int), 1 ≤ (numF f n).length ∧ (numF f n).length ≤ f + 1
  | 0, _ => by simp [numF]
  | f + 1, n => by
    rw [numF_succ]
    by_cases h : n < 128
    · rw [if_pos h]; simp
    · rw [if_neg h]; have := numF_len f (n / 128); simp; omega
theorem numB_len (n : Int) : 1 ≤ (numB n).length ∧ (numB n).length ≤ 5 := numF_len 4 n

def u8s (l : List Int) : List Value := l.map (Value.int .u8)
theorem u8s_snoc (l : List Int) (x : Int) : u8s (l ++ [x]) = u8s l ++ [.int .u8 x] := by simp [u8s]
theorem u8s_append (l m : List Int) : u8s (l ++ m) = u8s l ++ u8s m := by simp [u8s]
theorem u8s_len (l : List Int) : (u8s l).length = l.length := by simp [u8s]

theorem Tryd.infoByte : (Tryd.prog.info? 5).map (fun i => (i.zero, i.size, i.bytes)) = some (some (.int .u8 0), 1, 1) := by kernel_rfl

def lim : Nat → Int
  | 0 => 128
  | f + 1 => 128 * lim f
theorem lim_step (f : Nat) (m : Int) (h : m < lim (f + 1)) : m / 128 < lim f := by
  have e : lim (f + 1) = 128 * lim f := rfl
  rw [e] at h; omega

/-- The relation of number.Bytes's loop. -/
def RelB (w : World) (n : Int) (m l : Value) (wr : World) : Prop :=
  ∃ (pre : List Int) (f : Nat) (x : Int), m = .int .i64 x ∧ 0 ≤ x ∧ x ≤ 2147483647 ∧ numB n = pre ++ numF f x ∧ x < lim f ∧ pre.length + f = 4 ∧
    wr.ownsRow w.heap.size 5 1 l pre.length (u8s pre) ∧ Below w.heap.size w wr

set_option maxHeartbeats 1000000 in
set_option maxRecDepth 100000 in
theorem bytes_any (n : Int) (w : World) (h0 : 0 ≤ n) (h1 : n ≤ 2147483647) :
    Calls Tryd.prog 47 #[.int .i64 n] w fun e w' => ∃ v, e = .returned v ∧ w'.ownsRow w.heap.size 5 1 v (numB n).length (u8s (numB n)) ∧ Below w.heap.size w w' := by
  obtain ⟨i0, hi, hz0, hz1, hz2⟩ := info_parts Tryd.infoByte
  go_enter Tryd.func47, Tryd.ntmps47
  go_wp2
  go_loopw [0, 3] (fun m l wr => RelB w n m l wr) (fun m _ _ => (intOf m).toNat)
  case atStart => exact ⟨[], 4, n, rfl, h0, h1, rfl, by simp [lim]; omega, rfl, World.ownsRow_nil _ _ _ _, Below.refl _ _⟩
  case round =>
    obtain ⟨pre, f, x, rfl, hx0, hx1, hN, hlim, hpl, hown, hbel⟩ := hrel
    have HN := hid hN
    clear hN h0 h1
    have hsz := hbel.size
    by_cases hx : x < 128
    · have HF : Hid (numB n = pre ++ [x]) := by show _ = _; rw [HN.out, numF_small f x hx]
      clear HN hlim
      go_wp2_with (at_builtin; refine wpList_append_own _ rfl (.tmp 15) (.tmp 18) 26 rfl w.heap.size 5 i0 (.int .u8 0) 1 1 Tryd.underlying26 hi hz0 hz1 hz2 rfl (by decide) _ _ _ rfl (hown.alloc _) ⟨wr.heap.size, 0, none⟩ 1 1 [.int .u8 x] rfl rfl (cell_one_new _ _ _) (fun u hu => by rw [List.mem_singleton.1 hu]; rfl) (by unfold maxLen; omega) (by omega) (by simp; omega) ?_)
      intro v' w2 hown' hgrow _
      have hb2 : Below w.heap.size w w2 := (hbel.alloc hsz _).grown hgrow (by simp; omega) (fun k hk => (hown.lt k hk).1)
      have HO := hid hown'
      clear hown' hgrow hown hbel
      go_wp2
      go_ret
      refine ⟨_, rfl, ?_, hb2⟩
      rw [HF.out, u8s_snoc]
      simpa using HO.out
    · have hf : f ≠ 0 := by rintro rfl; simp [lim] at hlim; omega
      obtain ⟨f, rfl⟩ : ∃ f', f = f' + 1 := ⟨f - 1, by omega⟩
      have hl2 := lim_step f x hlim
      have HF : Hid (numB n = (pre ++ [x % 128 + 128]) ++ numF f (x / 128)) := by show _ = _; rw [HN.out, numF_succ, if_neg hx]; simp
      have HL := hid hl2
      clear HN hlim hl2
      obtain ⟨y, hy⟩ : ∃ y, y = x % 128 + 128 := ⟨_, rfl⟩
      have hy1 : 128 ≤ x % 128 + 128 := by omega
      have hy2 : x % 128 + 128 ≤ 255 := by omega
      clear hy
      go_wp2_with (at_builtin; refine wpList_append_own _ rfl (.tmp 6) (.tmp 11) 26 rfl w.heap.size 5 i0 (.int .u8 0) 1 1 Tryd.underlying26 hi hz0 hz1 hz2 rfl (by decide) _ _ _ rfl (hown.alloc _) ⟨wr.heap.size, 0, none⟩ 1 1 [.int .u8 (x % 128 + 128)] rfl rfl (cell_one_new _ _ _) (fun u hu => by rw [List.mem_singleton.1 hu]; rfl) (by unfold maxLen; omega) (by omega) (by simp; omega) ?_)
      intro v' w2 hown' hgrow _
      have hb2 : Below w.heap.size w w2 := (hbel.alloc hsz _).grown hgrow (by simp; omega) (fun k hk => (hown.lt k hk).1)
      have HO := hid hown'
      clear hown' hgrow hown hbel
      go_wp2
      go_roundw
      case rel =>
        have HO2 := HO.out
        exact ⟨pre ++ [x % 128 + 128], f, x / 128, rfl, by omega, by omega, HF.out, HL.out, by simp; omega, by rw [u8s_snoc]; simpa using HO2, hb2⟩
      case measure => simp [intOf]; omega

/-- A slice of spans that is only read. -/
structure RdS (w : World) (a : Option Addr) (len cap : Nat) (l : List (Int × Int)) : Prop where
  hlen : l.length = len
  hcap : len ≤ cap
  hmax : cap ≤ maxLen
  cell : ∀ i, i < len → ∃ b off, a = some ⟨b, off, none⟩ ∧ w.cell? ⟨b, off + i * 2, none⟩ = some (.int .i64 (l.getD i (0, 0)).1) ∧ w.cell? ⟨b, off + i * 2 + 1, none⟩ = some (.int .i64 (l.getD i (0, 0)).2)

theorem RdS.open {w : World} {a : Option Addr} {len cap : Nat} {l : List (Int × Int)} (h : RdS w a len cap l) (hp : 0 < len) :
    ∃ b off, a = some ⟨b, off, none⟩ ∧ ∀ i, i < len → w.cell? ⟨b, off + i * 2, none⟩ = some (.int .i64 (l.getD i (0, 0)).1) ∧ w.cell? ⟨b, off + i * 2 + 1, none⟩ = some (.int .i64 (l.getD i (0, 0)).2) := by
  obtain ⟨b, off, rfl, _⟩ := h.cell 0 hp
  refine ⟨b, off, rfl, fun i hi => ?_⟩
  obtain ⟨b', off', e, hc⟩ := h.cell i hi
  cases e
  exact hc

theorem RdS.below {w w' : World} {a : Option Addr} {len cap : Nat} {l : List (Int × Int)} (h : RdS w a len cap l) {B : Nat} (hb : Below B w w') (hB : w.heap.size ≤ B) : RdS w' a len cap l := by
  refine ⟨h.hlen, h.hcap, h.hmax, fun i hi => ?_⟩
  obtain ⟨b, off, e, hc, hd⟩ := h.cell i hi
  exact ⟨b, off, e, (hb.cell (p := ⟨b, off + i * 2, none⟩) (by have := World.block_lt_of_cell? w _ hc; exact Nat.lt_of_lt_of_le this hB)).trans hc,
    (hb.cell (p := ⟨b, off + i * 2 + 1, none⟩) (by have := World.block_lt_of_cell? w _ hd; exact Nat.lt_of_lt_of_le this hB)).trans hd⟩

def wfS : List (Int × Int) → Int → Int → Bool
  | [], _, _ => true
  | p :: r, before, room => if isV p.1 = false ∨ p.1 = before then false else if p.2 < 1 ∨ room < p.2 then false else wfS r p.1 (room - p.2)
def wfT (l : List (Int × Int)) : Bool := wfS l (-1) 1000 && decide (0 < l.length)

theorem wfS_drop (l : List (Int × Int)) (k : Nat) (b r : Int) (h : k < l.length) :
    wfS (l.drop k) b r = if isV (l.getD k (0, 0)).1 = false ∨ (l.getD k (0, 0)).1 = b then false else if (l.getD k (0, 0)).2 < 1 ∨ r < (l.getD k (0, 0)).2 then false else wfS (l.drop (k + 1)) (l.getD k (0, 0)).1 (r - (l.getD k (0, 0)).2) := by
  have e : l.drop k = l.getD k (0, 0) :: l.drop (k + 1) := by
    rw [List.drop_eq_getElem_cons h]; simp [List.getD, h]
  rw [e]; rfl

/-- The relation of table.WellFormed's loop. -/
def RelW (w : World) (l : List (Int × Int)) (before room i : Value) (wr : World) : Prop :=
  ∃ (k : Nat) (b r : Int), before = .int .i64 b ∧ room = .int .i64 r ∧ i = .int .i64 k ∧ k ≤ l.length ∧ 0 ≤ r ∧ r ≤ 1000 ∧ wfS l (-1) 1000 = wfS (l.drop k) b r ∧ Below w.heap.size w wr

set_option maxHeartbeats 1000000 in
set_option maxRecDepth 100000 in
theorem wellFormed_any (a : Option Addr) (len cap : Nat) (l : List (Int × Int)) (w : World) (hr : RdS w a len cap l) :
    Calls Tryd.prog 100 #[.slice a len cap] w fun e w' => e = .returned (.bool (wfT l)) ∧ Below w.heap.size w w' := by
  have HL := hid hr.hlen
  have hmax := hr.hmax
  have hcap := hr.hcap
  unfold maxLen at hmax
  go_enter Tryd.func100, Tryd.ntmps100
  go_wp2
  go_loopw [3, 4, 9] (fun b r i wr => RelW w l b r i wr) (fun _ _ i _ => len - (intOf i).toNat)
  case atStart => exact ⟨0, -1, 1000, rfl, rfl, rfl, by omega, by omega, by omega, rfl, Below.refl _ _⟩
  case round =>
    obtain ⟨k, b, r, rfl, rfl, rfl, hk, hr0, hr1, hW, hbel⟩ := hrel
    rw [HL.out] at hk
    have hsz := hbel.size
    by_cases hlt : k < len
    · obtain ⟨b0, off, rfl, hc⟩ := (hr.below hbel (Nat.le_refl _)).open (by omega)
      obtain ⟨hc1, hc2⟩ := hc k hlt
      have hlt' : k < l.length := by rw [HL.out]; exact hlt
      have hb0 := World.block_lt_of_cell? wr _ hc1
      have e := wfS_drop l k b r hlt'
      obtain ⟨⟨v, n⟩, hp⟩ : ∃ p, l.getD k (0, 0) = p := ⟨_, rfl⟩
      rw [hp] at hc1 hc2 e
      simp only at hc1 hc2 e hb0
      have HV0 := fun W => isValue_any v W
      have hwf : wfT l = (wfS (l.drop k) b r && true) := by unfold wfT; rw [hW]; simp; intro _; omega
      clear hr hc hp
      by_cases hv : isV v = false
      · rw [if_pos (.inl hv)] at e
        have HF : Hid (wfT l = false) := by show _ = _; rw [hwf, e]; rfl
        rw [hv] at HV0
        have HV := hid HV0
        clear e hW hv HV0 hwf
        go_wp2_with (go_at_call 115; refine (HV.out _).mono ?_; rintro e w' ⟨rfl, rfl⟩)
        go_ret
        exact ⟨ret_bool HF.out.symm, hbel.alloc hsz _⟩
      · have hv' : isV v = true := by simpa using hv
        rw [hv'] at HV0
        have HV := hid HV0
        clear HV0
        by_cases hvb : v = b
        · rw [if_pos (.inr hvb)] at e
          have HF : Hid (wfT l = false) := by show _ = _; rw [hwf, e]; rfl
          have hvb' : (v == b) = true := by simpa using hvb
          clear e hW hv hv' hvb hwf
          go_wp2_with (go_at_call 115; refine (HV.out _).mono ?_; rintro e w' ⟨rfl, rfl⟩)
          go_ret
          exact ⟨ret_bool HF.out.symm, hbel.alloc hsz _⟩
        · rw [if_neg (by rintro (h | h); exact hv h; exact hvb h)] at e
          have hvb' : (v == b) = false := by simpa using hvb
          by_cases hn1 : n < 1
          · rw [if_pos (.inl hn1)] at e
            have HF : Hid (wfT l = false) := by show _ = _; rw [hwf, e]; rfl
            clear e hW hv hv' hvb hwf
            go_wp2_with (go_at_call 115; refine (HV.out _).mono ?_; rintro e w' ⟨rfl, rfl⟩)
            go_ret
            exact ⟨ret_bool HF.out.symm, hbel.alloc hsz _⟩
          · have hn1' : decide (n < 1) = false := by simpa using hn1
            by_cases hn2 : r < n
            · rw [if_pos (.inr hn2)] at e
              have HF : Hid (wfT l = false) := by show _ = _; rw [hwf, e]; rfl
              clear e hW hv hv' hvb hwf
              go_wp2_with (go_at_call 115; refine (HV.out _).mono ?_; rintro e w' ⟨rfl, rfl⟩)
              go_ret
              exact ⟨ret_bool HF.out.symm, hbel.alloc hsz _⟩
            · have hn2' : decide (r < n) = false := by simpa using hn2
              rw [if_neg (by rintro (h | h); exact hn1 h; exact hn2 h)] at e
              have HF := hid (hW.trans e)
              have hnn : 1 ≤ n := by omega
              have hnr : n ≤ r := by omega
              clear e hW hv hv' hvb hwf
              go_wp2_with (go_at_call 115; refine (HV.out _).mono ?_; rintro e w' ⟨rfl, rfl⟩)
              go_roundw
              case rel => exact ⟨k + 1, v, r - n, rfl, rfl, by go_num, by omega, by omega, by omega, HF.out, hbel.alloc hsz _⟩
              case measure => simp [intOf]; omega
    · have hk' : k = len := by omega
      subst hk'
      have HF : Hid (wfT l = decide (0 < k)) := by
        show _ = _; unfold wfT; rw [hW, List.drop_of_length_le (by rw [HL.out]; omega), HL.out]; simp [wfS]
      clear hW
      go_wp2
      go_ret
      exact ⟨ret_bool (by rw [HF.out]), hbel⟩
end Go.Proofs.YtebjndcokkefhaaDoor
namespace Go.Proofs.YtebjndcokkefhaaDoor
open Go.RowKit

theorem wfS_len : ∀ (l : List (Int × Int)) (b r : Int), wfS l b r = true → 0 ≤ r → (l.length : Int) ≤ r
  | [], _, _, _, h => by simpa using h
  | p :: t, b, r, h, hr => by
    unfold wfS at h
    by_cases h1 : isV p.1 = false ∨ p.1 = b
    · rw [if_pos h1] at h; cases h
    · rw [if_neg h1] at h
      by_cases h2 : p.2 < 1 ∨ r < p.2
      · rw [if_pos h2] at h; cases h
      · rw [if_neg h2] at h
        have := wfS_len t _ _ h (by omega)
        simp; omega
theorem wfS_at : ∀ (l : List (Int × Int)) (b r : Int) (k : Nat), wfS l b r = true → r ≤ 1000 → k < l.length →
    0 ≤ (l.getD k (0, 0)).1 ∧ (l.getD k (0, 0)).1 ≤ 9999 ∧ 1 ≤ (l.getD k (0, 0)).2 ∧ (l.getD k (0, 0)).2 ≤ 1000
  | [], _, _, _, _, _, h => by simp at h
  | p :: t, b, r, k, h, hr, hk => by
    unfold wfS at h
    by_cases h1 : isV p.1 = false ∨ p.1 = b
    · rw [if_pos h1] at h; cases h
    · rw [if_neg h1] at h
      by_cases h2 : p.2 < 1 ∨ r < p.2
      · rw [if_pos h2] at h; cases h
      · rw [if_neg h2] at h
        cases k with
        | zero =>
          have hv : isV p.1 = true := by simpa using fun e => h1 (.inl e)
          unfold isV at hv
          have hv := of_decide_eq_true hv
          simp only [List.getD_cons_zero]
          omega
        | succ k =>
          have := wfS_at t _ _ k h (by omega) (by simpa using hk)
          simpa using this

def atS : List (Int × Int) → Int → Int × Int
  | [], _ => (0, 1)
  | p :: r, pc => if pc < p.2 then (p.1, 0) else atS r (pc - p.2)
def atT (l : List (Int × Int)) (pc : Int) : Int × Int := if wfT l = false then (0, 4) else if pc < 0 then (0, 1) else atS l pc

theorem drop_getD {α : Type} (l : List α) (k : Nat) (d : α) (h : k < l.length) : l.drop k = l.getD k d :: l.drop (k + 1) := by
  rw [List.drop_eq_getElem_cons h]; simp [List.getD, h]

theorem owns_some {w : World} {base : Nat} {e : TypeId} {size : Nat} {v : Value} {n : Nat} {xs : List Value} (h : w.ownsRow base e size v n xs) (hn : 0 < n) :
    ∃ g cap, v = .slice (some ⟨g, 0, none⟩) n cap ∧ base ≤ g ∧ g < w.heap.size ∧ ∀ j u, xs[j]? = some u → w.cell? ((⟨g, 0, none⟩ : Addr).add j) = some u := by
  have hc := fun g hg => h.cells (g := g) hg
  rcases h.2 with ⟨_, h0⟩ | ⟨g, cap, cur, rfl, hg, hh, _⟩
  · omega
  · exact ⟨g, cap, rfl, hg, (Array.getElem?_eq_some_iff.1 hh).1, hc g rfl⟩

def putS : List (Int × Int) → Int → List Int
  | [], _ => [0]
  | p :: r, before => numB (zig (p.1 - before)) ++ (numB p.2 ++ putS r p.1)
def putT (l : List (Int × Int)) : List Int × Int := if wfT l = false then ([], 4) else (putS l (-1), 0)
theorem zig_bd (d : Int) (h1 : -10000 ≤ d) (h2 : d ≤ 10000) : 0 ≤ zig d ∧ zig d ≤ 20000 := by
  unfold zig; by_cases h : 0 ≤ d
  · rw [if_pos h]; omega
  · rw [if_neg h]; omega

/-- The relation of table.Bytes' loop. -/
def RelP (w : World) (l : List (Int × Int)) (b before i : Value) (wr : World) : Prop :=
  ∃ (k : Nat) (pre : List Int) (c : Int), before = .int .i64 c ∧ i = .int .i64 k ∧ k ≤ l.length ∧ -1 ≤ c ∧ c ≤ 9999 ∧ putS l (-1) = pre ++ putS (l.drop k) c ∧ pre.length ≤ 10 * k ∧
    wr.ownsRow w.heap.size 5 1 b pre.length (u8s pre) ∧ Below w.heap.size w wr

/-- A row of the call's own is not a block of another element type. -/
theorem owns_other {w : World} {base : Nat} {e e' : TypeId} {size : Nat} {v : Value} {n : Nat} {xs : List Value} (h : w.ownsRow base e size v n xs) {g : Nat} {cs : Array Value} {fz : Nat × Nat} (hg : w.heap[g]? = some (.cells cs e' fz)) (hne : e ≠ e') : some g ≠ v.ownBlock := by
  rcases h.2 with ⟨rfl, _⟩ | ⟨g', cap, cur, rfl, _, hh, _⟩
  · simp [Value.ownBlock]
  · intro hb
    simp [Value.ownBlock] at hb
    subst hb
    rw [hg] at hh
    injection hh with hh
    injection hh with _ hh _
    exact hne hh.symm

theorem box_cells {w : World} {g : Nat} {x y : Value} {e : TypeId} (h : w.heap[g]? = some (.cells #[x, y] e (0, 0))) : w.cell? ⟨g, 0, none⟩ = some x ∧ w.cell? ⟨g, 1, none⟩ = some y := by
  constructor <;> simp [World.cell?, h]

theorem u8s_one (l : List Int) : ∀ u ∈ u8s l, u.oneCell' = true := by
  intro u hu
  obtain ⟨x, _, rfl⟩ := List.mem_map.1 hu
  rfl

theorem owns_low7 {w : World} {base base' : Nat} {e : TypeId} {size : Nat} {v : Value} {n : Nat} {xs : List Value} (h : w.ownsRow base e size v n xs) (hb : base' ≤ base) : w.ownsRow base' e size v n xs := by
  refine ⟨h.1, ?_⟩
  rcases h.2 with hn | ⟨g, cap, cur, hv, hg, r⟩
  · exact .inl hn
  · exact .inr ⟨g, cap, cur, hv, Nat.le_trans hb hg, r⟩

set_option maxHeartbeats 2000000 in
set_option maxRecDepth 100000 in
theorem tbytes_any (a : Option Addr) (len cap : Nat) (l : List (Int × Int)) (w : World) (hr : RdS w a len cap l) (hwt : wfT l = true) :
    Calls Tryd.prog 79 #[.slice a len cap] w fun e w' => ∃ v, e = .returned v ∧
      w'.ownsRow w.heap.size 5 1 v (putS l (-1)).length (u8s (putS l (-1))) ∧ Below w.heap.size w w' := by
  have HL := hid hr.hlen
  have hmax := hr.hmax
  have hcap := hr.hcap
  unfold maxLen at hmax
  obtain ⟨i0, hi, hz0, hz1, hz2⟩ := info_parts Tryd.infoByte
  have hws : wfS l (-1) 1000 = true := by unfold wfT at hwt; rw [Bool.and_eq_true] at hwt; exact hwt.1
  have hln := wfS_len l (-1) 1000 hws (by omega)
  have HWS := hid hws
  clear hwt hws
  have hb : Below w.heap.size w w := Below.refl _ _
  go_enter Tryd.func79, Tryd.ntmps79
  go_wp2
  go_loopw [3, 4, 10] (fun b c i wr => RelP w l b c i wr) (fun _ _ i _ => len - (intOf i).toNat)
  case atStart => exact ⟨0, [], -1, rfl, rfl, by omega, by omega, by omega, rfl, by simp, World.ownsRow_nil _ _ _ _, hb⟩
  case round =>
    clear hb
    obtain ⟨k, pre, c, rfl, rfl, hk, hc0, hc1, hP, hpl, hown, hbel⟩ := hrel
    rw [HL.out] at hk hln
    have hsz := hbel.size
    by_cases hlt : k < len
    · obtain ⟨b0, off, rfl, hc⟩ := (hr.below hbel (Nat.le_refl _)).open (by omega)
      obtain ⟨hcv, hcn⟩ := hc k hlt
      have hlt' : k < l.length := by rw [HL.out]; exact hlt
      have hb0 := World.block_lt_of_cell? wr _ hcv
      have hat := wfS_at l (-1) 1000 k HWS.out (by omega) hlt'
      have e : putS (l.drop k) c = numB (zig ((l.getD k (0, 0)).1 - c)) ++ (numB (l.getD k (0, 0)).2 ++ putS (l.drop (k + 1)) (l.getD k (0, 0)).1) := by
        rw [drop_getD l k (0, 0) hlt']; rfl
      obtain ⟨⟨v, n⟩, hp⟩ : ∃ p, l.getD k (0, 0) = p := ⟨_, rfl⟩
      rw [hp] at hcv hcn e hat
      simp only at hcv hcn e hb0 hat
      obtain ⟨d1, d2, d3, d4⟩ := hat
      have HP := hid (hP.trans (by rw [e]))
      clear e hP hr hc hp
      have hzb := zig_bd (v - c) (by omega) (by omega)
      go_wp2_with (go_at_call 101; refine (fromSigned_any _ _ (by omega) (by omega)).mono ?_; rintro e w' ⟨rfl, rfl⟩)
      obtain ⟨bw, hbw⟩ : ∃ bw, bw = wr.alloc (Obj.cells #[Value.int IntKind.i64 v, Value.int IntKind.i64 n] 90) := ⟨_, rfl⟩
      have hown1 : bw.ownsRow w.heap.size 5 1 u3 pre.length (u8s pre) := by rw [hbw]; exact hown.alloc _
      have hbel1 : Below w.heap.size w bw := by rw [hbw]; exact hbel.alloc hsz _
      have hbs : bw.heap.size = wr.heap.size + 1 := by rw [hbw]; simp
      have hx : bw.heap[wr.heap.size]? = some (.cells #[.int .i64 v, .int .i64 n] 90 (0, 0)) := by rw [hbw]; exact heap_alloc_new _ _
      rw [← hbw]
      clear hbw hown hbel hcv hcn
      refine (bytes_any _ _ (by omega) (by omega)).mono ?_
      rintro e w2 ⟨v2, rfl, ho2, hb2⟩
      have hl1 := numB_len (zig (v - c))
      obtain ⟨A, hA⟩ : ∃ A, A = numB (zig (v - c)) := ⟨_, rfl⟩
      rw [← hA] at ho2 hl1 HP
      clear hA
      obtain ⟨g2, cap2, rfl, hg2, hg2', hcs2⟩ := owns_some ho2 (by omega)
      have hown2 := owns_below hown1 hb2
      have hbel2 := hbel1.trans (hb2.mono hbel1.size)
      have hy := (hb2.block wr.heap.size (by omega)).trans hx
      have hs2 := hb2.size
      clear hown1 hbel1 hx hb2 ho2 hzb
      have HY := hid hy
      clear hy
      go_wp2_with (at_builtin; refine wpList_append_own _ rfl (.tmp 19) (.tmp 21) 26 rfl w.heap.size 5 i0 (.int .u8 0) 1 1 Tryd.underlying26 hi hz0 hz1 hz2 rfl (by decide) _ _ _ rfl hown2 ⟨g2, 0, none⟩ A.length cap2 (u8s A) rfl (by rw [u8s_len, Nat.mul_one]) hcs2 (u8s_one A) (by unfold maxLen; omega) (by omega) (by omega) ?_)
      intro v3 w3 hown3 hgrow3 _
      have hbel3 : Below w.heap.size w w3 := hbel2.grown hgrow3 (by omega) (fun k hk => (hown2.lt k hk).1)
      have hz := (hgrow3.block wr.heap.size (by omega) (owns_other hown2 HY.out (by decide))).trans HY.out
      obtain ⟨hz0', hz1'⟩ := box_cells hz
      have hs3 := hgrow3.size
      clear hown2 hbel2 HY hgrow3 hcs2
      have HZ := hid hz
      clear hz
      go_wp2_with fail
      clear hz0' hz1'
      refine (bytes_any _ _ (by omega) (by omega)).mono ?_
      rintro e w4 ⟨v4, rfl, ho4, hb4⟩
      have hl4 := numB_len n
      obtain ⟨B, hB⟩ : ∃ B, B = numB n := ⟨_, rfl⟩
      rw [← hB] at ho4 hl4 HP
      clear hB
      obtain ⟨g4, cap4, rfl, hg4, hg4', hcs4⟩ := owns_some ho4 (by omega)
      have hown4 := owns_below hown3 hb4
      have hbel4 := hbel3.trans (hb4.mono hbel3.size)
      have hy := (hb4.block wr.heap.size (by omega)).trans HZ.out
      have hs4 := hb4.size
      clear hown3 hbel3 HZ hb4 ho4
      have HY := hid hy
      clear hy
      go_wp2_with (at_builtin; refine wpList_append_own _ rfl (.tmp 23) (.tmp 26) 26 rfl w.heap.size 5 i0 (.int .u8 0) 1 1 Tryd.underlying26 hi hz0 hz1 hz2 rfl (by decide) _ _ _ rfl hown4 ⟨g4, 0, none⟩ B.length cap4 (u8s B) rfl (by rw [u8s_len, Nat.mul_one]) hcs4 (u8s_one B) (by unfold maxLen; omega) (by omega) (by omega) ?_)
      intro v5 w5 hown5 hgrow5 _
      have hbel5 : Below w.heap.size w w5 := hbel4.grown hgrow5 (by omega) (fun k hk => (hown4.lt k hk).1)
      have hz := (hgrow5.block wr.heap.size (by omega) (owns_other hown4 HY.out (by decide))).trans HY.out
      obtain ⟨hz0', hz1'⟩ := box_cells hz
      clear hown4 hbel4 HY hgrow5 hcs4 hz hz1'
      have HO := hid hown5
      clear hown5
      go_wp2
      go_roundw
      case rel =>
        refine ⟨k + 1, pre ++ (A ++ B), v, rfl, by go_num, by omega, by omega, by omega, by rw [HP.out]; simp, by simp; omega, ?_, hbel5⟩
        rw [u8s_append, u8s_append, List.length_append, List.length_append, ← Nat.add_assoc]
        exact HO.out
      case measure => simp [intOf]; omega
    · have HP : Hid (putS l (-1) = pre ++ [0]) := by show _ = _; rw [hP, List.drop_of_length_le (by rw [HL.out]; omega)]; rfl
      clear hP
      go_wp2_with (at_builtin; refine wpList_append_own _ rfl (.tmp 31) (.tmp 32) 26 rfl w.heap.size 5 i0 (.int .u8 0) 1 1 Tryd.underlying26 hi hz0 hz1 hz2 rfl (by decide) _ _ _ rfl (hown.alloc _) ⟨wr.heap.size, 0, none⟩ 1 1 [.int .u8 0] rfl rfl (cell_one_new _ _ _) (fun u hu => by rw [List.mem_singleton.1 hu]; rfl) (by unfold maxLen; omega) (by omega) (by simp; omega) ?_)
      intro v5 w5 hown5 hgrow5 _
      have hbel5 : Below w.heap.size w w5 := (hbel.alloc hsz _).grown hgrow5 (by simp; omega) (fun k hk => (hown.lt k hk).1)
      have HO := hid hown5
      clear hown5 hgrow5 hown hbel
      go_wp2
      go_ret
      rw [HP.out]
      refine ⟨_, rfl, ?_, hbel5⟩
      rw [u8s_snoc, List.length_append]
      exact HO.out

end Go.Proofs.YtebjndcokkefhaaDoor
namespace Go.Proofs.YtebjndcokkefhaaDoor
open Go.RowKit

/-- The relation of table.At's loop. -/
def RelA (w : World) (l : List (Int × Int)) (pc0 : Int) (pc i : Value) (wr : World) : Prop :=
  ∃ (k : Nat) (q : Int), pc = .int .i64 q ∧ i = .int .i64 k ∧ k ≤ l.length ∧ 0 ≤ q ∧ q ≤ 9223372036854775807 ∧ atS l pc0 = atS (l.drop k) q ∧ Below w.heap.size w wr

end Go.Proofs.YtebjndcokkefhaaDoor
namespace Go.Proofs.YtebjndcokkefhaaDoor
open Go.RowKit

end Go.Proofs.YtebjndcokkefhaaDoor
namespace Go.Proofs.YtebjndcokkefhaaDoor
open Go.RowKit

def pickI (c n : Int) : Int := (if c < 0 then -(c + 1) else c) % n

set_option maxHeartbeats 400000 in
theorem pick_any (c n : Int) (w : World) (h1 : -9223372036854775808 ≤ c) (h2 : c ≤ 9223372036854775807) (h3 : 0 < n) (h4 : n ≤ 1000000000) :
    Calls Tryd.prog 12 #[.int .i64 c, .int .i64 n] w fun e w' => e = .returned (.int .i64 (pickI c n)) ∧ w' = w := by
  by_cases h : c < 0
  · obtain ⟨m, hm⟩ : ∃ m : Int, m = -(c + 1) := ⟨_, rfl⟩
    have hc : c = -(m + 1) := by omega
    clear hm
    subst hc
    have hm0 : 0 ≤ m := by omega
    have e1 : pickI (-(m + 1)) n = m % n := by unfold pickI; rw [if_pos h]; congr 1; omega
    have e2 : -(-(m + 1) + 1) = m := by omega
    rw [e1]
    go_enter Tryd.func12, Tryd.ntmps12
    go_wp2
    go_ret
    exact ⟨rfl, rfl⟩
  · have e1 : pickI c n = c % n := by unfold pickI; rw [if_neg h]
    have h0 : 0 ≤ c := by omega
    go_enter Tryd.func12, Tryd.ntmps12
    go_wp2
    go_ret
    exact ⟨rfl, rfl⟩

end Go.Proofs.YtebjndcokkefhaaDoor
namespace Go.Proofs.YtebjndcokkefhaaDoor
open Go.RowKit

def rollStep (acc : List (Int × Int)) (x : Int) : List (Int × Int) :=
  match acc.getLast? with
  | some p => if p.1 = x then acc.dropLast ++ [(x, p.2 + 1)] else acc ++ [(x, 1)]
  | none => acc ++ [(x, 1)]
def rollL (vs : List Int) : List (Int × Int) := vs.foldl rollStep []
theorem rollL_snoc (vs : List Int) (x : Int) : rollL (vs ++ [x]) = rollStep (rollL vs) x := by simp [rollL]
theorem rollStep_same (pre : List (Int × Int)) (x n : Int) : rollStep (pre ++ [(x, n)]) x = pre ++ [(x, n + 1)] := by simp [rollStep]
theorem rollStep_other (pre : List (Int × Int)) (x y n : Int) (h : y ≠ x) : rollStep (pre ++ [(y, n)]) x = pre ++ [(y, n)] ++ [(x, 1)] := by simp [rollStep, h]
theorem rollStep_nil (x : Int) : rollStep [] x = [(x, 1)] := rfl
/-- Behind at least one value: the last span has the last value. -/
theorem roll_last : ∀ (n : Nat) (vs : List Int), vs.length = n + 1 → ∃ pre m, rollL vs = pre ++ [(vs.getD n 0, m)] ∧ 1 ≤ m ∧ m ≤ (n : Int) + 1 ∧ pre.length ≤ n := by
  intro n
  induction n with
  | zero =>
    intro vs h
    match vs, h with
    | [x], _ => exact ⟨[], 1, by simp [rollL, rollStep], by omega, by omega, by simp⟩
  | succ n ih =>
    intro vs h
    obtain ⟨us, x, rfl⟩ : ∃ us x, vs = us ++ [x] := by
      have hne : vs ≠ [] := by intro e; simp [e] at h
      exact ⟨vs.dropLast, vs.getLast hne, (List.dropLast_concat_getLast hne).symm⟩
    have hl : us.length = n + 1 := by simpa using h
    obtain ⟨pre, m, e, h1, h2, h3⟩ := ih us hl
    have ex : (us ++ [x]).getD (n + 1) 0 = x := by simp [List.getD, hl]
    rw [rollL_snoc, e, ex]
    by_cases hx : us.getD n 0 = x
    · rw [hx]; exact ⟨pre, m + 1, rollStep_same pre x m, by omega, by omega, by omega⟩
    · refine ⟨pre ++ [(us.getD n 0, m)], 1, rollStep_other pre x _ m hx, by omega, by omega, by simp; omega⟩

theorem take_snoc (vs : List Int) (k : Nat) (h : k < vs.length) : vs.take (k + 1) = vs.take k ++ [vs.getD k 0] := by
  rw [List.take_succ_eq_append_getElem h]; simp [List.getD, h]

theorem below_draws {B : Nat} {a w : World} (h : Below B a w) (n : Nat) : Below B a (w.drewN n) := h.trans ⟨rfl, rfl, rfl, Nat.le_refl _, fun _ _ => rfl⟩
theorem two_newP (w : World) (x y : Value) (e : TypeId) : ∀ (j : Nat) (u : Value), [x, y][j]? = some u → (w.alloc (.cells #[x, y] e)).cell? ((⟨w.heap.size, 0, none⟩ : Addr).add j) = some u := by
  intro j u hj
  match j, hj with
  | 0, hj => simp at hj; subst hj; simp [Addr.add]
  | 1, hj => simp at hj; subst hj; simp [Addr.add]
theorem two_oneP (a b : Int) : ∀ u ∈ [Value.int .i64 a, .int .i64 b], u.oneCell' = true := by
  intro u hu; simp at hu; rcases hu with rfl | rfl <;> rfl
theorem flat_last (pre : List (Int × Int)) (y m : Int) (n : Nat) (h : n = pre.length) : (flat (pre ++ [(y, m)]))[n * 2 + 1]? = some (.int .i64 m) := by
  rw [flat_snoc, List.getElem?_append_right (by rw [flat_len]; omega), flat_len, h]
  simp
theorem flat_set (pre : List (Int × Int)) (y m : Int) (n : Nat) (h : n = pre.length) : (flat (pre ++ [(y, m)])).set (n * 2 + 1) (.int .i64 (m + 1)) = flat (pre ++ [(y, m + 1)]) := by
  rw [flat_snoc, flat_snoc, List.set_append_right _ _ (by rw [flat_len]; omega), flat_len, h]
  simp

/-- The relation of rolled's loop. -/
def RelR (w : World) (vs : List Int) (l i : Value) (wr : World) : Prop :=
  ∃ (k : Nat), i = .int .i64 k ∧ k ≤ vs.length ∧ wr.ownsRow w.heap.size 90 2 l (rollL (vs.take k)).length (flat (rollL (vs.take k))) ∧ Below w.heap.size w wr

end Go.Proofs.YtebjndcokkefhaaDoor
