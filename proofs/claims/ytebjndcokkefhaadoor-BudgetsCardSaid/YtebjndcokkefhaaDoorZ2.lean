/- Contracts of number.Bytes, table.WellFormed and table.At: they give what the plain functions of this text give; nothing that was there is written. Programs as plain data, how they lie in memory, and what Check asks of them, as plain functions; nothing is claimed of the program here. Plain lemmas on the bytes of texts; nothing is claimed of the program here. Contracts of the developers' word.mayStand, word.Is: the plain functions isLet and wordB; nothing that was there is written. -/
import Derived.Test.YtebjndcokkefhaaDoorZ1
import Derived.Deep.QuietTactic
import Derived.BigQuiet
namespace Go.Proofs.YtebjndcokkefhaaDoor
open Go.RowKit

def numF : Nat → Int → List Int
  | 0, n => [n]
  | f + 1, n => if n < 128 then [n] else (n % 128 + 128) :: numF f (n / 128)
def numB (n : Int) : List Int := numF 4 n
theorem numF_succ (f : Nat) (n : Int) : numF (f + 1) n = if n < 128 then [n] else (n % 128 + 128) :: numF f (n / 128) := rfl
theorem numF_small (f : Nat) (n : Int) (h : n < 128) : numF f n = [n] := by
  cases f with
  | zero => rfl
  | succ f => rw [numF_succ, if_pos h]
theorem numF_len : ∀ (f : Nat) (n : Int), 1 ≤ (numF f n).length ∧ (numF f n).length ≤ f + 1
  | 0, _ => by simp [numF]
  | f + 1, n => by
    rw [numF_succ]
    by_cases h : n < 128
    · rw [if_pos h]; simp
    · rw [if_neg h]; have := numF_len f (n / 128); simp; omega
theorem numB_len (n : Int) : 1 ≤ (numB n).length ∧ (numB n).length ≤ 5 := numF_len 4 n

def u8s (l : List Int) : List Value := l.map (Value.int .u8)
theorem u8s_snoc (l : List Int) (x : Int) : u8s (l ++ [x]) = u8s l ++ [.int .u8 x] := by simp [u8s]
theorem u8s_append (l m : List Int) : u8s (l ++ m) = u8s l ++ u8s m := by simp [u8s]
theorem u8s_len (l : List Int) : (u8s l).length = l.length := by simp [u8s]

theorem Tryd.infoByte : (Tryd.prog.info? 5).map (fun i => (i.zero, i.size, i.bytes)) = some (some (.int .u8 0), 1, 1) := by kernel_rfl

def lim : Nat → Int
  | 0 => 128
  | f + 1 => 128 * lim f
theorem lim_step (f : Nat) (m : Int) (h : m < lim (f + 1)) : m / 128 < lim f := by
  have e : lim (f + 1) = 128 * lim f := rfl
  rw [e] at h; omega

/-- The relation of number.Bytes's loop. -/
def RelB (w : World) (n : Int) (m l : Value) (wr : World) : Prop :=
  ∃ (pre : List Int) (f : Nat) (x : Int), m = .int .i64 x ∧ 0 ≤ x ∧ x ≤ 2147483647 ∧ numB n = pre ++ numF f x ∧ x < lim f ∧ pre.length + f = 4 ∧
    wr.ownsRow w.heap.size 5 1 l pre.length (u8s pre) ∧ Below w.heap.size w wr

set_option maxHeartbeats 1000000 in
set_option maxRecDepth 100000 in
theorem bytes_any (n : Int) (w : World) (h0 : 0 ≤ n) (h1 : n ≤ 2147483647) :
    Calls Tryd.prog 47 #[.int .i64 n] w fun e w' => ∃ v, e = .returned v ∧ w'.ownsRow w.heap.size 5 1 v (numB n).length (u8s (numB n)) ∧ Below w.heap.size w w' := by
  obtain ⟨i0, hi, hz0, hz1, hz2⟩ := info_parts Tryd.infoByte
  go_enter Tryd.func47, Tryd.ntmps47
  go_wp2
  go_loopw [0, 3] (fun m l wr => RelB w n m l wr) (fun m _ _ => (intOf m).toNat)
  case atStart => exact ⟨[], 4, n, rfl, h0, h1, rfl, by simp [lim]; omega, rfl, World.ownsRow_nil _ _ _ _, Below.refl _ _⟩
  case round =>
    obtain ⟨pre, f, x, rfl, hx0, hx1, hN, hlim, hpl, hown, hbel⟩ := hrel
    have HN := hid hN
    clear hN h0 h1
    have hsz := hbel.size
    by_cases hx : x < 128
    · have HF : Hid (numB n = pre ++ [x]) := by show _ = _; rw [HN.out, numF_small f x hx]
      clear HN hlim
      go_wp2_with (at_builtin; refine wpList_append_own _ rfl (.tmp 15) (.tmp 18) 26 rfl w.heap.size 5 i0 (.int .u8 0) 1 1 Tryd.underlying26 hi hz0 hz1 hz2 rfl (by decide) _ _ _ rfl (hown.alloc _) ⟨wr.heap.size, 0, none⟩ 1 1 [.int .u8 x] rfl rfl (cell_one_new _ _ _) (fun u hu => by rw [List.mem_singleton.1 hu]; rfl) (by unfold maxLen; omega) (by omega) (by simp; omega) ?_)
      intro v' w2 hown' hgrow _
      have hb2 : Below w.heap.size w w2 := (hbel.alloc hsz _).grown hgrow (by simp; omega) (fun k hk => (hown.lt k hk).1)
      have HO := hid hown'
      clear hown' hgrow hown hbel
      go_wp2
      go_ret
      refine ⟨_, rfl, ?_, hb2⟩
      rw [HF.out, u8s_snoc]
      simpa using HO.out
    · have hf : f ≠ 0 := by rintro rfl; simp [lim] at hlim; omega
      obtain ⟨f, rfl⟩ : ∃ f', f = f' + 1 := ⟨f - 1, by omega⟩
      have hl2 := lim_step f x hlim
      have HF : Hid (numB n = (pre ++ [x % 128 + 128]) ++ numF f (x / 128)) := by show _ = _; rw [HN.out, numF_succ, if_neg hx]; simp
      have HL := hid hl2
      clear HN hlim hl2
      obtain ⟨y, hy⟩ : ∃ y, y = x % 128 + 128 := ⟨_, rfl⟩
      have hy1 : 128 ≤ x % 128 + 128 := by omega
      have hy2 : x % 128 + 128 ≤ 255 := by omega
      clear hy
      go_wp2_with (at_builtin; refine wpList_append_own _ rfl (.tmp 6) (.tmp 11) 26 rfl w.heap.size 5 i0 (.int .u8 0) 1 1 Tryd.underlying26 hi hz0 hz1 hz2 rfl (by decide) _ _ _ rfl (hown.alloc _) ⟨wr.heap.size, 0, none⟩ 1 1 [.int .u8 (x % 128 + 128)] rfl rfl (cell_one_new _ _ _) (fun u hu => by rw [List.mem_singleton.1 hu]; rfl) (by unfold maxLen; omega) (by omega) (by simp; omega) ?_)
      intro v' w2 hown' hgrow _
      have hb2 : Below w.heap.size w w2 := (hbel.alloc hsz _).grown hgrow (by simp; omega) (fun k hk => (hown.lt k hk).1)
      have HO := hid hown'
      clear hown' hgrow hown hbel
      go_wp2
      go_roundw
      case rel =>
        have HO2 := HO.out
        exact ⟨pre ++ [x % 128 + 128], f, x / 128, rfl, by omega, by omega, HF.out, HL.out, by simp; omega, by rw [u8s_snoc]; simpa using HO2, hb2⟩
      case measure => simp [intOf]; omega

/-- A slice of spans that is only read. -/
structure RdS (w : World) (a : Option Addr) (len cap : Nat) (l : List (Int × Int)) : Prop where
  hlen : l.length = len
  hcap : len ≤ cap
  hmax : cap ≤ maxLen
  cell : ∀ i, i < len → ∃ b off, a = some ⟨b, off, none⟩ ∧ w.cell? ⟨b, off + i * 2, none⟩ = some (.int .i64 (l.getD i (0, 0)).1) ∧ w.cell? ⟨b, off + i * 2 + 1, none⟩ = some (.int .i64 (l.getD i (0, 0)).2)

theorem RdS.open {w : World} {a : Option Addr} {len cap : Nat} {l : List (Int × Int)} (h : RdS w a len cap l) (hp : 0 < len) :
    ∃ b off, a = some ⟨b, off, none⟩ ∧ ∀ i, i < len → w.cell? ⟨b, off + i * 2, none⟩ = some (.int .i64 (l.getD i (0, 0)).1) ∧ w.cell? ⟨b, off + i * 2 + 1, none⟩ = some (.int .i64 (l.getD i (0, 0)).2) := by
  obtain ⟨b, off, rfl, _⟩ := h.cell 0 hp
  refine ⟨b, off, rfl, fun i hi => ?_⟩
  obtain ⟨b', off', e, hc⟩ := h.cell i hi
  cases e
  exact hc

theorem RdS.below {w w' : World} {a : Option Addr} {len cap : Nat} {l : List (Int × Int)} (h : RdS w a len cap l) {B : Nat} (hb : Below B w w') (hB : w.heap.size ≤ B) : RdS w' a len cap l := by
  refine ⟨h.hlen, h.hcap, h.hmax, fun i hi => ?_⟩
  obtain ⟨b, off, e, hc, hd⟩ := h.cell i hi
  exact ⟨b, off, e, (hb.cell (p := ⟨b, off + i * 2, none⟩) (by have := World.block_lt_of_cell? w _ hc; exact Nat.lt_of_lt_of_le this hB)).trans hc,
    (hb.cell (p := ⟨b, off + i * 2 + 1, none⟩) (by have := World.block_lt_of_cell? w _ hd; exact Nat.lt_of_lt_of_le this hB)).trans hd⟩

def wfS : List (Int × Int) → Int → Int → Bool
  | [], _, _ => true
  | p :: r, before, room => if isV p.1 = false ∨ p.1 = before then false else if p.2 < 1 ∨ room < p.2 then false else wfS r p.1 (room - p.2)
def wfT (l : List (Int × Int)) : Bool := wfS l (-1) 1000 && decide (0 < l.length)

theorem wfS_drop (l : List (Int × Int)) (k : Nat) (b r : Int) (h : k < l.length) :
    wfS (l.drop k) b r = if isV (l.getD k (0, 0)).1 = false ∨ (l.getD k (0, 0)).1 = b then false else if (l.getD k (0, 0)).2 < 1 ∨ r < (l.getD k (0, 0)).2 then false else wfS (l.drop (k + 1)) (l.getD k (0, 0)).1 (r - (l.getD k (0, 0)).2) := by
  have e : l.drop k = l.getD k (0, 0) :: l.drop (k + 1) := by
    rw [List.drop_eq_getElem_cons h]; simp [List.getD, h]
  rw [e]; rfl

/-- The relation of table.WellFormed's loop. -/
def RelW (w : World) (l : List (Int × Int)) (before room i : Value) (wr : World) : Prop :=
  ∃ (k : Nat) (b r : Int), before = .int .i64 b ∧ room = .int .i64 r ∧ i = .int .i64 k ∧ k ≤ l.length ∧ 0 ≤ r ∧ r ≤ 1000 ∧ wfS l (-1) 1000 = wfS (l.drop k) b r ∧ Below w.heap.size w wr

set_option maxHeartbeats 1000000 in
set_option maxRecDepth 100000 in
theorem wellFormed_any (a : Option Addr) (len cap : Nat) (l : List (Int × Int)) (w : World) (hr : RdS w a len cap l) :
    Calls Tryd.prog 100 #[.slice a len cap] w fun e w' => e = .returned (.bool (wfT l)) ∧ Below w.heap.size w w' := by
  have HL := hid hr.hlen
  have hmax := hr.hmax
  have hcap := hr.hcap
  unfold maxLen at hmax
  go_enter Tryd.func100, Tryd.ntmps100
  go_wp2
  go_loopw [3, 4, 9] (fun b r i wr => RelW w l b r i wr) (fun _ _ i _ => len - (intOf i).toNat)
  case atStart => exact ⟨0, -1, 1000, rfl, rfl, rfl, by omega, by omega, by omega, rfl, Below.refl _ _⟩
  case round =>
    obtain ⟨k, b, r, rfl, rfl, rfl, hk, hr0, hr1, hW, hbel⟩ := hrel
    rw [HL.out] at hk
    have hsz := hbel.size
    by_cases hlt : k < len
    · obtain ⟨b0, off, rfl, hc⟩ := (hr.below hbel (Nat.le_refl _)).open (by omega)
      obtain ⟨hc1, hc2⟩ := hc k hlt
      have hlt' : k < l.length := by rw [HL.out]; exact hlt
      have hb0 := World.block_lt_of_cell? wr _ hc1
      have e := wfS_drop l k b r hlt'
      obtain ⟨⟨v, n⟩, hp⟩ : ∃ p, l.getD k (0, 0) = p := ⟨_, rfl⟩
      rw [hp] at hc1 hc2 e
      simp only at hc1 hc2 e hb0
      have HV0 := fun W => isValue_any v W
      have hwf : wfT l = (wfS (l.drop k) b r && true) := by unfold wfT; rw [hW]; simp; intro _; omega
      clear hr hc hp
      by_cases hv : isV v = false
      · rw [if_pos (.inl hv)] at e
        have HF : Hid (wfT l = false) := by show _ = _; rw [hwf, e]; rfl
        rw [hv] at HV0
        have HV := hid HV0
        clear e hW hv HV0 hwf
        go_wp2_with (go_at_call 115; refine (HV.out _).mono ?_; rintro e w' ⟨rfl, rfl⟩)
        go_ret
        exact ⟨ret_bool HF.out.symm, hbel.alloc hsz _⟩
      · have hv' : isV v = true := by simpa using hv
        rw [hv'] at HV0
        have HV := hid HV0
        clear HV0
        by_cases hvb : v = b
        · rw [if_pos (.inr hvb)] at e
          have HF : Hid (wfT l = false) := by show _ = _; rw [hwf, e]; rfl
          have hvb' : (v == b) = true := by simpa using hvb
          clear e hW hv hv' hvb hwf
          go_wp2_with (go_at_call 115; refine (HV.out _).mono ?_; rintro e w' ⟨rfl, rfl⟩)
          go_ret
          exact ⟨ret_bool HF.out.symm, hbel.alloc hsz _⟩
        · rw [if_neg (by rintro (h | h); exact hv h; exact hvb h)] at e
          have hvb' : (v == b) = false := by simpa using hvb
          by_cases hn1 : n < 1
          · rw [if_pos (.inl hn1)] at e
            have HF : Hid (wfT l = false) := by show _ = _; rw [hwf, e]; rfl
            clear e hW hv hv' hvb hwf
            go_wp2_with (go_at_call 115; refine (HV.out _).mono ?_; rintro e w' ⟨rfl, rfl⟩)
            go_ret
            exact ⟨ret_bool HF.out.symm, hbel.alloc hsz _⟩
          · have hn1' : decide (n < 1) = false := by simpa using hn1
            by_cases hn2 : r < n
            · rw [if_pos (.inr hn2)] at e
              have HF : Hid (wfT l = false) := by show _ = _; rw [hwf, e]; rfl
              clear e hW hv hv' hvb hwf
              go_wp2_with (go_at_call 115; refine (HV.out _).mono ?_; rintro e w' ⟨rfl, rfl⟩)
              go_ret
              exact ⟨ret_bool HF.out.symm, hbel.alloc hsz _⟩
            · have hn2' : decide (r < n) = false := by simpa using hn2
              rw [if_neg (by rintro (h | h); exact hn1 h; exact hn2 h)] at e
              have HF := hid (hW.trans e)
              have hnn : 1 ≤ n := by omega
              have hnr : n ≤ r := by omega
              clear e hW hv hv' hvb hwf
              go_wp2_with (go_at_call 115; refine (HV.out _).mono ?_; rintro e w' ⟨rfl, rfl⟩)
              go_roundw
              case rel => exact ⟨k + 1, v, r - n, rfl, rfl, by go_num, by omega, by omega, by omega, HF.out, hbel.alloc hsz _⟩
              case measure => simp [intOf]; omega
    · have hk' : k = len := by omega
      subst hk'
      have HF : Hid (wfT l = decide (0 < k)) := by
        show _ = _; unfold wfT; rw [hW, List.drop_of_length_le (by rw [HL.out]; omega), HL.out]; simp [wfS]
      clear hW
      go_wp2
      go_ret
      exact ⟨ret_bool (by rw [HF.out]), hbel⟩
end Go.Proofs.YtebjndcokkefhaaDoor
namespace Go.Proofs.YtebjndcokkefhaaDoor
open Go.RowKit

structure OpD where
  code : Int
  line : Int
  a : Int
  b : Int
  c : Int
  args : List Int
structure FnD where
  name : ByteArray
  file : ByteArray
  params : Int
  locals : Int
  body : List OpD

/-- A slice of elements of so many cells each, that is only read. -/
def RdL {α : Type} (size : Nat) (R : World → List Value → α → Prop) (w : World) (a : Option Addr) (len cap : Nat) (l : List α) : Prop :=
  l.length = len ∧ len ≤ cap ∧ cap ≤ maxLen ∧ ∀ i x, l[i]? = some x → ∃ b off cs, a = some ⟨b, off, none⟩ ∧ cs.length = size ∧ (∀ j v, cs[j]? = some v → w.cell? ⟨b, off + i * size + j, none⟩ = some v) ∧ R w cs x

theorem RdL.below {α : Type} {size : Nat} {R : World → List Value → α → Prop} {w w' : World} {a : Option Addr} {len cap : Nat} {l : List α} (h : RdL size R w a len cap l) (hb : Below w.heap.size w w')
    (hR : ∀ cs x, R w cs x → R w' cs x) : RdL size R w' a len cap l := by
  obtain ⟨h1, h2, h3, h4⟩ := h
  refine ⟨h1, h2, h3, fun i x hx => ?_⟩
  obtain ⟨b, off, cs, e, hl, hc, hr⟩ := h4 i x hx
  refine ⟨b, off, cs, e, hl, fun j v hj => ?_, hR cs x hr⟩
  have := hc j v hj
  exact (hb.cell (p := ⟨b, off + i * size + j, none⟩) (World.block_lt_of_cell? w _ this)).trans this

def R64 (n : Int) : Prop := -9223372036854775808 ≤ n ∧ n ≤ 9223372036854775807

def RdOp (w : World) (cs : List Value) (o : OpD) : Prop :=
  ∃ a cap, cs = [.int .i64 o.code, .int .i64 o.line, .int .i64 o.a, .int .i64 o.b, .int .i64 o.c, .slice a o.args.length cap] ∧ Rd .i64 w a o.args.length cap o.args
def RdFn (w : World) (cs : List Value) (f : FnD) : Prop :=
  ∃ a cap, cs = [.string f.name, .string f.file, .int .i64 f.params, .int .i64 f.locals, .slice a f.body.length cap] ∧ RdL 6 RdOp w a f.body.length cap f.body ∧ f.name.size ≤ maxLen ∧ f.file.size ≤ maxLen
def RdP (w : World) (a : Option Addr) (len cap : Nat) (p : List FnD) : Prop := RdL 5 RdFn w a len cap p

theorem RdOp.below {w w' : World} {cs : List Value} {o : OpD} (h : RdOp w cs o) (hb : Below w.heap.size w w') : RdOp w' cs o := by
  obtain ⟨a, cap, e, hr⟩ := h
  exact ⟨a, cap, e, hr.below hb (Nat.le_refl _)⟩
theorem RdFn.below {w w' : World} {cs : List Value} {f : FnD} (h : RdFn w cs f) (hb : Below w.heap.size w w') : RdFn w' cs f := by
  obtain ⟨a, cap, e, hr, h1, h2⟩ := h
  exact ⟨a, cap, e, hr.below hb (fun _ _ h => h.below hb), h1, h2⟩
theorem RdP.below {w w' : World} {a : Option Addr} {len cap : Nat} {p : List FnD} (h : RdP w a len cap p) (hb : Below w.heap.size w w') : RdP w' a len cap p :=
  RdL.below h hb (fun _ _ h => h.below hb)

/-- The letters of a word. -/
def letterL : List Int := [97, 98, 99, 100, 101, 102, 103, 104, 105, 106, 107, 108, 109, 110, 111, 112, 113, 114, 115, 116, 117, 118, 119, 120, 121, 122, 48, 49, 50, 51, 52, 53, 54, 55, 56, 57, 46, 47]
def isLet (c : Int) : Bool := letterL.any (· == c)
def byteL (s : ByteArray) : List Int := s.data.toList.map fun c => (c.toNat : Int)
def wordB (s : ByteArray) : Bool := decide (1 ≤ s.size ∧ s.size ≤ 20) && (byteL s).all isLet
def withB (n e : Int) : Bool := decide (0 ≤ n ∧ n < e)
def eqB (a b : ByteArray) : Bool := a.toList == b.toList

def headB (p : List FnD) (f : Nat) (x : FnD) : Bool :=
  !((p.take f).any fun y => eqB y.name x.name) && (decide (1 ≤ x.locals ∧ x.locals ≤ 8 ∧ 0 ≤ x.params ∧ x.params ≤ x.locals) && (wordB x.name && wordB x.file && decide (1 ≤ x.body.length ∧ x.body.length ≤ 30)))
def callB (p : List FnD) (locals : Int) (o : OpD) : Bool :=
  withB o.b p.length && (((p[o.b.toNat]?).map fun y => y.params == (o.args.length : Int)).getD false && o.args.all fun n => withB n locals)
def opB (p : List FnD) (x : FnD) (s : Nat) (o : OpD) : Bool :=
  if !(decide (1 ≤ o.line ∧ o.line ≤ 9999)) || !(withB o.a x.locals) then false else
  if o.code = 6 then true else
  if s + 1 = x.body.length then false else
  if o.code = 0 then withB o.b 1000 else
  if o.code = 1 ∨ o.code = 2 ∨ o.code = 3 then withB o.b x.locals && withB o.c x.locals else
  if o.code = 4 then withB o.b x.body.length else
  if o.code = 5 then callB p x.locals o else false

def chkB (p : List FnD) (x : FnD) (f : Nat) : List OpD → Nat → Option (Int × Int × Int)
  | [], _ => none
  | o :: r, s => if opB p x s o = true then chkB p x f r (s + 1) else some (7, (f : Int), (s : Int))
def chkF (p : List FnD) : List FnD → Nat → Int × Int × Int
  | [], _ => (0, 0, 0)
  | x :: r, f => if headB p f x = true then (match chkB p x f x.body 0 with | some e => e | none => chkF p r (f + 1)) else (6, (f : Int), 0)
/-- What Check answers. -/
def chk (p : List FnD) : Int × Int × Int := if p.length = 0 ∨ 12 < p.length then (5, 0, 0) else chkF p p 0
end Go.Proofs.YtebjndcokkefhaaDoor
namespace Go.Proofs.YtebjndcokkefhaaDoor
open Go.RowKit

theorem byteL_len (s : ByteArray) : (byteL s).length = s.size := by unfold byteL; rw [List.length_map, Array.length_toList]; rfl
theorem byteL_take (s : ByteArray) (k : Nat) (h : k < s.size) : (byteL s).take (k + 1) = (byteL s).take k ++ [(s[k].toNat : Int)] := by
  have hl := byteL_len s
  rw [List.take_succ_eq_append_getElem (by omega)]
  congr 1
  simp [byteL]
  rfl

theorem below_drawn {B : Nat} {a w : World} (h : Below B a w) (n : Nat) : Below B a (w.drewN n) := h.trans ⟨rfl, rfl, rfl, Nat.le_refl _, fun _ _ => rfl⟩
end Go.Proofs.YtebjndcokkefhaaDoor
namespace Go.Proofs.YtebjndcokkefhaaDoor
open Go.RowKit

theorem isLet_byte : ∀ n : Nat, n < 256 → isLet (n : Int) = (decide (97 ≤ n ∧ n ≤ 122) || (decide (48 ≤ n ∧ n ≤ 57) || (n == 46 || n == 47))) := by decide +kernel

set_option maxHeartbeats 1000000 in
set_option maxRecDepth 100000 in
theorem mayStand_any (n : Nat) (hn : n < 256) (w : World) :
    Calls Tryd.prog 99 #[.int .u8 (n : Int)] w fun r w' => r = .returned (.bool (isLet n)) ∧ w' = w := by
  have H := hid (isLet_byte n hn)
  obtain ⟨c, hc⟩ : ∃ c : Int, c = (n : Int) := ⟨_, rfl⟩
  by_cases h1 : 97 ≤ n
  · have g1 : (97 : Int) ≤ c := by omega
    by_cases h2 : n ≤ 122
    · have g2 : c ≤ 122 := by omega
      have HF : Hid (isLet c = true) := by show _ = _; rw [hc, H.out]; simp [h1, h2]
      rw [← hc]
      clear hc H
      go_enter Tryd.func99, Tryd.ntmps99
      go_wp2
      go_ret
      exact ⟨ret_bool HF.out.symm, rfl⟩
    · have g2 : decide (c ≤ 122) = false := by simp; omega
      have g3 : (48 : Int) ≤ c := by omega
      have g4 : decide (c ≤ 57) = false := by simp; omega
      have g5 : (c == 46) = false := by simp; omega
      have g6 : (c == 47) = false := by simp; omega
      have HF : Hid (isLet c = false) := by show _ = _; rw [hc, H.out]; simp; omega
      rw [← hc]
      clear hc H
      go_enter Tryd.func99, Tryd.ntmps99
      go_wp2
      go_ret
      exact ⟨ret_bool HF.out.symm, rfl⟩
  · have g1 : decide ((97 : Int) ≤ c) = false := by simp; omega
    by_cases h3 : 48 ≤ n
    · have g3 : (48 : Int) ≤ c := by omega
      have g5 : (c == 46) = false := by simp; omega
      have g6 : (c == 47) = false := by simp; omega
      by_cases h4 : n ≤ 57
      · have g4 : c ≤ 57 := by omega
        have HF : Hid (isLet c = true) := by show _ = _; rw [hc, H.out]; simp [h3, h4]
        rw [← hc]
        clear hc H
        go_enter Tryd.func99, Tryd.ntmps99
        go_wp2
        go_ret
        exact ⟨ret_bool HF.out.symm, rfl⟩
      · have g4 : decide (c ≤ 57) = false := by simp; omega
        have HF : Hid (isLet c = false) := by show _ = _; rw [hc, H.out]; simp; omega
        rw [← hc]
        clear hc H
        go_enter Tryd.func99, Tryd.ntmps99
        go_wp2
        go_ret
        exact ⟨ret_bool HF.out.symm, rfl⟩
    · have g3 : decide ((48 : Int) ≤ c) = false := by simp; omega
      by_cases h5 : n = 46
      · have g5 : (c == 46) = true := by simp; omega
        have HF : Hid (isLet c = true) := by show _ = _; rw [hc, H.out]; simp [h5]
        rw [← hc]
        clear hc H
        go_enter Tryd.func99, Tryd.ntmps99
        go_wp2
        go_ret
        exact ⟨ret_bool HF.out.symm, rfl⟩
      · have g5 : (c == 46) = false := by simp; omega
        have HF : Hid (isLet c = (c == 47)) := by
          show _ = _
          rw [hc, H.out]
          by_cases h : n = 47
          · subst h; decide
          · have : ((n : Int) == 47) = false := by simp; omega
            rw [this]; simp; omega
        rw [← hc]
        clear hc H
        go_enter Tryd.func99, Tryd.ntmps99
        go_wp2
        go_ret
        exact ⟨ret_bool HF.out.symm, rfl⟩

set_option maxHeartbeats 1000000 in
set_option maxRecDepth 100000 in
theorem isWord_any (s : ByteArray) (w : World) (hs : s.size ≤ maxLen) :
    Calls Tryd.prog 75 #[.string s] w fun e w' => e = .returned (.bool (wordB s)) ∧ Below w.heap.size w w' := by
  unfold maxLen at hs
  by_cases h1 : s.size < 1
  · have g1 : (s.size : Int) < 1 := by omega
    have HF : Hid (wordB s = false) := by show _ = _; unfold wordB; rw [decide_eq_false (by omega)]; rfl
    go_enter Tryd.func75, Tryd.ntmps75
    go_wp2
    go_ret
    exact ⟨ret_bool HF.out.symm, Below.refl _ _⟩
  · have g1 : decide ((s.size : Int) < 1) = false := by simp; omega
    by_cases h2 : 20 < s.size
    · have g2 : (20 : Int) < (s.size : Int) := by omega
      have HF : Hid (wordB s = false) := by show _ = _; unfold wordB; rw [decide_eq_false (by omega)]; rfl
      go_enter Tryd.func75, Tryd.ntmps75
      go_wp2
      go_ret
      exact ⟨ret_bool HF.out.symm, Below.refl _ _⟩
    · have g2 : decide ((20 : Int) < (s.size : Int)) = false := by simp; omega
      have HW : Hid (wordB s = (byteL s).all isLet) := by show _ = _; unfold wordB; rw [decide_eq_true (by omega)]; rfl
      go_enter Tryd.func75, Tryd.ntmps75
      go_wp2
      go_loopw [3] (fun i wr => ∃ k : Nat, i = .int .i64 k ∧ k ≤ s.size ∧ ((byteL s).take k).all isLet = true ∧ Below w.heap.size w wr) (fun i _ => s.size - (intOf i).toNat)
      case atStart => exact ⟨0, rfl, by omega, rfl, Below.refl _ _⟩
      case round =>
        obtain ⟨k, rfl, hk, hall, hbel⟩ := hrel
        have HA := hid hall
        clear hall
        by_cases hlt : k < s.size
        · have hlt' : (k : Int) < (s.size : Int) := by omega
          have hstep : ((byteL s).take (k + 1)).all isLet = isLet (s[k].toNat : Int) := by
            rw [byteL_take s k hlt, List.all_append, HA.out]; simp
          have HM := hid (fun W => mayStand_any s[k].toNat s[k].toNat_lt W)
          obtain ⟨t, ht⟩ : ∃ t, t = isLet (s[k].toNat : Int) := ⟨_, rfl⟩
          rw [← ht] at hstep HM
          have HS := hid hstep
          clear ht hstep
          cases t with
          | true =>
            go_wp2_with fail
            refine (HM.out _).mono ?_
            rintro e w' ⟨rfl, rfl⟩
            go_wp2
            go_roundw
            case rel => exact ⟨k + 1, by go_num, by omega, HS.out, hbel⟩
            case measure => simp [intOf]; omega
          | false =>
            have HF : Hid (wordB s = false) := by
              show _ = _
              rw [HW.out]
              have h1 : byteL s = (byteL s).take (k + 1) ++ (byteL s).drop (k + 1) := (List.take_append_drop _ _).symm
              rw [h1, List.all_append, HS.out]; rfl
            go_wp2_with fail
            refine (HM.out _).mono ?_
            rintro e w' ⟨rfl, rfl⟩
            go_wp2
            go_ret
            exact ⟨ret_bool HF.out.symm, hbel⟩
        · have hks : k = s.size := by omega
          have HF : Hid (wordB s = true) := by show _ = _; have := HA.out; rw [hks, List.take_of_length_le (by rw [byteL_len]; omega)] at this; rw [HW.out]; exact this
          have hge : decide ((k : Int) < (s.size : Int)) = false := by simp; omega
          clear hks
          go_wp2
          go_ret
          exact ⟨ret_bool HF.out.symm, hbel⟩

end Go.Proofs.YtebjndcokkefhaaDoor
