/- Contracts of number.Bytes, table.WellFormed and table.At: they give what the plain functions of this text give; nothing that was there is written. Laws on rows of a call's own that hold of any program: an append whose run is known, the capacity behind an append, a copy of elements of whatever size, stores of pairs. Programs as plain data, how they lie in memory, and what Check asks of them, as plain functions; nothing is claimed of the program here. Plain lemmas on the bytes of texts; nothing is claimed of the program here. Contracts of the reference's Word and within: they give the plain functions wordB and withB; nothing that was there is written. -/
import Derived.Test.YtffnfjkjlmlonaaGreatDoorZB1
import Derived.Deep.DeepMakeLenPanics
import Derived.Deep.QuietTactic
import Derived.BigQuiet
namespace Go.Proofs.YtffnfjkjlmlonaaGreatDoor
open Go.RowKit
def numF : Nat → Int → List Int
  | 0, n => [n]
  | f + 1, n => if n < 128 then [n] else (n % 128 + 128) :: numF f (n / 128)
def numB (n : Int) : List Int := numF 4 n
theorem numF_succ (f : Nat) (n : Int) : numF (f + 1) n = if n < 128 then [n] else (n % 128 + 128) :: numF f (n / 128) := rfl
theorem numF_small (f : Nat) (n : Int) (h : n < 128) : numF f n = [n] := by
  cases f with
  | zero => rfl
  | succ f => rw [numF_succ, if_pos h]
theorem numF_len : ∀ (f : Nat) (n : Int), 1 ≤ (numF f n).length ∧ (numF f n).length ≤ f + 1
  | 0, _ => by simp [numF]
  | f + 1, n => by
    rw [numF_succ]
    by_cases h : n < 128
    · rw [if_pos h]; simp
    · rw [if_neg h]; have := numF_len f (n / 128); simp; omega
theorem numB_len (n : Int) : 1 ≤ (numB n).length ∧ (numB n).length ≤ 5 := numF_len 4 n
def u8s (l : List Int) : List Value := l.map (Value.int .u8)
theorem u8s_snoc (l : List Int) (x : Int) : u8s (l ++ [x]) = u8s l ++ [.int .u8 x] := by simp [u8s]
theorem u8s_append (l m : List Int) : u8s (l ++ m) = u8s l ++ u8s m := by simp [u8s]
theorem Tryz.infoByte : (Tryz.prog.info? 5).map (fun i => (i.zero, i.size, i.bytes)) = some (some (.int .u8 0), 1, 1) := by kernel_rfl
def lim : Nat → Int
  | 0 => 128
  | f + 1 => 128 * lim f
theorem lim_step (f : Nat) (m : Int) (h : m < lim (f + 1)) : m / 128 < lim f := by
  have e : lim (f + 1) = 128 * lim f := rfl
  rw [e] at h; omega
/-- A slice of spans that is only read. -/
structure RdS (w : World) (a : Option Addr) (len cap : Nat) (l : List (Int × Int)) : Prop where
  hlen : l.length = len
  hcap : len ≤ cap
  hmax : cap ≤ maxLen
  cell : ∀ i, i < len → ∃ b off, a = some ⟨b, off, none⟩ ∧ w.cell? ⟨b, off + i * 2, none⟩ = some (.int .i64 (l.getD i (0, 0)).1) ∧ w.cell? ⟨b, off + i * 2 + 1, none⟩ = some (.int .i64 (l.getD i (0, 0)).2)
theorem RdS.open {w : World} {a : Option Addr} {len cap : Nat} {l : List (Int × Int)} (h : RdS w a len cap l) (hp : 0 < len) :
    ∃ b off, a = some ⟨b, off, none⟩ ∧ ∀ i, i < len → w.cell? ⟨b, off + i * 2, none⟩ = some (.int .i64 (l.getD i (0, 0)).1) ∧ w.cell? ⟨b, off + i * 2 + 1, none⟩ = some (.int .i64 (l.getD i (0, 0)).2) := by
  obtain ⟨b, off, rfl, _⟩ := h.cell 0 hp
  refine ⟨b, off, rfl, fun i hi => ?_⟩
  obtain ⟨b', off', e, hc⟩ := h.cell i hi
  cases e
  exact hc
theorem RdS.below {w w' : World} {a : Option Addr} {len cap : Nat} {l : List (Int × Int)} (h : RdS w a len cap l) {B : Nat} (hb : Below B w w') (hB : w.heap.size ≤ B) : RdS w' a len cap l := by
  refine ⟨h.hlen, h.hcap, h.hmax, fun i hi => ?_⟩
  obtain ⟨b, off, e, hc, hd⟩ := h.cell i hi
  exact ⟨b, off, e, (hb.cell (p := ⟨b, off + i * 2, none⟩) (by have := World.block_lt_of_cell? w _ hc; exact Nat.lt_of_lt_of_le this hB)).trans hc,
    (hb.cell (p := ⟨b, off + i * 2 + 1, none⟩) (by have := World.block_lt_of_cell? w _ hd; exact Nat.lt_of_lt_of_le this hB)).trans hd⟩
def wfS : List (Int × Int) → Int → Int → Bool
  | [], _, _ => true
  | p :: r, before, room => if isV p.1 = false ∨ p.1 = before then false else if p.2 < 1 ∨ room < p.2 then false else wfS r p.1 (room - p.2)
def wfT (l : List (Int × Int)) : Bool := wfS l (-1) 1000 && decide (0 < l.length)
end Go.Proofs.YtffnfjkjlmlonaaGreatDoor
namespace Go.Proofs.YtffnfjkjlmlonaaGreatDoor
open Go.RowKit
/-- copy into the head of a row of the call's own, elements of whatever size. -/
theorem run_copy_wide {P : Program} (w : World) (dT sT ty elem : TypeId) (size : Nat) (g dLen dCap : Nat) (a : Addr) (sLen sCap : Nat) (cur : Array Value) (t : TypeId) (cs : List Value)
    (hu : P.underlying dT = some (.slice elem)) (hs : (P.info? elem).map (·.size) = some size)
    (hg : w.heap[g]? = some (.cells cur t (0, 0))) (hn : cs.length = Nat.min sLen dLen * size)
    (hsrc : ∀ j v, cs[j]? = some v → w.cell? (a.add j) = some v) (hfit : cs.length ≤ cur.size) (h1 : ∀ v ∈ cs, v.oneCell' = true) :
    (Builtin.copy_ #[dT, sT] ty #[.slice (some ⟨g, 0, none⟩) dLen dCap, .slice (some a) sLen sCap]).run P w =
      .ok (goInt (Nat.min sLen dLen)) (w.setRow g (cs ++ cur.toList.drop cs.length).toArray) := by
  have hl := run_loadCells_list (P := P) w a cs hsrc
  have hst := run_storeCells_at P g 0 t cs 0 cur w hg (by simpa using hfit) h1
  cases hq : P.info? elem with
  | none => simp [hq] at hs
  | some i =>
    have hi : i.size = size := by simpa [hq] using hs
    rw [hn] at hl
    simp [Builtin.copy_, run_underlying hu, Builtin.lenOf, Builtin.firstCells, sizeOf, typeInfo, hq, hi, hl]
    simp at hst
    rw [hst]
    simp
theorem wpList_copy_wide {P : Program} {w : World} {ops : Array Oper} {rest : List Oper} {o : Oper} {a : Act} {Q : Exit → Act → World → Prop} (hgd : o.guard = none) (d s : Operand) (dT sT : TypeId)
    (ho : o.op = .call { callee := .builtin .copy, args := #[d, s], argTypes := #[dT, sT] }) (elem : TypeId) (size base : Nat) (hu : P.underlying dT = some (.slice elem)) (hsz : (P.info? elem).map (·.size) = some size)
    (g dLen dCap : Nat) (ad : Addr) (sLen sCap : Nat) (hd : a.eval d = .slice (some ⟨g, 0, none⟩) dLen dCap) (hs : a.eval s = .slice (some ad) sLen sCap)
    (xs : List Value) (hown : w.ownsRow base elem size (.slice (some ⟨g, 0, none⟩) dLen dCap) dLen xs) (cs : List Value) (hn : cs.length = sLen * size) (hle : sLen ≤ dLen)
    (hsrc : ∀ j v, cs[j]? = some v → w.cell? (ad.add j) = some v) (h1 : ∀ v ∈ cs, v.oneCell' = true)
    (h : ∀ w', w'.ownsRow base elem size (.slice (some ⟨g, 0, none⟩) dLen dCap) dLen (cs ++ xs.drop cs.length) → w.grownBy w' (some g) → wpList P ops Q rest (a.put o.dst (goInt sLen)) w') : wpList P ops Q (o :: rest) a w := by
  refine wpList_plain hgd fun K hK => ?_
  rcases hown.2 with ⟨h', _⟩ | ⟨g', cap', cur, h', hb, hg, hnc, hcm, hcs, htake⟩
  · simp at h'
  · simp only [Value.slice.injEq, Option.some.injEq, Addr.mk.injEq, and_true, true_and] at h'
    obtain ⟨rfl, rfl⟩ := h'
    have hmin : Nat.min sLen dLen = sLen := Nat.min_eq_left hle
    have hxl := hown.1
    have hcl : cs.length ≤ dLen * size := by rw [hn]; exact Nat.mul_le_mul_right _ hle
    have hdc : dLen * size ≤ dCap * size := Nat.mul_le_mul_right _ hnc
    have hrun := run_copy_wide (P := P) w dT sT o.type elem size g dLen dCap ad sLen sCap cur elem cs hu hsz hg (by rw [hmin]; exact hn) hsrc (by omega) h1
    rw [hmin] at hrun
    unfold Oper.wp
    simp [execOp, ho, resolve, invoke, builtin, hd, hs, hrun, Result.andThen]
    refine hK _ _ (h _ ⟨?_, .inr ⟨g, dCap, _, rfl, hb, setRow_heap w g cur _ elem _ hg, hnc, hcm, ?_, ?_⟩⟩ ⟨rfl, rfl, rfl, by simp, fun k _ hk => setRow_other w g k _ (fun e => hk (by simp [e]))⟩)
    · rw [List.length_append, List.length_drop]; omega
    · simp only [List.size_toArray, List.length_append, List.length_drop, Array.length_toList]; omega
    · rw [← htake]
      simp only [List.take_append, List.drop_take]
      rw [List.take_of_length_le hcl]
theorem flat_get' : ∀ (l : List (Int × Int)) (i : Nat), i < l.length → (flat l)[i * 2]? = some (.int .i64 (l.getD i (0, 0)).1) ∧ (flat l)[i * 2 + 1]? = some (.int .i64 (l.getD i (0, 0)).2)
  | [], i, h => by simp at h
  | p :: t, 0, _ => by simp [flat]
  | p :: t, i + 1, h => by
    have := flat_get' t i (by simpa using h)
    have e : flat (p :: t) = Value.int .i64 p.1 :: Value.int .i64 p.2 :: flat t := by simp [flat]
    have e1 : (i + 1) * 2 = i * 2 + 1 + 1 := by omega
    rw [e, e1]
    simpa using this
theorem RdS.src {w : World} {b off len cap : Nat} {l : List (Int × Int)} (h : RdS w (some ⟨b, off, none⟩) len cap l) : ∀ j v, (flat l)[j]? = some v → w.cell? ((⟨b, off, none⟩ : Addr).add j) = some v := by
  intro j v hj
  have hlt : j < (flat l).length := by
    rcases Nat.lt_or_ge j (flat l).length with h | h
    · exact h
    · rw [List.getElem?_eq_none h] at hj; cases hj
  rw [flat_len, h.hlen] at hlt
  have e1 : (⟨b, off, none⟩ : Addr).add j = ⟨b, off + j, none⟩ := by unfold Addr.add; split <;> simp_all
  rw [e1]
  obtain ⟨b', off', e, hc1, hc2⟩ := h.cell (j / 2) (by omega)
  cases e
  have hg := fun (i : Nat) (hi : i < l.length) => flat_get' l i hi
  rcases Nat.mod_two_eq_zero_or_one j with hm | hm
  · have ej : j = j / 2 * 2 := by omega
    rw [ej] at hj ⊢
    rw [(hg (j / 2) (by rw [h.hlen]; omega)).1] at hj
    cases hj
    exact hc1
  · have ej : j = j / 2 * 2 + 1 := by omega
    rw [ej] at hj ⊢
    rw [(hg (j / 2) (by rw [h.hlen]; omega)).2] at hj
    cases hj
    rw [← Nat.add_assoc]
    exact hc2
end Go.Proofs.YtffnfjkjlmlonaaGreatDoor
namespace Go.Proofs.YtffnfjkjlmlonaaGreatDoor
open Go.RowKit
structure OpD where
  code : Int
  line : Int
  a : Int
  b : Int
  c : Int
  args : List Int
structure FnD where
  name : ByteArray
  file : ByteArray
  params : Int
  locals : Int
  body : List OpD
/-- A slice of elements of so many cells each, that is only read. -/
def RdL {α : Type} (size : Nat) (R : World → List Value → α → Prop) (w : World) (a : Option Addr) (len cap : Nat) (l : List α) : Prop :=
  l.length = len ∧ len ≤ cap ∧ cap ≤ maxLen ∧ ∀ i x, l[i]? = some x → ∃ b off cs, a = some ⟨b, off, none⟩ ∧ cs.length = size ∧ (∀ j v, cs[j]? = some v → w.cell? ⟨b, off + i * size + j, none⟩ = some v) ∧ R w cs x
theorem RdL.below {α : Type} {size : Nat} {R : World → List Value → α → Prop} {w w' : World} {a : Option Addr} {len cap : Nat} {l : List α} (h : RdL size R w a len cap l) (hb : Below w.heap.size w w')
    (hR : ∀ cs x, R w cs x → R w' cs x) : RdL size R w' a len cap l := by
  obtain ⟨h1, h2, h3, h4⟩ := h
  refine ⟨h1, h2, h3, fun i x hx => ?_⟩
  obtain ⟨b, off, cs, e, hl, hc, hr⟩ := h4 i x hx
  refine ⟨b, off, cs, e, hl, fun j v hj => ?_, hR cs x hr⟩
  have := hc j v hj
  exact (hb.cell (p := ⟨b, off + i * size + j, none⟩) (World.block_lt_of_cell? w _ this)).trans this
def R64 (n : Int) : Prop := -9223372036854775808 ≤ n ∧ n ≤ 9223372036854775807
def RdOp (w : World) (cs : List Value) (o : OpD) : Prop :=
  ∃ a cap, cs = [.int .i64 o.code, .int .i64 o.line, .int .i64 o.a, .int .i64 o.b, .int .i64 o.c, .slice a o.args.length cap] ∧ Rd .i64 w a o.args.length cap o.args
def RdFn (w : World) (cs : List Value) (f : FnD) : Prop :=
  ∃ a cap, cs = [.string f.name, .string f.file, .int .i64 f.params, .int .i64 f.locals, .slice a f.body.length cap] ∧ RdL 6 RdOp w a f.body.length cap f.body ∧ f.name.size ≤ maxLen ∧ f.file.size ≤ maxLen
def RdP (w : World) (a : Option Addr) (len cap : Nat) (p : List FnD) : Prop := RdL 5 RdFn w a len cap p
theorem RdOp.below {w w' : World} {cs : List Value} {o : OpD} (h : RdOp w cs o) (hb : Below w.heap.size w w') : RdOp w' cs o := by
  obtain ⟨a, cap, e, hr⟩ := h
  exact ⟨a, cap, e, hr.below hb (Nat.le_refl _)⟩
theorem RdFn.below {w w' : World} {cs : List Value} {f : FnD} (h : RdFn w cs f) (hb : Below w.heap.size w w') : RdFn w' cs f := by
  obtain ⟨a, cap, e, hr, h1, h2⟩ := h
  exact ⟨a, cap, e, hr.below hb (fun _ _ h => h.below hb), h1, h2⟩
theorem RdP.below {w w' : World} {a : Option Addr} {len cap : Nat} {p : List FnD} (h : RdP w a len cap p) (hb : Below w.heap.size w w') : RdP w' a len cap p :=
  RdL.below h hb (fun _ _ h => h.below hb)
/-- The letters of a word. -/
def letterL : List Int := [97, 98, 99, 100, 101, 102, 103, 104, 105, 106, 107, 108, 109, 110, 111, 112, 113, 114, 115, 116, 117, 118, 119, 120, 121, 122, 48, 49, 50, 51, 52, 53, 54, 55, 56, 57, 46, 47]
def isLet (c : Int) : Bool := letterL.any (· == c)
def byteL (s : ByteArray) : List Int := s.data.toList.map fun c => (c.toNat : Int)
def wordB (s : ByteArray) : Bool := decide (1 ≤ s.size ∧ s.size ≤ 20) && (byteL s).all isLet
def withB (n e : Int) : Bool := decide (0 ≤ n ∧ n < e)
def eqB (a b : ByteArray) : Bool := a.toList == b.toList
end Go.Proofs.YtffnfjkjlmlonaaGreatDoor
namespace Go.Proofs.YtffnfjkjlmlonaaGreatDoor
open Go.RowKit
theorem byteL_len (s : ByteArray) : (byteL s).length = s.size := by unfold byteL; rw [List.length_map, Array.length_toList]; rfl
theorem byteL_take (s : ByteArray) (k : Nat) (h : k < s.size) : (byteL s).take (k + 1) = (byteL s).take k ++ [(s[k].toNat : Int)] := by
  have hl := byteL_len s
  rw [List.take_succ_eq_append_getElem (by omega)]
  congr 1
  simp [byteL]
  rfl
theorem below_drawn {B : Nat} {a w : World} (h : Below B a w) (n : Nat) : Below B a (w.drewN n) := h.trans ⟨rfl, rfl, rfl, Nat.le_refl _, fun _ _ => rfl⟩
end Go.Proofs.YtffnfjkjlmlonaaGreatDoor
namespace Go.Proofs.YtffnfjkjlmlonaaGreatDoor
open Go.RowKit
set_option maxHeartbeats 400000 in
theorem within_any (n e : Int) (w : World) :
    Calls Tryz.prog 139 #[.int .i64 n, .int .i64 e] w fun r w' => r = .returned (.bool (withB n e)) ∧ w' = w := by
  by_cases h : 0 ≤ n
  · have E : Hid (withB n e = decide (n < e)) := by show _ = _; simp [withB, h]
    go_enter Tryz.func139, Tryz.ntmps139
    go_wp2
    go_ret
    exact ⟨ret_bool E.out.symm, rfl⟩
  · have E : Hid (withB n e = false) := by show _ = _; simp [withB, h]
    have hd : decide (0 ≤ n) = false := by simpa using h
    go_enter Tryz.func139, Tryz.ntmps139
    go_wp2
    go_ret
    exact ⟨ret_bool E.out.symm, rfl⟩
theorem letter_eq : letterL = (#[97, 98, 99, 100, 101, 102, 103, 104, 105, 106, 107, 108, 109, 110, 111, 112, 113, 114, 115, 116, 117, 118, 119, 120, 121, 122, 48, 49, 50, 51, 52, 53, 54, 55, 56, 57, 46, 47] : Array UInt8).toList.map fun c => (c.toNat : Int) := by decide
theorem let_step (m : Nat) (hm : m < 38) (c : Int) (h : false = (letterL.take m).any fun x => x == c) (hh : m < (ByteArray.mk #[97, 98, 99, 100, 101, 102, 103, 104, 105, 106, 107, 108, 109, 110, 111, 112, 113, 114, 115, 116, 117, 118, 119, 120, 121, 122, 48, 49, 50, 51, 52, 53, 54, 55, 56, 57, 46, 47]).size) :
    ((((ByteArray.mk #[97, 98, 99, 100, 101, 102, 103, 104, 105, 106, 107, 108, 109, 110, 111, 112, 113, 114, 115, 116, 117, 118, 119, 120, 121, 122, 48, 49, 50, 51, 52, 53, 54, 55, 56, 57, 46, 47])[m]'hh).toNat : Int) == c) = (letterL.take (m + 1)).any fun x => x == c := by
  have hl : letterL.length = 38 := rfl
  rw [List.take_succ_eq_append_getElem (by omega), List.any_append, ← h, Bool.false_or]
  simp only [List.any_cons, List.any_nil, Bool.or_false]
  have e : letterL[m]? = some ((((ByteArray.mk #[97, 98, 99, 100, 101, 102, 103, 104, 105, 106, 107, 108, 109, 110, 111, 112, 113, 114, 115, 116, 117, 118, 119, 120, 121, 122, 48, 49, 50, 51, 52, 53, 54, 55, 56, 57, 46, 47])[m]'hh).toNat : Int)) := by
    rw [letter_eq, List.getElem?_map, Array.getElem?_toList]
    have : (#[97, 98, 99, 100, 101, 102, 103, 104, 105, 106, 107, 108, 109, 110, 111, 112, 113, 114, 115, 116, 117, 118, 119, 120, 121, 122, 48, 49, 50, 51, 52, 53, 54, 55, 56, 57, 46, 47] : Array UInt8)[m]? = some ((ByteArray.mk #[97, 98, 99, 100, 101, 102, 103, 104, 105, 106, 107, 108, 109, 110, 111, 112, 113, 114, 115, 116, 117, 118, 119, 120, 121, 122, 48, 49, 50, 51, 52, 53, 54, 55, 56, 57, 46, 47])[m]'hh) := Array.getElem?_eq_getElem hh
    rw [this]; rfl
  have e2 : letterL[m]'(by omega) = ((((ByteArray.mk #[97, 98, 99, 100, 101, 102, 103, 104, 105, 106, 107, 108, 109, 110, 111, 112, 113, 114, 115, 116, 117, 118, 119, 120, 121, 122, 48, 49, 50, 51, 52, 53, 54, 55, 56, 57, 46, 47])[m]'hh).toNat : Int)) := by
    have := List.getElem?_eq_getElem (l := letterL) (i := m) (by omega)
    rw [this] at e
    exact Option.some.inj e
  rw [e2]
theorem let_true (m : Nat) (c : Int) (h : true = (letterL.take m).any fun x => x == c) (hm : m < 38) : true = (letterL.take (m + 1)).any fun x => x == c := by
  have hl : letterL.length = 38 := rfl
  rw [List.take_succ_eq_append_getElem (by omega), List.any_append, ← h, Bool.true_or]
set_option maxHeartbeats 1000000 in
set_option maxRecDepth 100000 in
theorem word_any (s : ByteArray) (w : World) (hs : s.size ≤ maxLen) :
    Calls Tryz.prog 107 #[.string s] w fun e w' => e = .returned (.bool (wordB s)) ∧ Below w.heap.size w w' := by
  unfold maxLen at hs
  go_enter Tryz.func107, Tryz.ntmps107
  go_wp2
  go_loopw [3] (fun i wr => ∃ k : Nat, i = .int .i64 k ∧ k ≤ s.size ∧ k ≤ 21 ∧ ((byteL s).take k).all isLet = true ∧ Below w.heap.size w wr) (fun i _ => s.size - (intOf i).toNat)
  case atStart => exact ⟨0, rfl, by omega, by omega, rfl, Below.refl _ _⟩
  case round =>
    obtain ⟨k, rfl, hk, hk21, hall, hbel⟩ := hrel
    have HA := hid hall
    clear hall
    by_cases hgo : k < s.size ∧ k ≤ 20
    · obtain ⟨hlt, h20⟩ := hgo
      have hlt' : (k : Int) < (s.size : Int) := by omega
      go_wp2
      go_loopw [4, 5] (fun t j wr => ∃ (m : Nat), j = .int .i64 m ∧ m ≤ 38 ∧ t = .bool ((letterL.take m).any (· == (s[k].toNat : Int))) ∧ Below w.heap.size w wr) (fun _ j _ => 38 - (intOf j).toNat)
      case atStart => exact ⟨0, rfl, by omega, rfl, hbel⟩
      case round =>
        clear hbel
        obtain ⟨m, rfl, hm, rfl, hbel⟩ := hrel
        by_cases hm38 : m < 38
        · obtain ⟨t, ht⟩ : ∃ t, t = (letterL.take m).any (· == (s[k].toNat : Int)) := ⟨_, rfl⟩
          rw [← ht]
          have HT := hid ht
          clear ht
          cases t with
          | true =>
            go_wp2
            go_quiet (fail)
            go_wp2
            go_roundw
            case rel => exact ⟨m + 1, by go_num, by omega, congrArg Value.bool (let_true m _ HT.out hm38), hbel.trans ⟨rfl, rfl, rfl, Nat.le_refl _, fun _ _ => rfl⟩⟩
            case measure => simp [intOf]; omega
          | false =>
            go_wp2
            go_quiet (fail)
            go_wp2
            go_roundw
            case rel => exact ⟨m + 1, by go_num, by omega, congrArg Value.bool (let_step m hm38 _ HT.out _), hbel.trans ⟨rfl, rfl, rfl, Nat.le_refl _, fun _ _ => rfl⟩⟩
            case measure => simp [intOf]; omega
        · have hm' : m = 38 := by omega
          subst hm'
          have ht0 : letterL.take 38 = letterL := rfl
          rw [ht0]
          have hstep : ((byteL s).take (k + 1)).all isLet = (letterL.any fun x => x == (s[k].toNat : Int)) := by
            rw [byteL_take s k hlt, List.all_append, HA.out]; simp [isLet]
          obtain ⟨t, ht⟩ : ∃ t, t = letterL.any fun x => x == (s[k].toNat : Int) := ⟨_, rfl⟩
          rw [← ht] at hstep ⊢
          have HS := hid hstep
          clear ht hstep
          cases t with
          | true =>
            go_wp2
            go_roundw
            case rel => exact ⟨k + 1, by go_num, by omega, by omega, HS.out, hbel⟩
            case measure => simp [intOf]; omega
          | false =>
            have HF : Hid (wordB s = false) := by
              show _ = _
              unfold wordB
              have : (byteL s).all isLet = false := by
                have h1 : byteL s = (byteL s).take (k + 1) ++ (byteL s).drop (k + 1) := (List.take_append_drop _ _).symm
                rw [h1, List.all_append, HS.out]; rfl
              rw [this]; simp
            go_wp2
            go_ret
            exact ⟨ret_bool HF.out.symm, hbel⟩
    · by_cases hlt : k < s.size
      · have h21 : k = 21 := by omega
        subst h21
        have hlt' : ((21 : Nat) : Int) < (s.size : Int) := by omega
        have HF : Hid (wordB s = false) := by show _ = _; unfold wordB; rw [decide_eq_false (by omega)]; rfl
        have h1 : (1 : Int) ≤ (s.size : Int) := by omega
        have h2 : decide ((s.size : Int) ≤ 20) = false := by simp; omega
        go_wp2
        go_ret
        exact ⟨ret_bool HF.out.symm, hbel⟩
      · have hks : k = s.size := by omega
        have hal : (byteL s).all isLet = true := by have := HA.out; rw [hks, List.take_of_length_le (by rw [byteL_len]; omega)] at this; exact this
        have hge : decide ((k : Int) < (s.size : Int)) = false := by simp; omega
        by_cases h1 : 1 ≤ s.size
        · have HF : Hid (wordB s = decide ((s.size : Int) ≤ 20)) := by
            show _ = _; unfold wordB; rw [hal, Bool.and_true]; exact decide_eq_decide.2 ⟨fun h => by omega, fun h => ⟨h1, by omega⟩⟩
          have h1' : (1 : Int) ≤ (s.size : Int) := by omega
          clear hal hks
          go_wp2
          go_ret
          exact ⟨ret_bool HF.out.symm, hbel⟩
        · have HF : Hid (wordB s = false) := by show _ = _; unfold wordB; rw [decide_eq_false (by omega)]; rfl
          have h1' : decide ((1 : Int) ≤ (s.size : Int)) = false := by simp; omega
          clear hal hks
          go_wp2
          go_ret
          exact ⟨ret_bool HF.out.symm, hbel⟩
end Go.Proofs.YtffnfjkjlmlonaaGreatDoor
