/- A script's steps opened: out of the reading of what came in, how each step and its program lie in memory; of no program beyond the types' own tables. A program that came in opened: how it lies in memory, and that its numbers fit; of no program beyond the types' own tables. The contract of the statement's Budgets: true at whatever it is given. -/
import Derived.Test.YtebjndcokkefhaaDoorZ2
import Derived.Deep.Slices
import Derived.SizedLaws
import Derived.ProofKit
import Derived.Test.YtebjndcokkefhaaDoorZ43
import Derived.OpenShut
import Derived.Test.YtebjndcokkefhaaDoorZ44
import Derived.Test.YtebjndcokkefhaaDoorZ45
import Derived.Test.YtebjndcokkefhaaDoorZ49
namespace Go.Proofs.YtebjndcokkefhaaDoor
open Go.ChangeShapes Go.WideShapes Go.ChangeAt Go.RowKit

theorem weights_all {H : Type} {P : Program} {e : TypeId} : ∀ {l : List (DataW H)} {d : DataW H}, d ∈ l → ∀ k ∈ d.weights P e, k ∈ DataW.weightsAll P e l
  | [], _, h => by cases h
  | x :: r, d, h => by
    intro k hk
    unfold DataW.weightsAll
    rcases List.mem_cons.1 h with rfl | h
    · exact List.mem_append_left _ hk
    · exact List.mem_append_right _ (weights_all h k hk)

section
variable {H : Type} {enc : TypeId × Value → H} {P : Program} {w : World} {base : Nat} {spare : Nat → Bool} {held : Bool}

theorem weights_field {t : TypeId} {fs : Array Field} {parts : List (DataW H)} (ht : P.underlying t = some (.struct fs)) (hw : ∀ k ∈ (DataW.agg parts).weights P t, k ≤ reachBytes)
    {j : Nat} {f : Field} {d : DataW H} (hf : fs[j]? = some f) (hd : parts[j]? = some d) : ∀ k ∈ d.weights P f.type, k ≤ reachBytes := by
  intro k hk
  refine hw k ?_
  unfold DataW.weights
  rw [ht]
  exact DataW.weights_mem_each (j := j) (by simp [hf]) hd k hk

theorem spot_none {a : Addr} {v : Value} (h : w.cell? (a.add 0) = some v) : a.spot = none := by
  have := World.cell?_spot h
  unfold Addr.add at this
  split at this <;> simp_all

theorem add_none (b off i : Nat) : (⟨b, off, none⟩ : Addr).add i = ⟨b, off + i, none⟩ := by unfold Addr.add; split <;> simp_all

theorem open_RdL {α : Type} [Inhabited α] {t e : TypeId} {size : Nat} {R : World → List Value → α → Prop} {bnd : α → Prop} (ht : P.underlying t = some (.slice e)) (hs : P.cellsOf e = size) (hs0 : 0 < size)
    (hE : ∀ n cs x, DataW.trod enc P w base spare held n e cs = some x → (∀ k ∈ x.1.weights P e, k ≤ reachBytes) → ∃ o, R w cs o ∧ bnd o)
    {fuel : Nat} {cs : List Value} {x : DataW H × List MemPlace} (h : DataW.trod enc P w base spare held fuel t cs = some x) (hw : ∀ k ∈ x.1.weights P t, k ≤ reachBytes) :
    ∃ a cap l, cs = [.slice a l.length cap] ∧ RdL size R w a l.length cap l ∧ l.length * P.bytesOf e ≤ reachBytes ∧ ∀ o ∈ l, bnd o := by
  rcases Deep.open_slice ht h with ⟨rfl, rfl⟩ | ⟨a, len, cap, m, n, D, Pl, rfl, hb, hl, hm, hmm, rfl, hel⟩
  · exact ⟨none, 0, [], rfl, ⟨rfl, Nat.le_refl _, by unfold maxLen; omega, fun i x hx => by simp at hx⟩, by simp, fun o ho => by cases ho⟩
  · have hlm : len ≤ m := by rw [hmm]; split <;> omega
    unfold DataW.weights at hw
    rw [ht] at hw
    simp only [List.mem_cons, List.mem_append, List.length_map, List.length_range] at hw
    have hlen : len * P.bytesOf e ≤ reachBytes := Nat.le_trans (Nat.mul_le_mul_right _ (Nat.le_add_right _ _)) (hw _ (.inl rfl))
    have hall : ∀ i, i < len → ∃ o cs', (w.cells? base (a.add (i * P.cellsOf e)) (P.cellsOf e) = some cs') ∧ R w cs' o ∧ bnd o := by
      intro i hi
      obtain ⟨cs', h1, h2⟩ := hel i (by omega)
      obtain ⟨o, h3, h4⟩ := hE n cs' _ h2 (fun k hk => hw k (.inr (.inl (weights_all (List.mem_map.2 ⟨i, List.mem_range.2 hi, rfl⟩) k hk))))
      exact ⟨o, cs', h1, h3, h4⟩
    obtain ⟨f, hf⟩ := Deep.choose_lt hall
    refine ⟨some a, cap, (List.range len).map f, by simp, ⟨rfl, by simpa using hl, hm, fun i x hx => ?_⟩, by simpa using hlen, fun o ho => ?_⟩
    · have hi : i < len := by
        have := (List.getElem?_eq_some_iff.1 hx).1
        simpa using this
      obtain rfl : f i = x := by simpa [hi] using hx
      obtain ⟨cs', h1, h2, _⟩ := hf i hi
      rw [hs] at h1
      obtain ⟨_, g2, g3⟩ := World.cells?_some h1
      obtain ⟨b, off, spot⟩ := a
      have hcell : ∀ j v, cs'[j]? = some v → w.cell? (((⟨b, off, spot⟩ : Addr).add (i * size)).add j) = some v := by
        intro j v hv
        have hj := (List.getElem?_eq_some_iff.1 hv).1
        exact (g3 j (by omega)).trans hv
      have hsp : spot = none := by
        obtain ⟨cs0, k1, _, _⟩ := hf 0 (by omega)
        rw [hs] at k1
        obtain ⟨_, k2, k3⟩ := World.cells?_some k1
        have := (k3 0 hs0).trans (List.getElem?_eq_getElem (by omega))
        rw [Deep.add_add, Nat.zero_mul] at this
        exact spot_none this
      subst hsp
      refine ⟨b, off, cs', rfl, g2, fun j v hv => ?_, h2⟩
      have := hcell j v hv
      rw [add_none, add_none] at this
      exact this
    · obtain ⟨i, hi, rfl⟩ := List.mem_map.1 ho
      obtain ⟨_, _, _, h4⟩ := hf i (List.mem_range.1 hi)
      exact h4

end
end Go.Proofs.YtebjndcokkefhaaDoor
namespace Go.Proofs.YtebjndcokkefhaaDoor
open Go.ChangeShapes Go.WideShapes Go.ChangeAt Go.RowKit

instance : Inhabited OpD := ⟨⟨0, 0, 0, 0, 0, []⟩⟩
instance : Inhabited FnD := ⟨⟨⟨#[]⟩, ⟨#[]⟩, 0, 0, []⟩⟩

section
variable {H : Type} {enc : TypeId × Value → H} {P : Program} {w : World} {base : Nat} {spare : Nat → Bool} {held : Bool}

theorem open_RdL2 {α : Type} [Inhabited α] {t e : TypeId} {size : Nat} {R : World → List Value → α → Prop} {bnd : α → Prop} (ht : P.underlying t = some (.slice e)) (hs : P.cellsOf e = size) (hs0 : 0 < size)
    (hE : ∀ n cs x, DataW.trod enc P w base spare held n e cs = some x → ∃ o, R w cs o ∧ bnd o)
    {fuel : Nat} {cs : List Value} {x : DataW H × List MemPlace} (h : DataW.trod enc P w base spare held fuel t cs = some x) :
    ∃ a cap l, cs = [.slice a l.length cap] ∧ RdL size R w a l.length cap l ∧ ∀ o ∈ l, bnd o := by
  rcases Deep.open_slice ht h with ⟨rfl, rfl⟩ | ⟨a, len, cap, m, n, D, Pl, rfl, hb, hl, hm, hmm, rfl, hel⟩
  · exact ⟨none, 0, [], rfl, ⟨rfl, Nat.le_refl _, by unfold maxLen; omega, fun i x hx => by simp at hx⟩, fun o ho => by cases ho⟩
  · have hlm : len ≤ m := by rw [hmm]; split <;> omega
    have hall : ∀ i, i < len → ∃ o cs', (w.cells? base (a.add (i * P.cellsOf e)) (P.cellsOf e) = some cs') ∧ R w cs' o ∧ bnd o := by
      intro i hi
      obtain ⟨cs', h1, h2⟩ := hel i (by omega)
      obtain ⟨o, h3, h4⟩ := hE n cs' _ h2
      exact ⟨o, cs', h1, h3, h4⟩
    obtain ⟨f, hf⟩ := Deep.choose_lt hall
    refine ⟨some a, cap, (List.range len).map f, by simp, ⟨rfl, by simpa using hl, hm, fun i x hx => ?_⟩, fun o ho => ?_⟩
    · have hi : i < len := by
        have := (List.getElem?_eq_some_iff.1 hx).1
        simpa using this
      obtain rfl : f i = x := by simpa [hi] using hx
      obtain ⟨cs', h1, h2, _⟩ := hf i hi
      rw [hs] at h1
      obtain ⟨_, g2, g3⟩ := World.cells?_some h1
      obtain ⟨b, off, spot⟩ := a
      have hcell : ∀ j v, cs'[j]? = some v → w.cell? (((⟨b, off, spot⟩ : Addr).add (i * size)).add j) = some v := by
        intro j v hv
        have hj := (List.getElem?_eq_some_iff.1 hv).1
        exact (g3 j (by omega)).trans hv
      have hsp : spot = none := by
        obtain ⟨cs0, k1, _, _⟩ := hf 0 (by omega)
        rw [hs] at k1
        obtain ⟨_, k2, k3⟩ := World.cells?_some k1
        have := (k3 0 hs0).trans (List.getElem?_eq_getElem (by omega))
        rw [Deep.add_add, Nat.zero_mul] at this
        exact spot_none this
      subst hsp
      refine ⟨b, off, cs', rfl, g2, fun j v hv => ?_, h2⟩
      have := hcell j v hv
      rw [add_none, add_none] at this
      exact this
    · obtain ⟨i, hi, rfl⟩ := List.mem_map.1 ho
      obtain ⟨_, _, _, h4⟩ := hf i (List.mem_range.1 hi)
      exact h4

end
section
variable {H : Type} {enc : TypeId × Value → H} {w : World} {base : Nat} {spare : Nat → Bool} {held : Bool}

set_option maxRecDepth 100000 in
theorem open_Rd2 {fuel : Nat} {cs : List Value} {x : DataW H × List MemPlace} (h : DataW.trod enc Tryd.prog w base spare held fuel 41 cs = some x) :
    ∃ a cap l, cs = [.slice a l.length cap] ∧ Rd .i64 w a l.length cap l ∧ ∀ z ∈ l, R64 z := by
  rcases open_ints Tryd.underlying41 Tryd.underlying3 (by kernel_rfl) h with ⟨rfl, rfl⟩ | ⟨a, len, cap, zs, rfl, _, hl, hm, hz, rfl, hcell, hwz⟩
  · exact ⟨none, 0, [], rfl, ⟨rfl, Nat.le_refl _, by unfold maxLen; omega, fun i hi => by simp at hi⟩, fun z hz => by cases hz⟩
  · have hzl : len ≤ zs.length := by rw [hz]; split <;> omega
    have e : (zs.take len).length = len := by rw [List.length_take]; omega
    refine ⟨some a, cap, zs.take len, by rw [e], ⟨rfl, by rw [e]; exact hl, hm, fun i hi => ?_⟩, fun z hz => bounds_i64 (hwz z (List.mem_of_mem_take hz))⟩
    rw [e] at hi
    have hc := hcell i (by omega)
    have hc0 := hcell 0 (by omega)
    obtain ⟨b, off, spot⟩ := a
    have hspot : spot = none := spot_none hc0
    subst hspot
    refine ⟨b, off, rfl, ?_⟩
    rw [add_none] at hc
    rw [hc]
    simp [List.getD, hi]

theorem six {α : Type} {l : List α} (h : l.length = 6) : ∃ a b c d e f, l = [a, b, c, d, e, f] := by
  match l, h with
  | [a, b, c, d, e, f], _ => exact ⟨a, b, c, d, e, f, rfl⟩
theorem five {α : Type} {l : List α} (h : l.length = 5) : ∃ a b c d e, l = [a, b, c, d, e] := by
  match l, h with
  | [a, b, c, d, e], _ => exact ⟨a, b, c, d, e, rfl⟩
theorem one {α : Type} {l : List α} (h : l.length = 1) : ∃ a, l = [a] := by
  match l, h with
  | [a], _ => exact ⟨a, rfl⟩

theorem open_int9 {n : Nat} {c : Value} {x : DataW H × List MemPlace} (h : DataW.trod enc Tryd.prog w base spare held n 3 [c] = some x) : ∃ z, c = .int .i64 z ∧ R64 z := by
  obtain ⟨z, h0, _, hwf⟩ := DataW.trod_int Tryd.underlying3 h
  injection h0 with h0
  exact ⟨z, h0, bounds_i64 hwf⟩
theorem open_str9 {n : Nat} {c : Value} {x : DataW H × List MemPlace} (h : DataW.trod enc Tryd.prog w base spare held n 9 [c] = some x) : ∃ z : ByteArray, c = .string z ∧ z.size ≤ maxLen := by
  obtain ⟨z, h0, _, hs⟩ := DataW.trod_string Tryd.underlying9 h
  injection h0 with h0
  exact ⟨z, h0, hs⟩

theorem fld {P : Program} {n t off k : Nat} {cs : List Value} {y : Option (DataW H × List MemPlace)} (h : DataW.trod enc P w base spare held n t ((cs.drop off).take (P.cellsOf t)) = y) (hc : P.cellsOf t = k) :
    DataW.trod enc P w base spare held n t ((cs.drop off).take k) = y := by rw [← hc]; exact h

theorem Tryd.cellsInt : Tryd.prog.cellsOf 3 = 1 := by kernel_rfl
theorem Tryd.cellsStr : Tryd.prog.cellsOf 9 = 1 := by kernel_rfl
theorem Tryd.cellsInts : Tryd.prog.cellsOf 41 = 1 := by kernel_rfl
theorem Tryd.cellsOps : Tryd.prog.cellsOf 72 = 1 := by kernel_rfl
theorem Tryd.cellsFns : Tryd.prog.cellsOf 22 = 1 := by kernel_rfl
theorem Tryd.cellsProgram : Tryd.prog.cellsOf 24 = 1 := by kernel_rfl

set_option maxRecDepth 100000 in
theorem open_op2 {n : Nat} {cs : List Value} {x : DataW H × List MemPlace} (h : DataW.trod enc Tryd.prog w base spare held n 77 cs = some x) :
    ∃ o, RdOp w cs o ∧ RawOp o := by
  obtain ⟨xs, n, rfl, rfl, hl, hx, hf⟩ := DataW.trod_struct Tryd.underlying77 h
  obtain ⟨c0, c1, c2, c3, c4, c5, rfl⟩ := six (hl.trans (by kernel_rfl))
  obtain ⟨x0, x1, x2, x3, x4, x5, rfl⟩ := six (hx.trans rfl)
  have f0 : DataW.trod enc Tryd.prog w base spare held n 3 [c0] = some x0 := fld (off := 0) (hf 0 _ rfl) Tryd.cellsInt
  have f1 : DataW.trod enc Tryd.prog w base spare held n 3 [c1] = some x1 := fld (off := 1) (hf 1 _ rfl) Tryd.cellsInt
  have f2 : DataW.trod enc Tryd.prog w base spare held n 3 [c2] = some x2 := fld (off := 2) (hf 2 _ rfl) Tryd.cellsInt
  have f3 : DataW.trod enc Tryd.prog w base spare held n 3 [c3] = some x3 := fld (off := 3) (hf 3 _ rfl) Tryd.cellsInt
  have f4 : DataW.trod enc Tryd.prog w base spare held n 3 [c4] = some x4 := fld (off := 4) (hf 4 _ rfl) Tryd.cellsInt
  have f5 : DataW.trod enc Tryd.prog w base spare held n 41 [c5] = some x5 := fld (off := 5) (hf 5 _ rfl) Tryd.cellsInts
  obtain ⟨z0, rfl, b0⟩ := open_int9 f0
  obtain ⟨z1, rfl, b1⟩ := open_int9 f1
  obtain ⟨z2, rfl, b2⟩ := open_int9 f2
  obtain ⟨z3, rfl, b3⟩ := open_int9 f3
  obtain ⟨z4, rfl, b4⟩ := open_int9 f4
  obtain ⟨a, cap, l, e, hr, hb⟩ := open_Rd2 f5
  have e' : c5 = .slice a l.length cap := by simpa using e
  subst e'
  exact ⟨⟨z0, z1, z2, z3, z4, l⟩, ⟨a, cap, rfl, hr⟩, b0, b1, b2, b3, b4, hb⟩

set_option maxRecDepth 100000 in
theorem open_fn2 {n : Nat} {cs : List Value} {x : DataW H × List MemPlace} (h : DataW.trod enc Tryd.prog w base spare held n 74 cs = some x) :
    ∃ o, RdFn w cs o ∧ RawFn o := by
  obtain ⟨xs, n, rfl, rfl, hl, hx, hf⟩ := DataW.trod_struct Tryd.underlying74 h
  obtain ⟨c0, c1, c2, c3, c4, rfl⟩ := five (hl.trans (by kernel_rfl))
  obtain ⟨x0, x1, x2, x3, x4, rfl⟩ := five (hx.trans rfl)
  have f0 : DataW.trod enc Tryd.prog w base spare held n 9 [c0] = some x0 := fld (off := 0) (hf 0 _ rfl) Tryd.cellsStr
  have f1 : DataW.trod enc Tryd.prog w base spare held n 9 [c1] = some x1 := fld (off := 1) (hf 1 _ rfl) Tryd.cellsStr
  have f2 : DataW.trod enc Tryd.prog w base spare held n 3 [c2] = some x2 := fld (off := 2) (hf 2 _ rfl) Tryd.cellsInt
  have f3 : DataW.trod enc Tryd.prog w base spare held n 3 [c3] = some x3 := fld (off := 3) (hf 3 _ rfl) Tryd.cellsInt
  have f4 : DataW.trod enc Tryd.prog w base spare held n 72 [c4] = some x4 := fld (off := 4) (hf 4 _ rfl) Tryd.cellsOps
  obtain ⟨z0, rfl, h0⟩ := open_str9 f0
  obtain ⟨z1, rfl, h1⟩ := open_str9 f1
  obtain ⟨z2, rfl, b2⟩ := open_int9 f2
  obtain ⟨z3, rfl, b3⟩ := open_int9 f3
  obtain ⟨a, cap, l, e, hr, hall⟩ := open_RdL2 (size := 6) (R := RdOp) (bnd := RawOp) Tryd.underlying72 (by kernel_rfl) (by omega) (fun _ _ _ h => open_op2 h) f4
  have e' : c4 = .slice a l.length cap := by simpa using e
  subst e'
  exact ⟨⟨z0, z1, z2, z3, l⟩, ⟨a, cap, rfl, hr, h0, h1⟩, b2, b3, hall⟩

set_option maxRecDepth 100000 in
theorem open_program2 {n : Nat} {cs : List Value} {x : DataW H × List MemPlace} (h : DataW.trod enc Tryd.prog w base spare held n 24 cs = some x) :
    ∃ a cap l, cs = [.slice a l.length cap] ∧ RdP w a l.length cap l ∧ RawP l := by
  obtain ⟨xs, n, rfl, rfl, hl, hx, hf⟩ := DataW.trod_struct Tryd.underlying24 h
  obtain ⟨c0, rfl⟩ := one (hl.trans (by kernel_rfl))
  obtain ⟨x0, rfl⟩ := one (hx.trans rfl)
  have f0 : DataW.trod enc Tryd.prog w base spare held n 22 [c0] = some x0 := fld (off := 0) (hf 0 _ rfl) Tryd.cellsFns
  obtain ⟨a, cap, l, e, hr, hall⟩ := open_RdL2 (size := 5) (R := RdFn) (bnd := RawFn) Tryd.underlying22 (by kernel_rfl) (by omega) (fun _ _ _ h => open_fn2 h) f0
  exact ⟨a, cap, l, e, hr, hall⟩
end
end Go.Proofs.YtebjndcokkefhaaDoor
namespace Go.Proofs.YtebjndcokkefhaaDoor
open Go.RowKit

theorem layE_of {q : List FnD} (hc : chk q = (0, 0, 0)) {n : Int} (h0 : 0 ≤ n) (h1 : n ≤ 30) {cs : List CodeD} (h : codesD q n = some cs) : layE q n = 0 := by
  unfold layE
  rw [hc, if_neg (by simp), if_pos ⟨h0, h1⟩, h]
  rfl
theorem lineD_pos (f : FrameD) : 0 < (lineD f).length := by
  unfold lineD
  simp only [List.length_append, List.length_cons, List.length_nil]
  omega
theorem printD_nil {l : List FrameD} : printD l = [] ↔ l = [] := by
  cases l with
  | nil => simp [printD]
  | cons f r =>
    have := lineD_pos f
    have e : printD (f :: r) = lineD f ++ printD r := rfl
    rw [e]
    simp
    intro h
    rw [h] at this
    simp at this
theorem str_size (l : List Int) : (strOfNums l).size = l.length := by
  unfold strOfNums
  simp [ByteArray.size]
theorem str_empty (l : List Int) : (strOfNums l).toList.isEmpty = decide (l = []) := by
  have hs := str_size l
  have hl : (strOfNums l).toList.length = l.length := by rw [ByteArray.toList_eq, Array.length_toList]; exact hs
  cases l with
  | nil =>
    rw [List.length_nil] at hl
    rw [List.length_eq_zero_iff.1 hl]; rfl
  | cons x r =>
    rw [decide_eq_false (by simp)]
    cases hc : (strOfNums (x :: r)).toList with
    | nil => rw [hc] at hl; simp at hl
    | cons y t => rfl

set_option maxHeartbeats 8000000 in
set_option maxRecDepth 100000 in
theorem Budgets_any (pa : Option Addr) (pcap : Nat) (p : List FnD) (bud : Int) (ra : Option Addr) (rl rcap : Nat) (raw : List Int) (n : Int) (w : World) (hp : RdP w pa p.length pcap p) (hraw : RawP p) (hbud : R64 bud) (hr : Rd .i64 w ra rl rcap raw) (hrr : ∀ x ∈ raw, R64 x) (hn : R64 n) (hH : HeadAt w) (ht : Tab w) :
    Calls Tryd.prog 4 #[.agg #[.slice pa p.length pcap], .int .i64 bud, .slice ra rl rcap, .int .i64 n] w fun e w' => e = .returned (.bool true) ∧ Below w.heap.size w w' := by
  obtain ⟨wb, hwb⟩ : ∃ v, v = w.alloc (Obj.cells #[.slice pa p.length pcap] 24) := ⟨_, rfl⟩
  have hbb : Below w.heap.size w wb := by rw [hwb]; exact (Below.refl _ _).alloc (Nat.le_refl _) _
  have hbs : wb.heap.size = w.heap.size + 1 := by rw [hwb]; simp
  have HT := hid (whole_any pa pcap p wb (hp.below hbb) hraw)
  have HBB := hid hbb
  have HH := hid hH
  have HTB := hid ht
  have HR := hid hr
  have HRR := hid hrr
  have hrc1 := hr.hcap
  have hrc2 := hr.hmax
  unfold maxLen at hrc2
  generalize p.length = pl at *
  clear hp hbb hH hr hrr ht
  go_enter Tryd.func4, Tryd.ntmps4
  go_wp2_with fail
  rw [← hwb]
  clear hwb
  refine HT.out.mono ?_
  rintro e w1 ⟨hb1, q, qa, qcap, rfl, hchk, hrd⟩
  have hs1 := hb1.size
  have hbw1 : Below w.heap.size w w1 := HBB.out.trans (hb1.mono HBB.out.size)
  obtain ⟨wq, hwq⟩ : ∃ v, v = w1.alloc (Obj.cells #[.slice qa q.length qcap] 24) := ⟨_, rfl⟩
  have hbq : Below w1.heap.size w1 wq := by rw [hwq]; exact (Below.refl _ _).alloc (Nat.le_refl _) _
  have hsq : wq.heap.size = w1.heap.size + 1 := by rw [hwq]; simp
  have kq : wq.heap[w1.heap.size]? = some (.cells #[.slice qa q.length qcap] 24 (0, 0)) := by rw [hwq]; exact heap_new_at rfl
  have hrq : RdP wq qa q.length qcap q := hrd wq (fun b _ h => hbq.block b h)
  have hbwq : Below w.heap.size w wq := hbw1.trans (hbq.mono hbw1.size)
  have HG := hid (given_any qa qcap q ra rl rcap raw wq hrq (good_of hchk) (HR.out.below hbwq (Nat.le_refl _)) HRR.out)
  have hqc1 := hrq.2.1
  have hqc2 := hrq.2.2.1
  unfold maxLen at hqc2
  have HCK := hid hchk
  have HRQ := hid hrq
  have HBWQ := hid hbwq
  have HKQ := hid kq
  obtain ⟨ql, hql⟩ : ∃ v, v = q.length := ⟨_, rfl⟩
  rw [← hql] at HG HRQ HKQ hwq hqc1 ⊢
  have HQL := hid hql
  clear hb1 hrd hchk hbw1 hbq hrq hbwq kq hql HT HR HRR
  go_wp2_with fail
  rw [← hwq]
  clear hwq
  refine HG.out.mono ?_
  rintro e w2 ⟨hb2, args, aa, acap, rfl, hownA, hgv⟩
  have hs2 := hb2.size
  obtain ⟨a', c', ea, hra⟩ := rdI_owns hownA
  cases ea
  have hac1 := hra.hcap
  have hac2 := hra.hmax
  unfold maxLen at hac2
  have HRA := hid hra
  have HGV := hid hgv
  obtain ⟨al, hal⟩ : ∃ v, v = args.length := ⟨_, rfl⟩
  rw [← hal] at HRA hac1 ⊢
  have HAL := hid hal
  have kq2 := (hb2.block w1.heap.size (by omega)).trans HKQ.out
  have q2 : w2.cell? ⟨w1.heap.size, 0, none⟩ = some (.slice qa ql qcap) := by simp [World.cell?, kq2]
  have hbw2 : Below w.heap.size w w2 := HBWQ.out.trans (hb2.mono HBWQ.out.size)
  have HRQ2 := hid (HRQ.out.below hb2)
  have HB2 := hid (built_any qa qcap q bud w2 (by rw [← HQL.out]; exact HRQ2.out) hbud HCK.out (HH.out.below hbw2 (Nat.le_refl _)))
  rw [← HQL.out] at HB2
  have HPK := hid (pick_any n 2001 w2 hn.1 hn.2 (by omega) (by omega))
  have hpk := pickI_lt n (n := 2001) (by omega)
  generalize pickI n 2001 = kk at *
  obtain ⟨k, rfl⟩ : ∃ v : Nat, kk = (v : Int) := ⟨kk.toNat, by omega⟩
  have hk2 : k ≤ 2000 := by omega
  have HBW2 := hid hbw2
  have HKQ2 := hid kq2
  have lt12 : w1.heap.size < w2.heap.size := by omega
  clear hb2 hownA hra hgv hal hbw2 kq2 HG
  go_wp2_with fail
  refine HPK.out.mono ?_
  rintro e w' ⟨rfl, he⟩
  rw [he]
  clear he w'
  go_wp2_with fail
  refine HB2.out.mono ?_
  rintro e w3 ⟨hb3, c, cs, bv, hc0, hc30, hcs, rfl, -⟩
  have hs3 := hb3.size
  have hlay := layE_of HCK.out hc0 hc30 hcs
  have hlay0 := layE_zero HCK.out
  have HTR := hid (fun (b : Int) (hb : R64 b) (hl : layE q b = 0) (W : World) (hW : Below w2.heap.size w2 W) => uTrace_any qa qcap q b aa acap args k W (by rw [← HQL.out]; exact HRQ2.out.below hW) (by rw [← HAL.out]; exact HRA.out.below hW (Nat.le_refl _)) HCK.out HGV.out hk2 hb hl (HTB.out.below (HBW2.out.trans (hW.mono HBW2.out.size))))
  have hgt := given_true HGV.out
  have hwN : Wf q (runD q (begunD q args) k) := wf_run (good_of HCK.out) (wf_begun (good_of HCK.out) hgt.1 hgt.2) k
  have hends : Ends (runD q (begunD q args) k) := ends_run (ends_begun q args) k
  have hre : runE q args (k : Int) = 0 := by
    unfold runE
    rw [HCK.out, HGV.out]
    simp
    omega
  have hrs : runS q args (k : Int) = runD q (begunD q args) k := by
    unfold runS
    rw [if_pos hre]
    rfl
  have HRUN := hid (fun (W : World) (hW : Below w2.heap.size w2 W) => run_answers qa qcap q aa acap args (k : Int) W (by rw [← HQL.out]; exact HRQ2.out.below hW) (by rw [← HAL.out]; exact HRA.out.below hW (Nat.le_refl _)) ⟨by omega, by omega⟩)
  rw [← HQL.out, ← HAL.out, hre, hrs] at HRUN
  rw [← HQL.out, ← HAL.out] at HTR
  have HOK := hid (told_ok HCK.out hwN)
  have HFL : Hid ((toldD q (runD q (begunD q args) k)).length ≤ 20) := hid (by have := hwN.len; unfold toldD; simpa using this)
  have HEQ : Hid (decide (printD (toldD q (runD q (begunD q args) k)) = []) = ((runD q (begunD q args) k).status == 1)) := hid (by
    have e : (toldD q (runD q (begunD q args) k) = []) ↔ (runD q (begunD q args) k).live = [] := by unfold toldD; simp
    by_cases hst : (runD q (begunD q args) k).status = 1
    · rw [decide_eq_true (printD_nil.2 (e.2 (hends.1 hst))), hst]; rfl
    · rw [decide_eq_false (fun h => hends.2 hst (e.1 (printD_nil.1 h)))]
      symm
      simpa using hst)
  generalize toldD q (runD q (begunD q args) k) = fr at *
  generalize runD q (begunD q args) k = sN at *
  have HT1 := hid (HTR.out c ⟨by omega, by omega⟩ hlay w3 hb3)
  have kq3 := (hb3.block w1.heap.size (by omega)).trans HKQ2.out
  have q3 : w3.cell? ⟨w1.heap.size, 0, none⟩ = some (.slice qa ql qcap) := by simp [World.cell?, kq3]
  have HB23 := hid hb3
  have HLAY0 := hid hlay0
  clear hb3 hlay hlay0 hcs hgt hwN hends hre hrs kq3 HB2 HPK q2
  go_wp2_with fail
  refine HT1.out.mono ?_
  rintro e w4 ⟨rfl, hb4⟩
  have hs4 := hb4.size
  have hb24 : Below w2.heap.size w2 w4 := HB23.out.trans (hb4.mono hs3)
  have kq4 := (hb24.block w1.heap.size (by omega)).trans HKQ2.out
  have q4 : w4.cell? ⟨w1.heap.size, 0, none⟩ = some (.slice qa ql qcap) := by simp [World.cell?, kq4]
  have HT2 := hid (HTR.out 0 ⟨by omega, by omega⟩ HLAY0.out w4 hb24)
  have HB24 := hid hb24
  clear hb4 hb24 kq4 q3 HT1
  go_wp2_with fail
  refine HT2.out.mono ?_
  rintro e w5 ⟨rfl, hb5⟩
  have hs5 := hb5.size
  have hb25 : Below w2.heap.size w2 w5 := HB24.out.trans (hb5.mono (by omega))
  have kq5 := (hb25.block w1.heap.size (by omega)).trans HKQ2.out
  have q5 : w5.cell? ⟨w1.heap.size, 0, none⟩ = some (.slice qa ql qcap) := by simp [World.cell?, kq5]
  have HRN := hid (HRUN.out w5 hb25)
  have HB25 := hid hb25
  clear hb5 hb25 kq5 q4 HT2
  go_wp2_with fail
  refine HRN.out.mono ?_
  rintro e w6 ⟨fa, fcap, rfl, hfo, hb6⟩
  have hs6 := hb6.size
  obtain ⟨w7, hw7⟩ : ∃ v, v = w6.alloc (Obj.cells #[.int .i64 sN.status, .int .i64 sN.value, .slice fa fr.length fcap] 47) := ⟨_, rfl⟩
  have hb7 : Below w6.heap.size w6 w7 := by rw [hw7]; exact (Below.refl _ _).alloc (Nat.le_refl _) _
  have hs7 : w7.heap.size = w6.heap.size + 1 := by rw [hw7]; simp
  have k7 : w7.heap[w6.heap.size]? = some (.cells #[.int .i64 sN.status, .int .i64 sN.value, .slice fa fr.length fcap] 47 (0, 0)) := by rw [hw7]; exact heap_new_at rfl
  have hb27 : Below w2.heap.size w2 w7 := (HB25.out.trans (hb6.mono (by omega))).trans (hb7.mono (by omega))
  have hbw7 : Below w.heap.size w w7 := HBW2.out.trans (hb27.mono HBW2.out.size)
  have HPR := hid (uPrint_any fa fcap fr w7 (rdF_owns (ownsRow_below hfo hb7)) HOK.out HFL.out (HTB.out.below hbw7))
  have HK7 := hid k7
  have HBW7 := hid hbw7
  clear hfo hb6 hb7 k7 hb27 hbw7 q5 HRN
  go_wp2_with fail
  rw [← hw7]
  clear hw7
  refine HPR.out.mono ?_
  rintro e w8 ⟨rfl, hb8⟩
  have k8 := (hb8.block w6.heap.size (by omega)).trans HK7.out
  have z0 : w8.cell? ⟨w6.heap.size, 0, none⟩ = some (.int .i64 sN.status) := by simp [World.cell?, k8]
  have HF := hid (HBW7.out.trans (hb8.mono HBW7.out.size))
  clear hb8 k8 HPR
  go_wp2
  go_ret
  exact ⟨by rw [str_empty, HEQ.out]; simp, HF.out⟩
end Go.Proofs.YtebjndcokkefhaaDoor
