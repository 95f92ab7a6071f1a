/- A script's steps opened: out of the reading of what came in, how each step and its program lie in memory; of no program beyond the types' own tables. A program that came in opened: how it lies in memory, and that its numbers fit; of no program beyond the types' own tables. -/
import Derived.Test.YtebjndcokkefhaaDoorZ3
import Derived.Deep.Slices
import Derived.SizedLaws
import Derived.ProofKit
import Derived.Test.YtebjndcokkefhaaDoorZ43
import Derived.OpenShut
namespace Go.Proofs.YtebjndcokkefhaaDoor
open Go.ChangeShapes Go.WideShapes Go.ChangeAt Go.RowKit

theorem weights_all {H : Type} {P : Program} {e : TypeId} : ∀ {l : List (DataW H)} {d : DataW H}, d ∈ l → ∀ k ∈ d.weights P e, k ∈ DataW.weightsAll P e l
  | [], _, h => by cases h
  | x :: r, d, h => by
    intro k hk
    unfold DataW.weightsAll
    rcases List.mem_cons.1 h with rfl | h
    · exact List.mem_append_left _ hk
    · exact List.mem_append_right _ (weights_all h k hk)

section
variable {H : Type} {enc : TypeId × Value → H} {P : Program} {w : World} {base : Nat} {spare : Nat → Bool} {held : Bool}

theorem weights_field {t : TypeId} {fs : Array Field} {parts : List (DataW H)} (ht : P.underlying t = some (.struct fs)) (hw : ∀ k ∈ (DataW.agg parts).weights P t, k ≤ reachBytes)
    {j : Nat} {f : Field} {d : DataW H} (hf : fs[j]? = some f) (hd : parts[j]? = some d) : ∀ k ∈ d.weights P f.type, k ≤ reachBytes := by
  intro k hk
  refine hw k ?_
  unfold DataW.weights
  rw [ht]
  exact DataW.weights_mem_each (j := j) (by simp [hf]) hd k hk

theorem spot_none {a : Addr} {v : Value} (h : w.cell? (a.add 0) = some v) : a.spot = none := by
  have := World.cell?_spot h
  unfold Addr.add at this
  split at this <;> simp_all

theorem add_none (b off i : Nat) : (⟨b, off, none⟩ : Addr).add i = ⟨b, off + i, none⟩ := by unfold Addr.add; split <;> simp_all

theorem open_RdL {α : Type} [Inhabited α] {t e : TypeId} {size : Nat} {R : World → List Value → α → Prop} {bnd : α → Prop} (ht : P.underlying t = some (.slice e)) (hs : P.cellsOf e = size) (hs0 : 0 < size)
    (hE : ∀ n cs x, DataW.trod enc P w base spare held n e cs = some x → (∀ k ∈ x.1.weights P e, k ≤ reachBytes) → ∃ o, R w cs o ∧ bnd o)
    {fuel : Nat} {cs : List Value} {x : DataW H × List MemPlace} (h : DataW.trod enc P w base spare held fuel t cs = some x) (hw : ∀ k ∈ x.1.weights P t, k ≤ reachBytes) :
    ∃ a cap l, cs = [.slice a l.length cap] ∧ RdL size R w a l.length cap l ∧ l.length * P.bytesOf e ≤ reachBytes ∧ ∀ o ∈ l, bnd o := by
  rcases Deep.open_slice ht h with ⟨rfl, rfl⟩ | ⟨a, len, cap, m, n, D, Pl, rfl, hb, hl, hm, hmm, rfl, hel⟩
  · exact ⟨none, 0, [], rfl, ⟨rfl, Nat.le_refl _, by unfold maxLen; omega, fun i x hx => by simp at hx⟩, by simp, fun o ho => by cases ho⟩
  · have hlm : len ≤ m := by rw [hmm]; split <;> omega
    unfold DataW.weights at hw
    rw [ht] at hw
    simp only [List.mem_cons, List.mem_append, List.length_map, List.length_range] at hw
    have hlen : len * P.bytesOf e ≤ reachBytes := Nat.le_trans (Nat.mul_le_mul_right _ (Nat.le_add_right _ _)) (hw _ (.inl rfl))
    have hall : ∀ i, i < len → ∃ o cs', (w.cells? base (a.add (i * P.cellsOf e)) (P.cellsOf e) = some cs') ∧ R w cs' o ∧ bnd o := by
      intro i hi
      obtain ⟨cs', h1, h2⟩ := hel i (by omega)
      obtain ⟨o, h3, h4⟩ := hE n cs' _ h2 (fun k hk => hw k (.inr (.inl (weights_all (List.mem_map.2 ⟨i, List.mem_range.2 hi, rfl⟩) k hk))))
      exact ⟨o, cs', h1, h3, h4⟩
    obtain ⟨f, hf⟩ := Deep.choose_lt hall
    refine ⟨some a, cap, (List.range len).map f, by simp, ⟨rfl, by simpa using hl, hm, fun i x hx => ?_⟩, by simpa using hlen, fun o ho => ?_⟩
    · have hi : i < len := by
        have := (List.getElem?_eq_some_iff.1 hx).1
        simpa using this
      obtain rfl : f i = x := by simpa [hi] using hx
      obtain ⟨cs', h1, h2, _⟩ := hf i hi
      rw [hs] at h1
      obtain ⟨_, g2, g3⟩ := World.cells?_some h1
      obtain ⟨b, off, spot⟩ := a
      have hcell : ∀ j v, cs'[j]? = some v → w.cell? (((⟨b, off, spot⟩ : Addr).add (i * size)).add j) = some v := by
        intro j v hv
        have hj := (List.getElem?_eq_some_iff.1 hv).1
        exact (g3 j (by omega)).trans hv
      have hsp : spot = none := by
        obtain ⟨cs0, k1, _, _⟩ := hf 0 (by omega)
        rw [hs] at k1
        obtain ⟨_, k2, k3⟩ := World.cells?_some k1
        have := (k3 0 hs0).trans (List.getElem?_eq_getElem (by omega))
        rw [Deep.add_add, Nat.zero_mul] at this
        exact spot_none this
      subst hsp
      refine ⟨b, off, cs', rfl, g2, fun j v hv => ?_, h2⟩
      have := hcell j v hv
      rw [add_none, add_none] at this
      exact this
    · obtain ⟨i, hi, rfl⟩ := List.mem_map.1 ho
      obtain ⟨_, _, _, h4⟩ := hf i (List.mem_range.1 hi)
      exact h4

end
end Go.Proofs.YtebjndcokkefhaaDoor
namespace Go.Proofs.YtebjndcokkefhaaDoor
open Go.ChangeShapes Go.WideShapes Go.ChangeAt Go.RowKit

instance : Inhabited OpD := ⟨⟨0, 0, 0, 0, 0, []⟩⟩
instance : Inhabited FnD := ⟨⟨⟨#[]⟩, ⟨#[]⟩, 0, 0, []⟩⟩

section
variable {H : Type} {enc : TypeId × Value → H} {P : Program} {w : World} {base : Nat} {spare : Nat → Bool} {held : Bool}

theorem open_RdL2 {α : Type} [Inhabited α] {t e : TypeId} {size : Nat} {R : World → List Value → α → Prop} {bnd : α → Prop} (ht : P.underlying t = some (.slice e)) (hs : P.cellsOf e = size) (hs0 : 0 < size)
    (hE : ∀ n cs x, DataW.trod enc P w base spare held n e cs = some x → ∃ o, R w cs o ∧ bnd o)
    {fuel : Nat} {cs : List Value} {x : DataW H × List MemPlace} (h : DataW.trod enc P w base spare held fuel t cs = some x) :
    ∃ a cap l, cs = [.slice a l.length cap] ∧ RdL size R w a l.length cap l ∧ ∀ o ∈ l, bnd o := by
  rcases Deep.open_slice ht h with ⟨rfl, rfl⟩ | ⟨a, len, cap, m, n, D, Pl, rfl, hb, hl, hm, hmm, rfl, hel⟩
  · exact ⟨none, 0, [], rfl, ⟨rfl, Nat.le_refl _, by unfold maxLen; omega, fun i x hx => by simp at hx⟩, fun o ho => by cases ho⟩
  · have hlm : len ≤ m := by rw [hmm]; split <;> omega
    have hall : ∀ i, i < len → ∃ o cs', (w.cells? base (a.add (i * P.cellsOf e)) (P.cellsOf e) = some cs') ∧ R w cs' o ∧ bnd o := by
      intro i hi
      obtain ⟨cs', h1, h2⟩ := hel i (by omega)
      obtain ⟨o, h3, h4⟩ := hE n cs' _ h2
      exact ⟨o, cs', h1, h3, h4⟩
    obtain ⟨f, hf⟩ := Deep.choose_lt hall
    refine ⟨some a, cap, (List.range len).map f, by simp, ⟨rfl, by simpa using hl, hm, fun i x hx => ?_⟩, fun o ho => ?_⟩
    · have hi : i < len := by
        have := (List.getElem?_eq_some_iff.1 hx).1
        simpa using this
      obtain rfl : f i = x := by simpa [hi] using hx
      obtain ⟨cs', h1, h2, _⟩ := hf i hi
      rw [hs] at h1
      obtain ⟨_, g2, g3⟩ := World.cells?_some h1
      obtain ⟨b, off, spot⟩ := a
      have hcell : ∀ j v, cs'[j]? = some v → w.cell? (((⟨b, off, spot⟩ : Addr).add (i * size)).add j) = some v := by
        intro j v hv
        have hj := (List.getElem?_eq_some_iff.1 hv).1
        exact (g3 j (by omega)).trans hv
      have hsp : spot = none := by
        obtain ⟨cs0, k1, _, _⟩ := hf 0 (by omega)
        rw [hs] at k1
        obtain ⟨_, k2, k3⟩ := World.cells?_some k1
        have := (k3 0 hs0).trans (List.getElem?_eq_getElem (by omega))
        rw [Deep.add_add, Nat.zero_mul] at this
        exact spot_none this
      subst hsp
      refine ⟨b, off, cs', rfl, g2, fun j v hv => ?_, h2⟩
      have := hcell j v hv
      rw [add_none, add_none] at this
      exact this
    · obtain ⟨i, hi, rfl⟩ := List.mem_map.1 ho
      obtain ⟨_, _, _, h4⟩ := hf i (List.mem_range.1 hi)
      exact h4

end
section
variable {H : Type} {enc : TypeId × Value → H} {w : World} {base : Nat} {spare : Nat → Bool} {held : Bool}

set_option maxRecDepth 100000 in
theorem open_Rd2 {fuel : Nat} {cs : List Value} {x : DataW H × List MemPlace} (h : DataW.trod enc Tryd.prog w base spare held fuel 41 cs = some x) :
    ∃ a cap l, cs = [.slice a l.length cap] ∧ Rd .i64 w a l.length cap l ∧ ∀ z ∈ l, R64 z := by
  rcases open_ints Tryd.underlying41 Tryd.underlying3 (by kernel_rfl) h with ⟨rfl, rfl⟩ | ⟨a, len, cap, zs, rfl, _, hl, hm, hz, rfl, hcell, hwz⟩
  · exact ⟨none, 0, [], rfl, ⟨rfl, Nat.le_refl _, by unfold maxLen; omega, fun i hi => by simp at hi⟩, fun z hz => by cases hz⟩
  · have hzl : len ≤ zs.length := by rw [hz]; split <;> omega
    have e : (zs.take len).length = len := by rw [List.length_take]; omega
    refine ⟨some a, cap, zs.take len, by rw [e], ⟨rfl, by rw [e]; exact hl, hm, fun i hi => ?_⟩, fun z hz => bounds_i64 (hwz z (List.mem_of_mem_take hz))⟩
    rw [e] at hi
    have hc := hcell i (by omega)
    have hc0 := hcell 0 (by omega)
    obtain ⟨b, off, spot⟩ := a
    have hspot : spot = none := spot_none hc0
    subst hspot
    refine ⟨b, off, rfl, ?_⟩
    rw [add_none] at hc
    rw [hc]
    simp [List.getD, hi]

theorem six {α : Type} {l : List α} (h : l.length = 6) : ∃ a b c d e f, l = [a, b, c, d, e, f] := by
  match l, h with
  | [a, b, c, d, e, f], _ => exact ⟨a, b, c, d, e, f, rfl⟩
theorem five {α : Type} {l : List α} (h : l.length = 5) : ∃ a b c d e, l = [a, b, c, d, e] := by
  match l, h with
  | [a, b, c, d, e], _ => exact ⟨a, b, c, d, e, rfl⟩
theorem one {α : Type} {l : List α} (h : l.length = 1) : ∃ a, l = [a] := by
  match l, h with
  | [a], _ => exact ⟨a, rfl⟩

theorem open_int9 {n : Nat} {c : Value} {x : DataW H × List MemPlace} (h : DataW.trod enc Tryd.prog w base spare held n 3 [c] = some x) : ∃ z, c = .int .i64 z ∧ R64 z := by
  obtain ⟨z, h0, _, hwf⟩ := DataW.trod_int Tryd.underlying3 h
  injection h0 with h0
  exact ⟨z, h0, bounds_i64 hwf⟩
theorem open_str9 {n : Nat} {c : Value} {x : DataW H × List MemPlace} (h : DataW.trod enc Tryd.prog w base spare held n 9 [c] = some x) : ∃ z : ByteArray, c = .string z ∧ z.size ≤ maxLen := by
  obtain ⟨z, h0, _, hs⟩ := DataW.trod_string Tryd.underlying9 h
  injection h0 with h0
  exact ⟨z, h0, hs⟩

theorem fld {P : Program} {n t off k : Nat} {cs : List Value} {y : Option (DataW H × List MemPlace)} (h : DataW.trod enc P w base spare held n t ((cs.drop off).take (P.cellsOf t)) = y) (hc : P.cellsOf t = k) :
    DataW.trod enc P w base spare held n t ((cs.drop off).take k) = y := by rw [← hc]; exact h

theorem Tryd.cellsInt : Tryd.prog.cellsOf 3 = 1 := by kernel_rfl
theorem Tryd.cellsStr : Tryd.prog.cellsOf 9 = 1 := by kernel_rfl
theorem Tryd.cellsInts : Tryd.prog.cellsOf 41 = 1 := by kernel_rfl
theorem Tryd.cellsOps : Tryd.prog.cellsOf 72 = 1 := by kernel_rfl
theorem Tryd.cellsFns : Tryd.prog.cellsOf 22 = 1 := by kernel_rfl
theorem Tryd.cellsProgram : Tryd.prog.cellsOf 24 = 1 := by kernel_rfl

set_option maxRecDepth 100000 in
theorem open_op2 {n : Nat} {cs : List Value} {x : DataW H × List MemPlace} (h : DataW.trod enc Tryd.prog w base spare held n 77 cs = some x) :
    ∃ o, RdOp w cs o ∧ RawOp o := by
  obtain ⟨xs, n, rfl, rfl, hl, hx, hf⟩ := DataW.trod_struct Tryd.underlying77 h
  obtain ⟨c0, c1, c2, c3, c4, c5, rfl⟩ := six (hl.trans (by kernel_rfl))
  obtain ⟨x0, x1, x2, x3, x4, x5, rfl⟩ := six (hx.trans rfl)
  have f0 : DataW.trod enc Tryd.prog w base spare held n 3 [c0] = some x0 := fld (off := 0) (hf 0 _ rfl) Tryd.cellsInt
  have f1 : DataW.trod enc Tryd.prog w base spare held n 3 [c1] = some x1 := fld (off := 1) (hf 1 _ rfl) Tryd.cellsInt
  have f2 : DataW.trod enc Tryd.prog w base spare held n 3 [c2] = some x2 := fld (off := 2) (hf 2 _ rfl) Tryd.cellsInt
  have f3 : DataW.trod enc Tryd.prog w base spare held n 3 [c3] = some x3 := fld (off := 3) (hf 3 _ rfl) Tryd.cellsInt
  have f4 : DataW.trod enc Tryd.prog w base spare held n 3 [c4] = some x4 := fld (off := 4) (hf 4 _ rfl) Tryd.cellsInt
  have f5 : DataW.trod enc Tryd.prog w base spare held n 41 [c5] = some x5 := fld (off := 5) (hf 5 _ rfl) Tryd.cellsInts
  obtain ⟨z0, rfl, b0⟩ := open_int9 f0
  obtain ⟨z1, rfl, b1⟩ := open_int9 f1
  obtain ⟨z2, rfl, b2⟩ := open_int9 f2
  obtain ⟨z3, rfl, b3⟩ := open_int9 f3
  obtain ⟨z4, rfl, b4⟩ := open_int9 f4
  obtain ⟨a, cap, l, e, hr, hb⟩ := open_Rd2 f5
  have e' : c5 = .slice a l.length cap := by simpa using e
  subst e'
  exact ⟨⟨z0, z1, z2, z3, z4, l⟩, ⟨a, cap, rfl, hr⟩, b0, b1, b2, b3, b4, hb⟩

set_option maxRecDepth 100000 in
theorem open_fn2 {n : Nat} {cs : List Value} {x : DataW H × List MemPlace} (h : DataW.trod enc Tryd.prog w base spare held n 74 cs = some x) :
    ∃ o, RdFn w cs o ∧ RawFn o := by
  obtain ⟨xs, n, rfl, rfl, hl, hx, hf⟩ := DataW.trod_struct Tryd.underlying74 h
  obtain ⟨c0, c1, c2, c3, c4, rfl⟩ := five (hl.trans (by kernel_rfl))
  obtain ⟨x0, x1, x2, x3, x4, rfl⟩ := five (hx.trans rfl)
  have f0 : DataW.trod enc Tryd.prog w base spare held n 9 [c0] = some x0 := fld (off := 0) (hf 0 _ rfl) Tryd.cellsStr
  have f1 : DataW.trod enc Tryd.prog w base spare held n 9 [c1] = some x1 := fld (off := 1) (hf 1 _ rfl) Tryd.cellsStr
  have f2 : DataW.trod enc Tryd.prog w base spare held n 3 [c2] = some x2 := fld (off := 2) (hf 2 _ rfl) Tryd.cellsInt
  have f3 : DataW.trod enc Tryd.prog w base spare held n 3 [c3] = some x3 := fld (off := 3) (hf 3 _ rfl) Tryd.cellsInt
  have f4 : DataW.trod enc Tryd.prog w base spare held n 72 [c4] = some x4 := fld (off := 4) (hf 4 _ rfl) Tryd.cellsOps
  obtain ⟨z0, rfl, h0⟩ := open_str9 f0
  obtain ⟨z1, rfl, h1⟩ := open_str9 f1
  obtain ⟨z2, rfl, b2⟩ := open_int9 f2
  obtain ⟨z3, rfl, b3⟩ := open_int9 f3
  obtain ⟨a, cap, l, e, hr, hall⟩ := open_RdL2 (size := 6) (R := RdOp) (bnd := RawOp) Tryd.underlying72 (by kernel_rfl) (by omega) (fun _ _ _ h => open_op2 h) f4
  have e' : c4 = .slice a l.length cap := by simpa using e
  subst e'
  exact ⟨⟨z0, z1, z2, z3, l⟩, ⟨a, cap, rfl, hr, h0, h1⟩, b2, b3, hall⟩

set_option maxRecDepth 100000 in
theorem open_program2 {n : Nat} {cs : List Value} {x : DataW H × List MemPlace} (h : DataW.trod enc Tryd.prog w base spare held n 24 cs = some x) :
    ∃ a cap l, cs = [.slice a l.length cap] ∧ RdP w a l.length cap l ∧ RawP l := by
  obtain ⟨xs, n, rfl, rfl, hl, hx, hf⟩ := DataW.trod_struct Tryd.underlying24 h
  obtain ⟨c0, rfl⟩ := one (hl.trans (by kernel_rfl))
  obtain ⟨x0, rfl⟩ := one (hx.trans rfl)
  have f0 : DataW.trod enc Tryd.prog w base spare held n 22 [c0] = some x0 := fld (off := 0) (hf 0 _ rfl) Tryd.cellsFns
  obtain ⟨a, cap, l, e, hr, hall⟩ := open_RdL2 (size := 5) (R := RdFn) (bnd := RawFn) Tryd.underlying22 (by kernel_rfl) (by omega) (fun _ _ _ h => open_fn2 h) f0
  exact ⟨a, cap, l, e, hr, hall⟩
end
end Go.Proofs.YtebjndcokkefhaaDoor
