/- Contracts of the statement's own write and source at a Run, where lists of frames have come out, out of a contract of unfold.Run that is taken as a premise. A script's steps opened: out of the reading of what came in, how each step and its program lie in memory; of no program beyond the types' own tables. A script's steps opened: ops, functions, programs, steps. A script's steps opened once more: their numbers, bytes and frames. -/
import Derived.Test.YtffnfjkjlmlonaaGreatDoorZB38
import Derived.Test.YtffnfjkjlmlonaaGreatDoorZB15
import Derived.Test.YtffnfjkjlmlonaaGreatDoorZB2
import Derived.Deep.Slices
import Derived.SizedLaws
import Derived.ProofKit
import Derived.OpenShut
import Derived.Test.YtffnfjkjlmlonaaGreatDoorZB14
namespace Go.Proofs.YtffnfjkjlmlonaaGreatDoor
open Go.RowKit
set_option maxHeartbeats 1000000 in
set_option maxRecDepth 100000 in
theorem write_fs (g : Nat) (k n m : Int) (v3 v4 v5 v6 v7 v8 : Value) (w : World) (N : Nat) (h : FsInv g w N) (hm : R64 m) :
    Calls Tryz.prog 18 #[.pointer (some ⟨g, 0, none⟩), .agg #[.int .i64 k, .int .i64 n, .int .i64 m, v3, v4, v5, v6, v7, v8]] w fun e w' => e = .returned (.tuple #[]) ∧ Below w.heap.size w w' := by
  have hg := h.lt
  obtain ⟨v, rows, h1, -, -⟩ := h
  obtain ⟨-, c1, c3, -, -, -⟩ := fsCell h1
  obtain ⟨hm1, hm2⟩ := hm
  clear h1
  obtain ⟨t, ht⟩ : ∃ t, t = (m.tmod 2 == 0) := ⟨_, rfl⟩
  have ht' : (m.tmod 2 == 0) = t := ht.symm
  have ht2 : (m.tmod 2 != 0) = !t := by rw [ht]; rfl
  clear ht
  cases t with
  | true =>
    go_enter Tryz.func18, Tryz.ntmps18
    go_wp2
    go_end0
    exact ⟨rfl, (Below.refl _ _).alloc (Nat.le_refl _) _⟩
  | false =>
    go_enter Tryz.func18, Tryz.ntmps18
    go_wp2
    go_end0
    exact ⟨rfl, (Below.refl _ _).alloc (Nat.le_refl _) _⟩
set_option maxHeartbeats 1000000 in
set_option maxRecDepth 100000 in
theorem step_write_fs (g : Nat) (n m : Int) (v3 v4 v5 v6 v7 v8 : Value) (w : World) (N : Nat) (h : FsInv g w N) (hm : R64 m) :
    Calls Tryz.prog 9 #[.pointer (some ⟨g, 0, none⟩), .agg #[.int .i64 18, .int .i64 n, .int .i64 m, v3, v4, v5, v6, v7, v8]] w fun e w' => e = .returned (.bool true) ∧ Below w.heap.size w w' := by
  have HS := hid (fun (W : World) (hW : Below w.heap.size w W) => write_fs g 18 n m v3 v4 v5 v6 v7 v8 W N (h.below hW) hm)
  clear h hm
  go_enter Tryz.func9, Tryz.ntmps9
  go_wp2_with fail
  refine (HS.out _ ((Below.refl _ _).alloc (Nat.le_refl _) _)).mono ?_
  rintro e w1 ⟨rfl, hb⟩
  go_wp2
  go_ret
  exact ⟨rfl, ((Below.refl _ _).alloc (Nat.le_refl _) _).trans (hb.mono (by simp))⟩
end Go.Proofs.YtffnfjkjlmlonaaGreatDoor
namespace Go.Proofs.YtffnfjkjlmlonaaGreatDoor
open Go.ChangeShapes Go.WideShapes Go.ChangeAt Go.RowKit
theorem weights_all {H : Type} {P : Program} {e : TypeId} : ∀ {l : List (DataW H)} {d : DataW H}, d ∈ l → ∀ k ∈ d.weights P e, k ∈ DataW.weightsAll P e l
  | [], _, h => by cases h
  | x :: r, d, h => by
    intro k hk
    unfold DataW.weightsAll
    rcases List.mem_cons.1 h with rfl | h
    · exact List.mem_append_left _ hk
    · exact List.mem_append_right _ (weights_all h k hk)
section
variable {H : Type} {enc : TypeId × Value → H} {P : Program} {w : World} {base : Nat} {spare : Nat → Bool} {held : Bool}
theorem weights_field {t : TypeId} {fs : Array Field} {parts : List (DataW H)} (ht : P.underlying t = some (.struct fs)) (hw : ∀ k ∈ (DataW.agg parts).weights P t, k ≤ reachBytes)
    {j : Nat} {f : Field} {d : DataW H} (hf : fs[j]? = some f) (hd : parts[j]? = some d) : ∀ k ∈ d.weights P f.type, k ≤ reachBytes := by
  intro k hk
  refine hw k ?_
  unfold DataW.weights
  rw [ht]
  exact DataW.weights_mem_each (j := j) (by simp [hf]) hd k hk
theorem spot_none {a : Addr} {v : Value} (h : w.cell? (a.add 0) = some v) : a.spot = none := by
  have := World.cell?_spot h
  unfold Addr.add at this
  split at this <;> simp_all
theorem add_none (b off i : Nat) : (⟨b, off, none⟩ : Addr).add i = ⟨b, off + i, none⟩ := by unfold Addr.add; split <;> simp_all
theorem open_RdL {α : Type} [Inhabited α] {t e : TypeId} {size : Nat} {R : World → List Value → α → Prop} {bnd : α → Prop} (ht : P.underlying t = some (.slice e)) (hs : P.cellsOf e = size) (hs0 : 0 < size)
    (hE : ∀ n cs x, DataW.trod enc P w base spare held n e cs = some x → (∀ k ∈ x.1.weights P e, k ≤ reachBytes) → ∃ o, R w cs o ∧ bnd o)
    {fuel : Nat} {cs : List Value} {x : DataW H × List MemPlace} (h : DataW.trod enc P w base spare held fuel t cs = some x) (hw : ∀ k ∈ x.1.weights P t, k ≤ reachBytes) :
    ∃ a cap l, cs = [.slice a l.length cap] ∧ RdL size R w a l.length cap l ∧ l.length * P.bytesOf e ≤ reachBytes ∧ ∀ o ∈ l, bnd o := by
  rcases Deep.open_slice ht h with ⟨rfl, rfl⟩ | ⟨a, len, cap, m, n, D, Pl, rfl, hb, hl, hm, hmm, rfl, hel⟩
  · exact ⟨none, 0, [], rfl, ⟨rfl, Nat.le_refl _, by unfold maxLen; omega, fun i x hx => by simp at hx⟩, by simp, fun o ho => by cases ho⟩
  · have hlm : len ≤ m := by rw [hmm]; split <;> omega
    unfold DataW.weights at hw
    rw [ht] at hw
    simp only [List.mem_cons, List.mem_append, List.length_map, List.length_range] at hw
    have hlen : len * P.bytesOf e ≤ reachBytes := Nat.le_trans (Nat.mul_le_mul_right _ (Nat.le_add_right _ _)) (hw _ (.inl rfl))
    have hall : ∀ i, i < len → ∃ o cs', (w.cells? base (a.add (i * P.cellsOf e)) (P.cellsOf e) = some cs') ∧ R w cs' o ∧ bnd o := by
      intro i hi
      obtain ⟨cs', h1, h2⟩ := hel i (by omega)
      obtain ⟨o, h3, h4⟩ := hE n cs' _ h2 (fun k hk => hw k (.inr (.inl (weights_all (List.mem_map.2 ⟨i, List.mem_range.2 hi, rfl⟩) k hk))))
      exact ⟨o, cs', h1, h3, h4⟩
    obtain ⟨f, hf⟩ := Deep.choose_lt hall
    refine ⟨some a, cap, (List.range len).map f, by simp, ⟨rfl, by simpa using hl, hm, fun i x hx => ?_⟩, by simpa using hlen, fun o ho => ?_⟩
    · have hi : i < len := by
        have := (List.getElem?_eq_some_iff.1 hx).1
        simpa using this
      obtain rfl : f i = x := by simpa [hi] using hx
      obtain ⟨cs', h1, h2, _⟩ := hf i hi
      rw [hs] at h1
      obtain ⟨_, g2, g3⟩ := World.cells?_some h1
      obtain ⟨b, off, spot⟩ := a
      have hcell : ∀ j v, cs'[j]? = some v → w.cell? (((⟨b, off, spot⟩ : Addr).add (i * size)).add j) = some v := by
        intro j v hv
        have hj := (List.getElem?_eq_some_iff.1 hv).1
        exact (g3 j (by omega)).trans hv
      have hsp : spot = none := by
        obtain ⟨cs0, k1, _, _⟩ := hf 0 (by omega)
        rw [hs] at k1
        obtain ⟨_, k2, k3⟩ := World.cells?_some k1
        have := (k3 0 hs0).trans (List.getElem?_eq_getElem (by omega))
        rw [Deep.add_add, Nat.zero_mul] at this
        exact spot_none this
      subst hsp
      refine ⟨b, off, cs', rfl, g2, fun j v hv => ?_, h2⟩
      have := hcell j v hv
      rw [add_none, add_none] at this
      exact this
    · obtain ⟨i, hi, rfl⟩ := List.mem_map.1 ho
      obtain ⟨_, _, _, h4⟩ := hf i (List.mem_range.1 hi)
      exact h4
end
end Go.Proofs.YtffnfjkjlmlonaaGreatDoor
namespace Go.Proofs.YtffnfjkjlmlonaaGreatDoor
open Go.ChangeShapes Go.WideShapes Go.ChangeAt Go.RowKit
instance : Inhabited OpD := ⟨⟨0, 0, 0, 0, 0, []⟩⟩
instance : Inhabited FnD := ⟨⟨⟨#[]⟩, ⟨#[]⟩, 0, 0, []⟩⟩
/-- A step, as far as a Check looks at it. -/
structure StepD where
  k : Int
  n : Int
  m : Int
  l : List Int
  p : List FnD
instance : Inhabited StepD := ⟨⟨0, 0, 0, [], []⟩⟩
def FnFitO (x : FnD) : Prop := x.body.length ≤ 2199023255552 ∧ ∀ o ∈ x.body, o.args.length ≤ 17592186044416
abbrev slc (v : Option Addr × Nat × Nat) : Value := .slice v.1 v.2.1 v.2.2
def RdStep (w : World) (cs : List Value) (s : StepD) : Prop :=
  ∃ (a3 : Option Addr) (c3 : Nat) (v4 v5 v6 v7 : Option Addr × Nat × Nat) (a : Option Addr) (cap : Nat), cs = [.int .i64 s.k, .int .i64 s.n, .int .i64 s.m, .slice a3 s.l.length c3, slc v4, slc v5, slc v6, slc v7, .slice a s.p.length cap] ∧ R64 s.k ∧ R64 s.n ∧ R64 s.m ∧ Rd .i64 w a3 s.l.length c3 s.l ∧ s.l.length ≤ 17592186044416 ∧ RdP w a s.p.length cap s.p ∧ s.p.length ≤ 2199023255552 ∧ ∀ x ∈ s.p, FnFitO x
section
variable {H : Type} {enc : TypeId × Value → H} {w : World} {base : Nat} {spare : Nat → Bool} {held : Bool}
theorem five {α : Type} {l : List α} (h : l.length = 5) : ∃ a b c d e, l = [a, b, c, d, e] := by
  match l, h with
  | [a, b, c, d, e], _ => exact ⟨a, b, c, d, e, rfl⟩
theorem nine {α : Type} {l : List α} (h : l.length = 9) : ∃ a b c d e f g i j, l = [a, b, c, d, e, f, g, i, j] := by
  match l, h with
  | [a, b, c, d, e, f, g, i, j], _ => exact ⟨a, b, c, d, e, f, g, i, j, rfl⟩
theorem one {α : Type} {l : List α} (h : l.length = 1) : ∃ a, l = [a] := by
  match l, h with
  | [a], _ => exact ⟨a, rfl⟩
theorem open_int {n : Nat} {c : Value} {x : DataW H × List MemPlace} (h : DataW.trod enc Tryz.prog w base spare held n 3 [c] = some x) : ∃ z, c = .int .i64 z ∧ R64 z := by
  obtain ⟨z, h0, _, hwf⟩ := DataW.trod_int Tryz.underlying3 h
  injection h0 with h0
  exact ⟨z, h0, bounds_i64 hwf⟩
theorem open_str {n : Nat} {c : Value} {x : DataW H × List MemPlace} (h : DataW.trod enc Tryz.prog w base spare held n 9 [c] = some x) : ∃ z : ByteArray, c = .string z ∧ z.size ≤ maxLen := by
  obtain ⟨z, h0, _, hs⟩ := DataW.trod_string Tryz.underlying9 h
  injection h0 with h0
  exact ⟨z, h0, hs⟩
theorem open_slc {t e : TypeId} {n : Nat} {c : Value} {x : DataW H × List MemPlace} (ht : Tryz.prog.underlying t = some (.slice e)) (h : DataW.trod enc Tryz.prog w base spare held n t [c] = some x) : ∃ v, c = slc v := by
  rcases DataW.trod_slice ht h with ⟨e, _⟩ | ⟨a, len, cap, _, _, _, _, e, _⟩
  · injection e with e; exact ⟨(none, 0, 0), e⟩
  · injection e with e; exact ⟨(some a, len, cap), e⟩
theorem fld {P : Program} {n t off k : Nat} {cs : List Value} {y : Option (DataW H × List MemPlace)} (h : DataW.trod enc P w base spare held n t ((cs.drop off).take (P.cellsOf t)) = y) (hc : P.cellsOf t = k) :
    DataW.trod enc P w base spare held n t ((cs.drop off).take k) = y := by rw [← hc]; exact h
theorem Tryz.cellsInt : Tryz.prog.cellsOf 3 = 1 := by kernel_rfl
theorem Tryz.cellsStr : Tryz.prog.cellsOf 9 = 1 := by kernel_rfl
theorem Tryz.cellsInts : Tryz.prog.cellsOf 35 = 1 := by kernel_rfl
theorem Tryz.cellsProgram : Tryz.prog.cellsOf 44 = 1 := by kernel_rfl
end
end Go.Proofs.YtffnfjkjlmlonaaGreatDoor
namespace Go.Proofs.YtffnfjkjlmlonaaGreatDoor
open Go.ChangeShapes Go.WideShapes Go.ChangeAt Go.RowKit
instance : Inhabited FrameD := ⟨⟨⟨#[]⟩, ⟨#[]⟩, 0⟩⟩
/-- A step, as far as a Symbolize or a Print looks at it. -/
structure StepS where
  k : Int
  n : Int
  m : Int
  l : List Int
  s : List Int
  f : List FrameD
instance : Inhabited StepS := ⟨⟨0, 0, 0, [], [], []⟩⟩
def FrFit (f : FrameD) : Prop := f.func.size ≤ maxLen ∧ f.file.size ≤ maxLen
def RdStepS (w : World) (cs : List Value) (s : StepS) : Prop :=
  ∃ (a3 : Option Addr) (c3 : Nat) (a4 : Option Addr) (c4 : Nat) (v5 : Option Addr × Nat × Nat) (a6 : Option Addr) (c6 : Nat) (v7 v8 : Option Addr × Nat × Nat),
    cs = [.int .i64 s.k, .int .i64 s.n, .int .i64 s.m, .slice a3 s.l.length c3, .slice a4 s.s.length c4, slc v5, .slice a6 s.f.length c6, slc v7, slc v8] ∧ R64 s.k ∧ R64 s.n ∧ R64 s.m ∧
    (Rd .i64 w a3 s.l.length c3 s.l ∧ s.l.length ≤ 17592186044416 ∧ ∀ x ∈ s.l, R64 x) ∧
    (Rd .u8 w a4 s.s.length c4 s.s ∧ s.s.length ≤ 140737488355328 ∧ ∀ j, 0 ≤ s.s.getD j 0 ∧ s.s.getD j 0 ≤ 255) ∧
    (RdL 3 RdFrame w a6 s.f.length c6 s.f ∧ s.f.length ≤ 3518437208780 ∧ ∀ x ∈ s.f, FrFit x)
theorem RdStepS.below {w w' : World} {cs : List Value} {s : StepS} (h : RdStepS w cs s) (hb : Below w.heap.size w w') : RdStepS w' cs s := by
  obtain ⟨a3, c3, a4, c4, v5, a6, c6, v7, v8, e, h1, h2, h3, ⟨g1, g2, g3⟩, ⟨b1, b2, b3⟩, ⟨f1, f2, f3⟩⟩ := h
  exact ⟨a3, c3, a4, c4, v5, a6, c6, v7, v8, e, h1, h2, h3, ⟨g1.below hb (Nat.le_refl _), g2, g3⟩, ⟨b1.below hb (Nat.le_refl _), b2, b3⟩, ⟨f1.below hb (fun _ _ h => h), f2, f3⟩⟩
section
variable {H : Type} {enc : TypeId × Value → H} {w : World} {base : Nat} {spare : Nat → Bool} {held : Bool}
set_option maxRecDepth 100000 in
theorem open_RdI {fuel : Nat} {cs : List Value} {x : DataW H × List MemPlace} (h : DataW.trod enc Tryz.prog w base spare held fuel 35 cs = some x) (hw : ∀ k ∈ x.1.weights Tryz.prog 35, k ≤ reachBytes) :
    ∃ a cap l, cs = [.slice a l.length cap] ∧ Rd .i64 w a l.length cap l ∧ l.length ≤ 17592186044416 ∧ ∀ x ∈ l, R64 x := by
  rcases open_ints Tryz.underlying35 Tryz.underlying3 (by kernel_rfl) h with ⟨rfl, rfl⟩ | ⟨a, len, cap, zs, rfl, _, hl, hm, hz, rfl, hcell, hwz⟩
  · exact ⟨none, 0, [], rfl, ⟨rfl, Nat.le_refl _, by unfold maxLen; omega, fun i hi => by simp at hi⟩, by simp, fun x hx => by cases hx⟩
  · have hzl : len ≤ zs.length := by rw [hz]; split <;> omega
    unfold DataW.weights at hw
    rw [Tryz.underlying35] at hw
    simp only [List.mem_cons, List.mem_append] at hw
    have h8 : Tryz.prog.bytesOf 3 = 8 := by kernel_rfl
    have hlen := hw _ (.inl rfl)
    rw [h8] at hlen
    have hl2 : (lits (H := H) .i64 (zs.take len)).length = len := by unfold lits; rw [List.length_map, List.length_take]; omega
    rw [hl2] at hlen
    unfold reachBytes at hlen
    have e : (zs.take len).length = len := by rw [List.length_take]; omega
    refine ⟨some a, cap, zs.take len, by rw [e], ⟨rfl, by rw [e]; exact hl, hm, fun i hi => ?_⟩, by omega, fun x hx => bounds_i64 (hwz x (List.mem_of_mem_take hx))⟩
    rw [e] at hi
    have hc := hcell i (by omega)
    have hc0 := hcell 0 (by omega)
    obtain ⟨b, off, spot⟩ := a
    have hspot : spot = none := spot_none hc0
    subst hspot
    refine ⟨b, off, rfl, ?_⟩
    rw [add_none] at hc
    rw [hc]
    simp [List.getD, hi]
theorem bounds_u8 {n : Int} (h : (Lit.int .u8 n).wf = true) : 0 ≤ n ∧ n ≤ 255 := by
  simp [Lit.wf, IntKind.min, IntKind.max, IntKind.signed, IntKind.bits] at h
  omega
set_option maxRecDepth 100000 in
theorem open_RdB {fuel : Nat} {cs : List Value} {x : DataW H × List MemPlace} (h : DataW.trod enc Tryz.prog w base spare held fuel 36 cs = some x) (hw : ∀ k ∈ x.1.weights Tryz.prog 36, k ≤ reachBytes) :
    ∃ a cap l, cs = [.slice a l.length cap] ∧ Rd .u8 w a l.length cap l ∧ l.length ≤ 140737488355328 ∧ ∀ j, 0 ≤ l.getD j 0 ∧ l.getD j 0 ≤ 255 := by
  rcases open_ints Tryz.underlying36 Tryz.underlying5 (by kernel_rfl) h with ⟨rfl, rfl⟩ | ⟨a, len, cap, zs, rfl, _, hl, hm, hz, rfl, hcell, hwz⟩
  · exact ⟨none, 0, [], rfl, ⟨rfl, Nat.le_refl _, by unfold maxLen; omega, fun i hi => by simp at hi⟩, by simp, fun j => by simp⟩
  · have hzl : len ≤ zs.length := by rw [hz]; split <;> omega
    unfold DataW.weights at hw
    rw [Tryz.underlying36] at hw
    simp only [List.mem_cons, List.mem_append] at hw
    have h8 : Tryz.prog.bytesOf 5 = 1 := by kernel_rfl
    have hlen := hw _ (.inl rfl)
    rw [h8] at hlen
    have hl2 : (lits (H := H) .u8 (zs.take len)).length = len := by unfold lits; rw [List.length_map, List.length_take]; omega
    rw [hl2] at hlen
    unfold reachBytes at hlen
    have e : (zs.take len).length = len := by rw [List.length_take]; omega
    refine ⟨some a, cap, zs.take len, by rw [e], ⟨rfl, by rw [e]; exact hl, hm, fun i hi => ?_⟩, by omega, fun j => ?_⟩
    · rw [e] at hi
      have hc := hcell i (by omega)
      have hc0 := hcell 0 (by omega)
      obtain ⟨b, off, spot⟩ := a
      have hspot : spot = none := spot_none hc0
      subst hspot
      refine ⟨b, off, rfl, ?_⟩
      rw [add_none] at hc
      rw [hc]
      simp [List.getD, hi]
    · rcases Nat.lt_or_ge j (zs.take len).length with hj | hj
      · have hjj : (zs.take len).getD j 0 = (zs.take len)[j] := by simp only [List.getD, List.getElem?_eq_getElem hj]; rfl
        rw [hjj]
        exact bounds_u8 (hwz _ (List.mem_of_mem_take (List.getElem_mem hj)))
      · rw [show (zs.take len).getD j 0 = 0 by simp only [List.getD, List.getElem?_eq_none hj]; rfl]
        omega
theorem three {α : Type} {l : List α} (h : l.length = 3) : ∃ a b c, l = [a, b, c] := by
  match l, h with
  | [a, b, c], _ => exact ⟨a, b, c, rfl⟩
set_option maxRecDepth 100000 in
theorem open_frame {n : Nat} {cs : List Value} {x : DataW H × List MemPlace} (h : DataW.trod enc Tryz.prog w base spare held n 107 cs = some x) (_hw : ∀ k ∈ x.1.weights Tryz.prog 107, k ≤ reachBytes) :
    ∃ o, RdFrame w cs o ∧ FrFit o := by
  obtain ⟨xs, n, rfl, rfl, hl, hx, hf⟩ := DataW.trod_struct Tryz.underlying107 h
  obtain ⟨c0, c1, c2, rfl⟩ := three (hl.trans (by kernel_rfl))
  obtain ⟨x0, x1, x2, rfl⟩ := three (hx.trans rfl)
  have f0 : DataW.trod enc Tryz.prog w base spare held n 9 [c0] = some x0 := fld (off := 0) (hf 0 _ rfl) Tryz.cellsStr
  have f1 : DataW.trod enc Tryz.prog w base spare held n 9 [c1] = some x1 := fld (off := 1) (hf 1 _ rfl) Tryz.cellsStr
  have f2 : DataW.trod enc Tryz.prog w base spare held n 3 [c2] = some x2 := fld (off := 2) (hf 2 _ rfl) Tryz.cellsInt
  obtain ⟨z0, rfl, h0⟩ := open_str f0
  obtain ⟨z1, rfl, h1⟩ := open_str f1
  obtain ⟨z2, rfl, _⟩ := open_int f2
  exact ⟨⟨z0, z1, z2⟩, rfl, h0, h1⟩
set_option maxRecDepth 100000 in
theorem open_stepS {n : Nat} {cs : List Value} {x : DataW H × List MemPlace} (h : DataW.trod enc Tryz.prog w base spare held n 46 cs = some x) (hw : ∀ k ∈ x.1.weights Tryz.prog 46, k ≤ reachBytes) :
    ∃ s, RdStepS w cs s ∧ True := by
  obtain ⟨xs, n, rfl, rfl, hl, hx, hf⟩ := DataW.trod_struct Tryz.underlying46 h
  obtain ⟨c0, c1, c2, c3, c4, c5, c6, c7, c8, rfl⟩ := nine (hl.trans (by kernel_rfl))
  obtain ⟨x0, x1, x2, x3, x4, x5, x6, x7, x8, rfl⟩ := nine (hx.trans rfl)
  have f0 : DataW.trod enc Tryz.prog w base spare held n 3 [c0] = some x0 := fld (off := 0) (hf 0 _ rfl) Tryz.cellsInt
  have f1 : DataW.trod enc Tryz.prog w base spare held n 3 [c1] = some x1 := fld (off := 1) (hf 1 _ rfl) Tryz.cellsInt
  have f2 : DataW.trod enc Tryz.prog w base spare held n 3 [c2] = some x2 := fld (off := 2) (hf 2 _ rfl) Tryz.cellsInt
  have f3 : DataW.trod enc Tryz.prog w base spare held n 35 [c3] = some x3 := fld (off := 3) (hf 3 _ rfl) Tryz.cellsInts
  have f4 : DataW.trod enc Tryz.prog w base spare held n 36 [c4] = some x4 := fld (off := 4) (k := 1) (hf 4 _ rfl) (by kernel_rfl)
  have f5 : DataW.trod enc Tryz.prog w base spare held n 37 [c5] = some x5 := fld (off := 5) (k := 1) (hf 5 _ rfl) (by kernel_rfl)
  have f6 : DataW.trod enc Tryz.prog w base spare held n 38 [c6] = some x6 := fld (off := 6) (k := 1) (hf 6 _ rfl) (by kernel_rfl)
  have f7 : DataW.trod enc Tryz.prog w base spare held n 41 [c7] = some x7 := fld (off := 7) (k := 1) (hf 7 _ rfl) (by kernel_rfl)
  have f8 : DataW.trod enc Tryz.prog w base spare held n 44 [c8] = some x8 := fld (off := 8) (hf 8 _ rfl) Tryz.cellsProgram
  obtain ⟨z0, rfl, h0⟩ := open_int f0
  obtain ⟨z1, rfl, h1⟩ := open_int f1
  obtain ⟨z2, rfl, h2⟩ := open_int f2
  have w3 := weights_field Tryz.underlying46 hw (j := 3) rfl rfl
  obtain ⟨a3, k3, l3, e3, hr3, hb3, hq3⟩ := open_RdI f3 w3
  have e3' : c3 = .slice a3 l3.length k3 := by simpa using e3
  subst e3'
  have w4 := weights_field Tryz.underlying46 hw (j := 4) rfl rfl
  obtain ⟨a4, k4, l4, e4, hr4, hb4, hq4⟩ := open_RdB f4 w4
  have e4' : c4 = .slice a4 l4.length k4 := by simpa using e4
  subst e4'
  obtain ⟨v5, rfl⟩ := open_slc Tryz.underlying37 f5
  have w6 := weights_field Tryz.underlying46 hw (j := 6) rfl rfl
  obtain ⟨a6, k6, l6, e6, hr6, hb6, hq6⟩ := open_RdL (size := 3) (R := RdFrame) (bnd := FrFit) Tryz.underlying38 (by kernel_rfl) (by omega) (fun _ _ _ h hw => open_frame h hw) f6 w6
  have e6' : c6 = .slice a6 l6.length k6 := by simpa using e6
  subst e6'
  have h40 : Tryz.prog.bytesOf 107 = 40 := by kernel_rfl
  rw [h40] at hb6
  unfold reachBytes at hb6
  obtain ⟨v7, rfl⟩ : ∃ v, c7 = slc v := by
    obtain ⟨ys, n', _, _, _, hy, hg⟩ := DataW.trod_struct Tryz.underlying41 f7
    obtain ⟨y0, rfl⟩ := one (hy.trans rfl)
    have g0 : DataW.trod enc Tryz.prog w base spare held n' 39 [c7] = some y0 := fld (off := 0) (k := 1) (hg 0 _ rfl) (by kernel_rfl)
    exact open_slc Tryz.underlying39 g0
  obtain ⟨v8, rfl⟩ : ∃ v, c8 = slc v := by
    obtain ⟨ys, n', _, _, _, hy, hg⟩ := DataW.trod_struct Tryz.underlying44 f8
    obtain ⟨y0, rfl⟩ := one (hy.trans rfl)
    have g0 : DataW.trod enc Tryz.prog w base spare held n' 42 [c8] = some y0 := fld (off := 0) (k := 1) (hg 0 _ rfl) (by kernel_rfl)
    exact open_slc Tryz.underlying42 g0
  exact ⟨⟨z0, z1, z2, l3, l4, l6⟩, ⟨a3, k3, a4, k4, v5, a6, k6, v7, v8, rfl, h0, h1, h2, ⟨hr3, hb3, hq3⟩, ⟨hr4, hb4, hq4⟩, ⟨hr6, by show l6.length ≤ _; omega, hq6⟩⟩, trivial⟩
set_option maxRecDepth 100000 in
theorem open_scriptS {n : Nat} {cs : List Value} {x : DataW H × List MemPlace} (h : DataW.trod enc Tryz.prog w base spare held n 22 cs = some x) (hw : ∀ k ∈ x.1.weights Tryz.prog 22, k ≤ reachBytes) :
    ∃ a cap l, cs = [.slice a l.length cap] ∧ RdL 9 RdStepS w a l.length cap l ∧ l.length ≤ 2199023255552 := by
  obtain ⟨a, cap, l, e, hr, hb, _⟩ := open_RdL (size := 9) (R := RdStepS) (bnd := fun _ => True) Tryz.underlying22 (by kernel_rfl) (by omega) (fun _ _ _ h hw => open_stepS h hw) h hw
  have h168 : Tryz.prog.bytesOf 46 = 168 := by kernel_rfl
  rw [h168] at hb
  unfold reachBytes at hb
  exact ⟨a, cap, l, e, hr, by omega⟩
end
end Go.Proofs.YtffnfjkjlmlonaaGreatDoor
