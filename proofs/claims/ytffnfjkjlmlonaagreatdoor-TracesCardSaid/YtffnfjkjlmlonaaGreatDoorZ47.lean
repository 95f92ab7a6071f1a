/- A script's steps opened: ops, functions, programs, steps. Contract of the statement's own upTo where one kind alone is played: -1, whatever the script, where the step of that kind answers true and leaves the statement's world bare. Contract of the statement's own upTo where one kind alone is played, in memories of which something holds that stays. -/
import Derived.Test.YtffnfjkjlmlonaaGreatDoorZ46
import Derived.OpenShut
import Derived.Test.YtffnfjkjlmlonaaGreatDoorZ27
namespace Go.Proofs.YtffnfjkjlmlonaaGreatDoor
open Go.ChangeShapes Go.WideShapes Go.ChangeAt Go.RowKit

instance : Inhabited OpD := ⟨⟨0, 0, 0, 0, 0, []⟩⟩
instance : Inhabited FnD := ⟨⟨⟨#[]⟩, ⟨#[]⟩, 0, 0, []⟩⟩
/-- A step, as far as a Check looks at it. -/
structure StepD where
  k : Int
  n : Int
  m : Int
  l : List Int
  p : List FnD
instance : Inhabited StepD := ⟨⟨0, 0, 0, [], []⟩⟩

def OpFit (o : OpD) : Prop := o.args.length ≤ 17592186044416
def FnFit (x : FnD) : Prop := x.body.length ≤ 2199023255552 ∧ ∀ o ∈ x.body, o.args.length ≤ 17592186044416
abbrev slc (v : Option Addr × Nat × Nat) : Value := .slice v.1 v.2.1 v.2.2
def RdStep (w : World) (cs : List Value) (s : StepD) : Prop :=
  ∃ (a3 : Option Addr) (c3 : Nat) (v4 v5 v6 v7 : Option Addr × Nat × Nat) (a : Option Addr) (cap : Nat), cs = [.int .i64 s.k, .int .i64 s.n, .int .i64 s.m, .slice a3 s.l.length c3, slc v4, slc v5, slc v6, slc v7, .slice a s.p.length cap] ∧ R64 s.k ∧ R64 s.n ∧ R64 s.m ∧ Rd .i64 w a3 s.l.length c3 s.l ∧ s.l.length ≤ 17592186044416 ∧ RdP w a s.p.length cap s.p ∧ s.p.length ≤ 2199023255552 ∧ ∀ x ∈ s.p, FnFit x

section
variable {H : Type} {enc : TypeId × Value → H} {w : World} {base : Nat} {spare : Nat → Bool} {held : Bool}

set_option maxRecDepth 100000 in
theorem open_Rd {fuel : Nat} {cs : List Value} {x : DataW H × List MemPlace} (h : DataW.trod enc Tryz.prog w base spare held fuel 35 cs = some x) (hw : ∀ k ∈ x.1.weights Tryz.prog 35, k ≤ reachBytes) :
    ∃ a cap l, cs = [.slice a l.length cap] ∧ Rd .i64 w a l.length cap l ∧ l.length ≤ 17592186044416 := by
  rcases open_ints Tryz.underlying35 Tryz.underlying3 (by kernel_rfl) h with ⟨rfl, rfl⟩ | ⟨a, len, cap, zs, rfl, _, hl, hm, hz, rfl, hcell, hwz⟩
  · exact ⟨none, 0, [], rfl, ⟨rfl, Nat.le_refl _, by unfold maxLen; omega, fun i hi => by simp at hi⟩, by simp⟩
  · have hzl : len ≤ zs.length := by rw [hz]; split <;> omega
    unfold DataW.weights at hw
    rw [Tryz.underlying35] at hw
    simp only [List.mem_cons, List.mem_append] at hw
    have h8 : Tryz.prog.bytesOf 3 = 8 := by kernel_rfl
    have hlen := hw _ (.inl rfl)
    rw [h8] at hlen
    have hl2 : (lits (H := H) .i64 (zs.take len)).length = len := by unfold lits; rw [List.length_map, List.length_take]; omega
    rw [hl2] at hlen
    unfold reachBytes at hlen
    have e : (zs.take len).length = len := by rw [List.length_take]; omega
    refine ⟨some a, cap, zs.take len, by rw [e], ⟨rfl, by rw [e]; exact hl, hm, fun i hi => ?_⟩, by omega⟩
    rw [e] at hi
    have hc := hcell i (by omega)
    have hc0 := hcell 0 (by omega)
    obtain ⟨b, off, spot⟩ := a
    have hspot : spot = none := spot_none hc0
    subst hspot
    refine ⟨b, off, rfl, ?_⟩
    rw [add_none] at hc
    rw [hc]
    simp [List.getD, hi]

theorem six {α : Type} {l : List α} (h : l.length = 6) : ∃ a b c d e f, l = [a, b, c, d, e, f] := by
  match l, h with
  | [a, b, c, d, e, f], _ => exact ⟨a, b, c, d, e, f, rfl⟩
theorem five {α : Type} {l : List α} (h : l.length = 5) : ∃ a b c d e, l = [a, b, c, d, e] := by
  match l, h with
  | [a, b, c, d, e], _ => exact ⟨a, b, c, d, e, rfl⟩
theorem nine {α : Type} {l : List α} (h : l.length = 9) : ∃ a b c d e f g i j, l = [a, b, c, d, e, f, g, i, j] := by
  match l, h with
  | [a, b, c, d, e, f, g, i, j], _ => exact ⟨a, b, c, d, e, f, g, i, j, rfl⟩
theorem one {α : Type} {l : List α} (h : l.length = 1) : ∃ a, l = [a] := by
  match l, h with
  | [a], _ => exact ⟨a, rfl⟩

theorem open_int {n : Nat} {c : Value} {x : DataW H × List MemPlace} (h : DataW.trod enc Tryz.prog w base spare held n 3 [c] = some x) : ∃ z, c = .int .i64 z ∧ R64 z := by
  obtain ⟨z, h0, _, hwf⟩ := DataW.trod_int Tryz.underlying3 h
  injection h0 with h0
  exact ⟨z, h0, bounds_i64 hwf⟩
theorem open_str {n : Nat} {c : Value} {x : DataW H × List MemPlace} (h : DataW.trod enc Tryz.prog w base spare held n 9 [c] = some x) : ∃ z : ByteArray, c = .string z ∧ z.size ≤ maxLen := by
  obtain ⟨z, h0, _, hs⟩ := DataW.trod_string Tryz.underlying9 h
  injection h0 with h0
  exact ⟨z, h0, hs⟩

theorem open_slc {t e : TypeId} {n : Nat} {c : Value} {x : DataW H × List MemPlace} (ht : Tryz.prog.underlying t = some (.slice e)) (h : DataW.trod enc Tryz.prog w base spare held n t [c] = some x) : ∃ v, c = slc v := by
  rcases DataW.trod_slice ht h with ⟨e, _⟩ | ⟨a, len, cap, _, _, _, _, e, _⟩
  · injection e with e; exact ⟨(none, 0, 0), e⟩
  · injection e with e; exact ⟨(some a, len, cap), e⟩

theorem fld {P : Program} {n t off k : Nat} {cs : List Value} {y : Option (DataW H × List MemPlace)} (h : DataW.trod enc P w base spare held n t ((cs.drop off).take (P.cellsOf t)) = y) (hc : P.cellsOf t = k) :
    DataW.trod enc P w base spare held n t ((cs.drop off).take k) = y := by rw [← hc]; exact h

theorem Tryz.cellsInt : Tryz.prog.cellsOf 3 = 1 := by kernel_rfl
theorem Tryz.cellsStr : Tryz.prog.cellsOf 9 = 1 := by kernel_rfl
theorem Tryz.cellsInts : Tryz.prog.cellsOf 35 = 1 := by kernel_rfl
theorem Tryz.cellsOps : Tryz.prog.cellsOf 120 = 1 := by kernel_rfl
theorem Tryz.cellsFns : Tryz.prog.cellsOf 42 = 1 := by kernel_rfl
theorem Tryz.cellsProgram : Tryz.prog.cellsOf 44 = 1 := by kernel_rfl

set_option maxRecDepth 100000 in
theorem open_op {n : Nat} {cs : List Value} {x : DataW H × List MemPlace} (h : DataW.trod enc Tryz.prog w base spare held n 183 cs = some x) (hw : ∀ k ∈ x.1.weights Tryz.prog 183, k ≤ reachBytes) :
    ∃ o, RdOp w cs o ∧ OpFit o := by
  obtain ⟨xs, n, rfl, rfl, hl, hx, hf⟩ := DataW.trod_struct Tryz.underlying183 h
  obtain ⟨c0, c1, c2, c3, c4, c5, rfl⟩ := six (hl.trans (by kernel_rfl))
  obtain ⟨x0, x1, x2, x3, x4, x5, rfl⟩ := six (hx.trans rfl)
  have f0 : DataW.trod enc Tryz.prog w base spare held n 3 [c0] = some x0 := fld (off := 0) (hf 0 _ rfl) Tryz.cellsInt
  have f1 : DataW.trod enc Tryz.prog w base spare held n 3 [c1] = some x1 := fld (off := 1) (hf 1 _ rfl) Tryz.cellsInt
  have f2 : DataW.trod enc Tryz.prog w base spare held n 3 [c2] = some x2 := fld (off := 2) (hf 2 _ rfl) Tryz.cellsInt
  have f3 : DataW.trod enc Tryz.prog w base spare held n 3 [c3] = some x3 := fld (off := 3) (hf 3 _ rfl) Tryz.cellsInt
  have f4 : DataW.trod enc Tryz.prog w base spare held n 3 [c4] = some x4 := fld (off := 4) (hf 4 _ rfl) Tryz.cellsInt
  have f5 : DataW.trod enc Tryz.prog w base spare held n 35 [c5] = some x5 := fld (off := 5) (hf 5 _ rfl) Tryz.cellsInts
  have w5 := weights_field Tryz.underlying183 hw (j := 5) rfl rfl
  obtain ⟨z0, rfl, _⟩ := open_int f0
  obtain ⟨z1, rfl, _⟩ := open_int f1
  obtain ⟨z2, rfl, _⟩ := open_int f2
  obtain ⟨z3, rfl, _⟩ := open_int f3
  obtain ⟨z4, rfl, _⟩ := open_int f4
  obtain ⟨a, cap, l, e, hr, hb⟩ := open_Rd f5 w5
  have e' : c5 = .slice a l.length cap := by simpa using e
  subst e'
  exact ⟨⟨z0, z1, z2, z3, z4, l⟩, ⟨a, cap, rfl, hr⟩, hb⟩

set_option maxRecDepth 100000 in
theorem open_fn {n : Nat} {cs : List Value} {x : DataW H × List MemPlace} (h : DataW.trod enc Tryz.prog w base spare held n 122 cs = some x) (hw : ∀ k ∈ x.1.weights Tryz.prog 122, k ≤ reachBytes) :
    ∃ o, RdFn w cs o ∧ FnFit o := by
  obtain ⟨xs, n, rfl, rfl, hl, hx, hf⟩ := DataW.trod_struct Tryz.underlying122 h
  obtain ⟨c0, c1, c2, c3, c4, rfl⟩ := five (hl.trans (by kernel_rfl))
  obtain ⟨x0, x1, x2, x3, x4, rfl⟩ := five (hx.trans rfl)
  have f0 : DataW.trod enc Tryz.prog w base spare held n 9 [c0] = some x0 := fld (off := 0) (hf 0 _ rfl) Tryz.cellsStr
  have f1 : DataW.trod enc Tryz.prog w base spare held n 9 [c1] = some x1 := fld (off := 1) (hf 1 _ rfl) Tryz.cellsStr
  have f2 : DataW.trod enc Tryz.prog w base spare held n 3 [c2] = some x2 := fld (off := 2) (hf 2 _ rfl) Tryz.cellsInt
  have f3 : DataW.trod enc Tryz.prog w base spare held n 3 [c3] = some x3 := fld (off := 3) (hf 3 _ rfl) Tryz.cellsInt
  have f4 : DataW.trod enc Tryz.prog w base spare held n 120 [c4] = some x4 := fld (off := 4) (hf 4 _ rfl) Tryz.cellsOps
  have w4 := weights_field Tryz.underlying122 hw (j := 4) rfl rfl
  obtain ⟨z0, rfl, h0⟩ := open_str f0
  obtain ⟨z1, rfl, h1⟩ := open_str f1
  obtain ⟨z2, rfl, _⟩ := open_int f2
  obtain ⟨z3, rfl, _⟩ := open_int f3
  obtain ⟨a, cap, l, e, hr, hb, hall⟩ := open_RdL (size := 6) (R := RdOp) (bnd := OpFit) Tryz.underlying120 (by kernel_rfl) (by omega) (fun _ _ _ h hw => open_op h hw) f4 w4
  have e' : c4 = .slice a l.length cap := by simpa using e
  subst e'
  have h64 : Tryz.prog.bytesOf 183 = 64 := by kernel_rfl
  rw [h64] at hb
  unfold reachBytes at hb
  exact ⟨⟨z0, z1, z2, z3, l⟩, ⟨a, cap, rfl, hr, h0, h1⟩, by show l.length ≤ _; omega, hall⟩

set_option maxRecDepth 100000 in
theorem open_program {n : Nat} {cs : List Value} {x : DataW H × List MemPlace} (h : DataW.trod enc Tryz.prog w base spare held n 44 cs = some x) (hw : ∀ k ∈ x.1.weights Tryz.prog 44, k ≤ reachBytes) :
    ∃ a cap l, cs = [.slice a l.length cap] ∧ RdP w a l.length cap l ∧ l.length ≤ 2199023255552 ∧ ∀ o ∈ l, FnFit o := by
  obtain ⟨xs, n, rfl, rfl, hl, hx, hf⟩ := DataW.trod_struct Tryz.underlying44 h
  obtain ⟨c0, rfl⟩ := one (hl.trans (by kernel_rfl))
  obtain ⟨x0, rfl⟩ := one (hx.trans rfl)
  have f0 : DataW.trod enc Tryz.prog w base spare held n 42 [c0] = some x0 := fld (off := 0) (hf 0 _ rfl) Tryz.cellsFns
  have w0 := weights_field Tryz.underlying44 hw (j := 0) rfl rfl
  obtain ⟨a, cap, l, e, hr, hb, hall⟩ := open_RdL (size := 5) (R := RdFn) (bnd := FnFit) Tryz.underlying42 (by kernel_rfl) (by omega) (fun _ _ _ h hw => open_fn h hw) f0 w0
  have h72 : Tryz.prog.bytesOf 122 = 72 := by kernel_rfl
  rw [h72] at hb
  unfold reachBytes at hb
  exact ⟨a, cap, l, e, hr, by omega, hall⟩

set_option maxRecDepth 100000 in
theorem open_step {n : Nat} {cs : List Value} {x : DataW H × List MemPlace} (h : DataW.trod enc Tryz.prog w base spare held n 46 cs = some x) (hw : ∀ k ∈ x.1.weights Tryz.prog 46, k ≤ reachBytes) :
    ∃ s, RdStep w cs s ∧ True := by
  obtain ⟨xs, n, rfl, rfl, hl, hx, hf⟩ := DataW.trod_struct Tryz.underlying46 h
  obtain ⟨c0, c1, c2, c3, c4, c5, c6, c7, c8, rfl⟩ := nine (hl.trans (by kernel_rfl))
  obtain ⟨x0, x1, x2, x3, x4, x5, x6, x7, x8, rfl⟩ := nine (hx.trans rfl)
  have f0 : DataW.trod enc Tryz.prog w base spare held n 3 [c0] = some x0 := fld (off := 0) (hf 0 _ rfl) Tryz.cellsInt
  have f1 : DataW.trod enc Tryz.prog w base spare held n 3 [c1] = some x1 := fld (off := 1) (hf 1 _ rfl) Tryz.cellsInt
  have f2 : DataW.trod enc Tryz.prog w base spare held n 3 [c2] = some x2 := fld (off := 2) (hf 2 _ rfl) Tryz.cellsInt
  have f3 : DataW.trod enc Tryz.prog w base spare held n 35 [c3] = some x3 := fld (off := 3) (hf 3 _ rfl) Tryz.cellsInts
  have f4 : DataW.trod enc Tryz.prog w base spare held n 36 [c4] = some x4 := fld (off := 4) (k := 1) (hf 4 _ rfl) (by kernel_rfl)
  have f5 : DataW.trod enc Tryz.prog w base spare held n 37 [c5] = some x5 := fld (off := 5) (k := 1) (hf 5 _ rfl) (by kernel_rfl)
  have f6 : DataW.trod enc Tryz.prog w base spare held n 38 [c6] = some x6 := fld (off := 6) (k := 1) (hf 6 _ rfl) (by kernel_rfl)
  have f7 : DataW.trod enc Tryz.prog w base spare held n 41 [c7] = some x7 := fld (off := 7) (k := 1) (hf 7 _ rfl) (by kernel_rfl)
  have f8 : DataW.trod enc Tryz.prog w base spare held n 44 [c8] = some x8 := fld (off := 8) (hf 8 _ rfl) Tryz.cellsProgram
  have w8 := weights_field Tryz.underlying46 hw (j := 8) rfl rfl
  obtain ⟨z0, rfl, h0⟩ := open_int f0
  obtain ⟨z1, rfl, h1⟩ := open_int f1
  obtain ⟨z2, rfl, h2⟩ := open_int f2
  have w3 := weights_field Tryz.underlying46 hw (j := 3) rfl rfl
  obtain ⟨a3, k3, l3, e3, hr3, hb3⟩ := open_Rd f3 w3
  have e3' : c3 = .slice a3 l3.length k3 := by simpa using e3
  subst e3'
  obtain ⟨v4, rfl⟩ := open_slc Tryz.underlying36 f4
  obtain ⟨v5, rfl⟩ := open_slc Tryz.underlying37 f5
  obtain ⟨v6, rfl⟩ := open_slc Tryz.underlying38 f6
  obtain ⟨v7, rfl⟩ : ∃ v, c7 = slc v := by
    obtain ⟨ys, n', _, _, _, hy, hg⟩ := DataW.trod_struct Tryz.underlying41 f7
    obtain ⟨y0, rfl⟩ := one (hy.trans rfl)
    have g0 : DataW.trod enc Tryz.prog w base spare held n' 39 [c7] = some y0 := fld (off := 0) (k := 1) (hg 0 _ rfl) (by kernel_rfl)
    exact open_slc Tryz.underlying39 g0
  obtain ⟨a, cap, l, e, hr, hb, hall⟩ := open_program f8 w8
  have e' : c8 = .slice a l.length cap := by simpa using e
  subst e'
  exact ⟨⟨z0, z1, z2, l3, l⟩, ⟨a3, k3, v4, v5, v6, v7, a, cap, rfl, h0, h1, h2, hr3, hb3, hr, hb, hall⟩, trivial⟩

set_option maxRecDepth 100000 in
theorem open_script {n : Nat} {cs : List Value} {x : DataW H × List MemPlace} (h : DataW.trod enc Tryz.prog w base spare held n 22 cs = some x) (hw : ∀ k ∈ x.1.weights Tryz.prog 22, k ≤ reachBytes) :
    ∃ a cap l, cs = [.slice a l.length cap] ∧ RdL 9 RdStep w a l.length cap l := by
  obtain ⟨a, cap, l, e, hr, _, _⟩ := open_RdL (size := 9) (R := RdStep) (bnd := fun _ => True) Tryz.underlying22 (by kernel_rfl) (by omega) (fun _ _ _ h hw => open_step h hw) h hw
  exact ⟨a, cap, l, e, hr⟩
end
end Go.Proofs.YtffnfjkjlmlonaaGreatDoor
namespace Go.Proofs.YtffnfjkjlmlonaaGreatDoor
open Go.RowKit

theorem RdStep.below {w w' : World} {cs : List Value} {s : StepD} (h : RdStep w cs s) (hb : Below w.heap.size w w') : RdStep w' cs s := by
  obtain ⟨a3, k3, v4, v5, v6, v7, a, cap, e, h1, h2, h3, hr3, hb3, hr, hx⟩ := h
  exact ⟨a3, k3, v4, v5, v6, v7, a, cap, e, h1, h2, h3, hr3.below hb (Nat.le_refl _), hb3, hr.below hb, hx⟩

/-- What is asked of a step of the kind. -/
def StepGives (K : Int) : Prop := ∀ (r : Value) (s : StepD) (cs : List Value) (W : World), s.k = K → RdStep W cs s →
  Calls Tryz.prog 9 #[r, .agg cs.toArray] W fun e w' => e = .returned (.bool true) ∧ Below W.heap.size W w'

set_option maxHeartbeats 4000000 in
set_option maxRecDepth 100000 in
theorem upTo_one (K : Int) (h18K : K < 18) (hK : R64 K) (hS : StepGives K) (a : Option Addr) (cap : Nat) (l : List StepD) (w : World) (hr : RdL 9 RdStep w a l.length cap l) :
    Calls Tryz.prog 8 #[.slice a l.length cap, .int .i64 K, .int .i64 K] w fun e w' => e = .returned (.int .i64 (-1)) ∧ Below w.heap.size w w' := by
  have hcap := hr.2.1
  have hmax := hr.2.2.1
  unfold maxLen at hmax
  have HC := hid hS
  have HR := hid hr
  obtain ⟨hK1, hK2⟩ := hK
  clear hr hS
  obtain ⟨n, hn⟩ : ∃ n, n = l.length := ⟨_, rfl⟩
  rw [← hn] at HR hcap ⊢
  have HN := hid hn
  clear hn
  go_enter Tryz.func8, Tryz.ntmps8
  go_wp2_with fail
  obtain ⟨w1, hw1⟩ : ∃ w1, w1 = w.alloc (Obj.cells nils 34) := ⟨_, rfl⟩
  have hb1 : Below w.heap.size w w1 := by rw [hw1]; exact (Below.refl _ _).alloc (Nat.le_refl _) _
  have hs1 : w1.heap.size = w.heap.size + 1 := by rw [hw1]; simp
  have HB : Hid (Bare w1 w.heap.size) := by show Bare _ _; unfold Bare; rw [hw1]; exact heap_alloc_new _ _
  go_loopw [8] (fun i wr => ∃ j : Nat, i = .int .i64 j ∧ j ≤ n ∧ Below w1.heap.size w1 wr) (fun i _ => n - (intOf i).toNat)
  case atStart => exact ⟨0, rfl, by omega, by rw [hw1]; exact Below.refl _ _⟩
  case round =>
    clear hw1
    obtain ⟨j, rfl, hj, hbel⟩ := hrel
    have hsz := hbel.size
    have hbe := hb1.trans (hbel.mono hb1.size)
    by_cases hjn : j < n
    · obtain ⟨s, hs⟩ : ∃ s, l[j]? = some s := ⟨_, List.getElem?_eq_getElem (by rw [← HN.out]; exact hjn)⟩
      obtain ⟨b, off, cs, rfl, _, hcells, hst⟩ := HR.out.2.2.2 j s hs
      have HST := hid (fun (W : World) (hW : Below wr.heap.size wr W) => (hst.below hbe).below hW)
      have HLK := hid (fun (W : World) (hW : Below wr.heap.size wr W) => looks_bare w.heap.size W ((HB.out.below hbel).below hW))
      obtain ⟨a3, k3, ⟨a4, n4, k4⟩, ⟨a5, n5, k5⟩, ⟨a6, n6, k6⟩, ⟨a7, n7, k7⟩, pa, pcap, rfl, hk, hn', hm, _, _, _, _, _⟩ := hst
      have hc : ∀ k v, [Value.int .i64 s.k, .int .i64 s.n, .int .i64 s.m, .slice a3 s.l.length k3, .slice a4 n4 k4, .slice a5 n5 k5, .slice a6 n6 k6, .slice a7 n7 k7, .slice pa s.p.length pcap][k]? = some v → wr.cell? ⟨b, off + j * 9 + k, none⟩ = some v := fun k v h => by
        have := hcells k v h
        exact (hbe.cell (p := ⟨b, off + j * 9 + k, none⟩) (World.block_lt_of_cell? w _ this)).trans this
      have c0 : wr.cell? ⟨b, off + j * 9, none⟩ = _ := hc 0 _ rfl
      have c1 := hc 1 _ rfl
      have c2 := hc 2 _ rfl
      have c3 := hc 3 _ rfl
      have c4 := hc 4 _ rfl
      have c5 := hc 5 _ rfl
      have c6 := hc 6 _ rfl
      have c7 := hc 7 _ rfl
      have c8 := hc 8 _ rfl
      have HW := hid (fun (W : World) (hW : Below wr.heap.size wr W) => step_write w.heap.size s.n s.m (.slice a3 s.l.length k3) (.slice a4 n4 k4) (.slice a5 n5 k5) (.slice a6 n6 k6) (.slice a7 n7 k7) (.slice pa s.p.length pcap) W ((HB.out.below hbel).below hW) hm)
      clear hcells hc hs
      have hjn' : (j : Int) < (n : Int) := by omega
      obtain ⟨hk1, hk2⟩ := hk
      by_cases h18 : s.k = 18
      · clear HST HC
        go_wp2_with fail
        refine (HW.out _ ((Below.refl _ _).alloc (Nat.le_refl _) _)).mono ?_
        rintro e w2 ⟨rfl, hb2⟩
        have hb2' := ((Below.refl wr.heap.size wr).alloc (Nat.le_refl _) _).trans (hb2.mono (by simp))
        go_wp2_with fail
        refine (HLK.out _ hb2').mono ?_
        rintro e w3 ⟨rfl, hb3⟩
        have hb3' := hb2'.trans (hb3.mono hb2'.size)
        go_wp2
        go_roundw
        case rel => exact ⟨j + 1, by go_num, by omega, hbel.trans (hb3'.mono hsz)⟩
        case measure => simp [intOf]; omega
      · by_cases hKk : s.k = K
        · have HST' := hid (fun (W : World) (r : Value) (hW : Below wr.heap.size wr W) => HC.out r s _ W hKk (HST.out W hW))
          clear HST HC HW
          rw [hKk] at HST'
          go_wp2_with fail
          refine (HST'.out _ _ ((Below.refl _ _).alloc (Nat.le_refl _) _)).mono ?_
          rintro e w2 ⟨rfl, hb2⟩
          have hb2' := ((Below.refl wr.heap.size wr).alloc (Nat.le_refl _) _).trans (hb2.mono (by simp))
          go_wp2_with fail
          refine (HLK.out _ hb2').mono ?_
          rintro e w3 ⟨rfl, hb3⟩
          have hb3' := hb2'.trans (hb3.mono hb2'.size)
          go_wp2
          go_roundw
          case rel => exact ⟨j + 1, by go_num, by omega, hbel.trans (hb3'.mono hsz)⟩
          case measure => simp [intOf]; omega
        · clear HST HC HW HLK
          have hbr : Below w1.heap.size w1 (wr.alloc (Obj.cells #[.int .i64 s.k, .int .i64 s.n, .int .i64 s.m, .slice a3 s.l.length k3, .slice a4 n4 k4, .slice a5 n5 k5, .slice a6 n6 k6, .slice a7 n7 k7, .slice pa s.p.length pcap] 46)) := hbel.alloc hsz _
          by_cases hlt : s.k < K
          · have hge : decide (K ≤ s.k) = false := by simp; omega
            go_wp2
            go_roundw
            case rel => exact ⟨j + 1, by go_num, by omega, hbr⟩
            case measure => simp [intOf]; omega
          · have hge : decide (K ≤ s.k) = true := by simp; omega
            have hle : decide (s.k ≤ K) = false := by simp; omega
            go_wp2
            go_roundw
            case rel => exact ⟨j + 1, by go_num, by omega, hbr⟩
            case measure => simp [intOf]; omega
    · go_wp2
      go_ret
      exact ⟨rfl, hbe⟩

theorem step_gives_check (hC : CheckGives) : StepGives 6 := by
  intro r s cs W hk hs
  obtain ⟨a3, k3, v4, v5, v6, v7, a, cap, rfl, h1, h2, h3, hr3, hb3, hr, hx, hfit⟩ := hs
  rw [hk]
  exact step_check hC r s.n s.m _ _ _ _ _ a cap s.p W hr hx hfit
end Go.Proofs.YtffnfjkjlmlonaaGreatDoor
namespace Go.Proofs.YtffnfjkjlmlonaaGreatDoor
open Go.RowKit

/-- What is asked of a step of the kind. -/
def StepGivesI (I : World → Prop) (K : Int) : Prop := ∀ (r : Value) (s : StepD) (cs : List Value) (W : World), s.k = K → RdStep W cs s → I W →
  Calls Tryz.prog 9 #[r, .agg cs.toArray] W fun e w' => e = .returned (.bool true) ∧ Below W.heap.size W w'

set_option maxHeartbeats 4000000 in
set_option maxRecDepth 100000 in
theorem upTo_oneI (I : World → Prop) (hIb : ∀ w w' : World, I w → Below w.heap.size w w' → I w') (K : Int) (h18K : K < 18) (hK : R64 K) (hS : StepGivesI I K) (a : Option Addr) (cap : Nat) (l : List StepD) (w : World) (hr : RdL 9 RdStep w a l.length cap l) (hI : I w) :
    Calls Tryz.prog 8 #[.slice a l.length cap, .int .i64 K, .int .i64 K] w fun e w' => e = .returned (.int .i64 (-1)) ∧ Below w.heap.size w w' := by
  have hcap := hr.2.1
  have hmax := hr.2.2.1
  unfold maxLen at hmax
  have HC := hid hS
  have HI := hid (fun (W : World) (hW : Below w.heap.size w W) => hIb w W hI hW)
  have HR := hid hr
  obtain ⟨hK1, hK2⟩ := hK
  clear hr hS hI hIb
  obtain ⟨n, hn⟩ : ∃ n, n = l.length := ⟨_, rfl⟩
  rw [← hn] at HR hcap ⊢
  have HN := hid hn
  clear hn
  go_enter Tryz.func8, Tryz.ntmps8
  go_wp2_with fail
  obtain ⟨w1, hw1⟩ : ∃ w1, w1 = w.alloc (Obj.cells nils 34) := ⟨_, rfl⟩
  have hb1 : Below w.heap.size w w1 := by rw [hw1]; exact (Below.refl _ _).alloc (Nat.le_refl _) _
  have hs1 : w1.heap.size = w.heap.size + 1 := by rw [hw1]; simp
  have HB : Hid (Bare w1 w.heap.size) := by show Bare _ _; unfold Bare; rw [hw1]; exact heap_alloc_new _ _
  go_loopw [8] (fun i wr => ∃ j : Nat, i = .int .i64 j ∧ j ≤ n ∧ Below w1.heap.size w1 wr) (fun i _ => n - (intOf i).toNat)
  case atStart => exact ⟨0, rfl, by omega, by rw [hw1]; exact Below.refl _ _⟩
  case round =>
    clear hw1
    obtain ⟨j, rfl, hj, hbel⟩ := hrel
    have hsz := hbel.size
    have hbe := hb1.trans (hbel.mono hb1.size)
    by_cases hjn : j < n
    · obtain ⟨s, hs⟩ : ∃ s, l[j]? = some s := ⟨_, List.getElem?_eq_getElem (by rw [← HN.out]; exact hjn)⟩
      obtain ⟨b, off, cs, rfl, _, hcells, hst⟩ := HR.out.2.2.2 j s hs
      have HST := hid (fun (W : World) (hW : Below wr.heap.size wr W) => (hst.below hbe).below hW)
      have HLK := hid (fun (W : World) (hW : Below wr.heap.size wr W) => looks_bare w.heap.size W ((HB.out.below hbel).below hW))
      obtain ⟨a3, k3, ⟨a4, n4, k4⟩, ⟨a5, n5, k5⟩, ⟨a6, n6, k6⟩, ⟨a7, n7, k7⟩, pa, pcap, rfl, hk, hn', hm, _, _, _, _, _⟩ := hst
      have hc : ∀ k v, [Value.int .i64 s.k, .int .i64 s.n, .int .i64 s.m, .slice a3 s.l.length k3, .slice a4 n4 k4, .slice a5 n5 k5, .slice a6 n6 k6, .slice a7 n7 k7, .slice pa s.p.length pcap][k]? = some v → wr.cell? ⟨b, off + j * 9 + k, none⟩ = some v := fun k v h => by
        have := hcells k v h
        exact (hbe.cell (p := ⟨b, off + j * 9 + k, none⟩) (World.block_lt_of_cell? w _ this)).trans this
      have c0 : wr.cell? ⟨b, off + j * 9, none⟩ = _ := hc 0 _ rfl
      have c1 := hc 1 _ rfl
      have c2 := hc 2 _ rfl
      have c3 := hc 3 _ rfl
      have c4 := hc 4 _ rfl
      have c5 := hc 5 _ rfl
      have c6 := hc 6 _ rfl
      have c7 := hc 7 _ rfl
      have c8 := hc 8 _ rfl
      have HW := hid (fun (W : World) (hW : Below wr.heap.size wr W) => step_write w.heap.size s.n s.m (.slice a3 s.l.length k3) (.slice a4 n4 k4) (.slice a5 n5 k5) (.slice a6 n6 k6) (.slice a7 n7 k7) (.slice pa s.p.length pcap) W ((HB.out.below hbel).below hW) hm)
      clear hcells hc hs
      have hjn' : (j : Int) < (n : Int) := by omega
      obtain ⟨hk1, hk2⟩ := hk
      by_cases h18 : s.k = 18
      · clear HST HC
        go_wp2_with fail
        refine (HW.out _ ((Below.refl _ _).alloc (Nat.le_refl _) _)).mono ?_
        rintro e w2 ⟨rfl, hb2⟩
        have hb2' := ((Below.refl wr.heap.size wr).alloc (Nat.le_refl _) _).trans (hb2.mono (by simp))
        go_wp2_with fail
        refine (HLK.out _ hb2').mono ?_
        rintro e w3 ⟨rfl, hb3⟩
        have hb3' := hb2'.trans (hb3.mono hb2'.size)
        go_wp2
        go_roundw
        case rel => exact ⟨j + 1, by go_num, by omega, hbel.trans (hb3'.mono hsz)⟩
        case measure => simp [intOf]; omega
      · by_cases hKk : s.k = K
        · have HST' := hid (fun (W : World) (r : Value) (hW : Below wr.heap.size wr W) => HC.out r s _ W hKk (HST.out W hW) (HI.out W (hbe.trans (hW.mono hbe.size))))
          clear HST HC HW
          rw [hKk] at HST'
          go_wp2_with fail
          refine (HST'.out _ _ ((Below.refl _ _).alloc (Nat.le_refl _) _)).mono ?_
          rintro e w2 ⟨rfl, hb2⟩
          have hb2' := ((Below.refl wr.heap.size wr).alloc (Nat.le_refl _) _).trans (hb2.mono (by simp))
          go_wp2_with fail
          refine (HLK.out _ hb2').mono ?_
          rintro e w3 ⟨rfl, hb3⟩
          have hb3' := hb2'.trans (hb3.mono hb2'.size)
          go_wp2
          go_roundw
          case rel => exact ⟨j + 1, by go_num, by omega, hbel.trans (hb3'.mono hsz)⟩
          case measure => simp [intOf]; omega
        · clear HST HC HW HLK
          have hbr : Below w1.heap.size w1 (wr.alloc (Obj.cells #[.int .i64 s.k, .int .i64 s.n, .int .i64 s.m, .slice a3 s.l.length k3, .slice a4 n4 k4, .slice a5 n5 k5, .slice a6 n6 k6, .slice a7 n7 k7, .slice pa s.p.length pcap] 46)) := hbel.alloc hsz _
          by_cases hlt : s.k < K
          · have hge : decide (K ≤ s.k) = false := by simp; omega
            go_wp2
            go_roundw
            case rel => exact ⟨j + 1, by go_num, by omega, hbr⟩
            case measure => simp [intOf]; omega
          · have hge : decide (K ≤ s.k) = true := by simp; omega
            have hle : decide (s.k ≤ K) = false := by simp; omega
            go_wp2
            go_roundw
            case rel => exact ⟨j + 1, by go_num, by omega, hbr⟩
            case measure => simp [intOf]; omega
    · go_wp2
      go_ret
      exact ⟨rfl, hbe⟩

theorem step_gives_trace : StepGivesI Tab 17 := by
  intro r s cs W hk hs ht
  obtain ⟨a3, k3, v4, v5, v6, v7, a, cap, rfl, h1, h2, h3, hr3, hb3, hr, hx, hfit⟩ := hs
  rw [hk]
  exact step_trace r s.n s.m _ _ _ _ _ _ _ a cap s.p W hr hr3 h2 h3 hx hb3 hfit ht
end Go.Proofs.YtffnfjkjlmlonaaGreatDoor
