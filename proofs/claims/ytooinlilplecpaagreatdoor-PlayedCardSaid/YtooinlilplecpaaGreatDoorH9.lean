/- Contracts of the statement's own functions write, source and step at a Check and at the caller's writing, where no list has come out, out of a contract of unfold.Check that is taken as a premise. -/
import Derived.Test.YtooinlilplecpaaGreatDoorH8
import Derived.Test.YtooinlilplecpaaGreatDoorC4
namespace Go.Proofs.YtooinlilplecpaaGreatDoor
open Go.RowKit

theorem Bare.below {w w' : World} {g : Nat} (h : Bare w g) (hb : Below w.heap.size w w') : Bare w' g := by
  unfold Bare at h ⊢
  exact (hb.block g (Array.getElem?_eq_some_iff.1 h).1).trans h

set_option maxHeartbeats 1000000 in
set_option maxRecDepth 100000 in
theorem write_bare (g : Nat) (k n m : Int) (v3 v4 v5 v6 v7 v8 : Value) (w : World) (h : Bare w g) (hm : R64 m) :
    Calls Tryz.prog 23 #[.pointer (some ⟨g, 0, none⟩), .agg #[.int .i64 k, .int .i64 n, .int .i64 m, v3, v4, v5, v6, v7, v8]] w fun e w' => e = .returned (.tuple #[]) ∧ Below w.heap.size w w' := by
  have hg := (Array.getElem?_eq_some_iff.1 h).1
  have c1 := h.cell 1 (by omega)
  have c3 := h.cell 3 (by omega)
  obtain ⟨hm1, hm2⟩ := hm
  clear h
  obtain ⟨t, ht⟩ : ∃ t, t = (m.tmod 2 == 0) := ⟨_, rfl⟩
  have ht' : (m.tmod 2 == 0) = t := ht.symm
  have ht2 : (m.tmod 2 != 0) = !t := by rw [ht]; rfl
  clear ht
  cases t with
  | true =>
    go_enter Tryz.func23, Tryz.ntmps23
    go_wp2
    go_end0
    exact ⟨rfl, (Below.refl _ _).alloc (Nat.le_refl _) _⟩
  | false =>
    go_enter Tryz.func23, Tryz.ntmps23
    go_wp2
    go_end0
    exact ⟨rfl, (Below.refl _ _).alloc (Nat.le_refl _) _⟩

/-- What is asked of unfold.Check. -/
def CheckGives : Prop := ∀ (a : Option Addr) (len cap : Nat) (p : List FnD) (w : World), RdP w a len cap p →
  Calls Tryz.prog 45 #[.agg #[.slice a len cap]] w fun e w' => e = .returned (.tuple #[.int .i64 (chk p).1, .int .i64 (chk p).2.1, .int .i64 (chk p).2.2]) ∧ Below w.heap.size w w'

set_option maxHeartbeats 2000000 in
set_option maxRecDepth 100000 in
theorem source_check (hC : CheckGives) (r : Value) (n m : Int) (v3 v4 v5 v6 v7 : Value) (a : Option Addr) (cap : Nat) (p : List FnD) (w : World) (hr : RdP w a p.length cap p) (hlen : p.length ≤ 2199023255552)
    (hbody : ∀ x ∈ p, x.body.length ≤ 2199023255552 ∧ ∀ o ∈ x.body, o.args.length ≤ 17592186044416) :
    Calls Tryz.prog 18 #[r, .agg #[.int .i64 6, .int .i64 n, .int .i64 m, v3, v4, v5, v6, v7, .slice a p.length cap]] w fun e w' => e = .returned (.bool true) ∧ Below w.heap.size w w' := by
  have hnames : ∀ x ∈ p, x.name.size ≤ maxLen ∧ x.file.size ≤ maxLen := by
    intro x hx
    obtain ⟨i, hi⟩ := List.mem_iff_getElem?.1 hx
    obtain ⟨_, _, _, _, _, _, _, _, _, _, _, _, h1, h2⟩ := hr.at i x hi
    exact ⟨h1, h2⟩
  obtain ⟨bw, hbw⟩ : ∃ bw, bw = w.alloc (Obj.cells #[.int .i64 6, .int .i64 n, .int .i64 m, v3, v4, v5, v6, v7, .slice a p.length cap] 46) := ⟨_, rfl⟩
  have hbb : Below w.heap.size w bw := by rw [hbw]; exact (Below.refl _ _).alloc (Nat.le_refl _) _
  have hbs : bw.heap.size = w.heap.size + 1 := by rw [hbw]; simp
  have hk : bw.heap[w.heap.size]? = some (.cells #[.int .i64 6, .int .i64 n, .int .i64 m, v3, v4, v5, v6, v7, .slice a p.length cap] 46 (0, 0)) := by rw [hbw]; exact heap_alloc_new _ _
  have HPO := hid (programOf_any a cap p bw (hr.below hbb) hlen hbody)
  have HPS := hid (fun (W : World) (g : Nat) (h : HdP W bw.heap.size bw a p g) (hW : Below bw.heap.size bw W) => programStill_any bw.heap.size bw g p a cap W h ((hr.below hbb).below hW) hW hlen hbody)
  have HRC := hid (fun (W : World) (hW : Below bw.heap.size bw W) => refCheck_any a p.length cap p W ((hr.below hbb).below hW))
  have HCC := hid (fun (W : World) (g : Nat) (h : HdP W bw.heap.size bw a p g) => hC _ _ _ p W (h.read hnames))
  obtain ⟨⟨e0, x0, y0⟩, hq⟩ : ∃ q, chk p = q := ⟨_, rfl⟩
  rw [hq] at HRC HCC
  have HK := hid hk
  clear hr hnames hbody hq hk hC
  generalize p.length = pl at *
  go_enter Tryz.func18, Tryz.ntmps18
  go_wp2_with fail
  rw [← hbw]
  clear hbw
  refine HPO.out.mono ?_
  rintro e w1 ⟨g, rfl, hh1, hb1⟩
  have hs1 := hb1.size
  go_wp2_with fail
  obtain ⟨w2, hw2⟩ : ∃ w2, w2 = w1.alloc (Obj.cells #[.slice (some ⟨g, 0, none⟩) pl (pl + 8)] 44) := ⟨_, rfl⟩
  have hb2 : Below w1.heap.size w1 w2 := by rw [hw2]; exact (Below.refl _ _).alloc (Nat.le_refl _) _
  have hs2 : w2.heap.size = w1.heap.size + 1 := by rw [hw2]; simp
  have hk2 : w2.heap[w1.heap.size]? = some (.cells #[.slice (some ⟨g, 0, none⟩) pl (pl + 8)] 44 (0, 0)) := by rw [hw2]; exact heap_alloc_new _ _
  rw [← hw2]
  clear hw2
  have hb12 := hb1.trans (hb2.mono hs1)
  refine (HCC.out w2 g (hh1.below hb2)).mono ?_
  rintro e w3 ⟨rfl, hb3⟩
  have hs3 := hb3.size
  have hb13 := hb12.trans (hb3.mono hb12.size)
  have hh3 := (hh1.below hb2).below hb3
  have d0 : w3.cell? ⟨w1.heap.size, 0, none⟩ = some (.slice (some ⟨g, 0, none⟩) pl (pl + 8)) := by
    rw [hb3.cell (p := ⟨w1.heap.size, 0, none⟩) (by show w1.heap.size < _; omega)]
    simp only [World.cell?, hk2, Option.isSome_none]
    rfl
  have d1 : w3.cell? ⟨w.heap.size, 8, none⟩ = some (.slice a pl cap) := by
    rw [hb13.cell (p := ⟨w.heap.size, 8, none⟩) (by show w.heap.size < _; omega)]
    simp only [World.cell?, HK.out, Option.isSome_none]
    rfl
  go_wp2_with fail
  refine (HPS.out w3 g hh3 hb13).mono ?_
  rintro e w4 ⟨rfl, hb4⟩
  have hs4 := hb4.size
  have hb14 := hb13.trans (hb4.mono hb13.size)
  have d2 : w4.cell? ⟨w.heap.size, 8, none⟩ = some (.slice a pl cap) := by
    rw [hb14.cell (p := ⟨w.heap.size, 8, none⟩) (by show w.heap.size < _; omega)]
    simp only [World.cell?, HK.out, Option.isSome_none]
    rfl
  go_wp2_with fail
  refine (HRC.out w4 hb14).mono ?_
  rintro e w5 ⟨rfl, hb5⟩
  have hb15 := hb14.trans (hb5.mono hb14.size)
  go_wp2_with fail
  go_ret
  exact ⟨rfl, hbb.trans (hb15.mono hbb.size)⟩

set_option maxHeartbeats 2000000 in
set_option maxRecDepth 100000 in
theorem step_check (hC : CheckGives) (r : Value) (n m : Int) (v3 v4 v5 v6 v7 : Value) (a : Option Addr) (cap : Nat) (p : List FnD) (w : World) (hr : RdP w a p.length cap p) (hlen : p.length ≤ 2199023255552)
    (hbody : ∀ x ∈ p, x.body.length ≤ 2199023255552 ∧ ∀ o ∈ x.body, o.args.length ≤ 17592186044416) :
    Calls Tryz.prog 14 #[r, .agg #[.int .i64 6, .int .i64 n, .int .i64 m, v3, v4, v5, v6, v7, .slice a p.length cap]] w fun e w' => e = .returned (.bool true) ∧ Below w.heap.size w w' := by
  have HS := hid (fun (W : World) (hW : Below w.heap.size w W) => source_check hC r n m v3 v4 v5 v6 v7 a cap p W (hr.below hW) hlen hbody)
  clear hr hbody hC
  generalize p.length = pl at *
  go_enter Tryz.func14, Tryz.ntmps14
  go_wp2_with fail
  refine (HS.out _ ((Below.refl _ _).alloc (Nat.le_refl _) _)).mono ?_
  rintro e w1 ⟨rfl, hb⟩
  go_wp2
  go_ret
  exact ⟨rfl, ((Below.refl _ _).alloc (Nat.le_refl _) _).trans (hb.mono (by simp))⟩

set_option maxHeartbeats 2000000 in
set_option maxRecDepth 100000 in
theorem step_write (g : Nat) (n m : Int) (v3 v4 v5 v6 v7 v8 : Value) (w : World) (h : Bare w g) (hm : R64 m) :
    Calls Tryz.prog 14 #[.pointer (some ⟨g, 0, none⟩), .agg #[.int .i64 18, .int .i64 n, .int .i64 m, v3, v4, v5, v6, v7, v8]] w fun e w' => e = .returned (.bool true) ∧ Below w.heap.size w w' := by
  have HS := hid (fun (W : World) (hW : Below w.heap.size w W) => write_bare g 18 n m v3 v4 v5 v6 v7 v8 W (h.below hW) hm)
  clear h hm
  go_enter Tryz.func14, Tryz.ntmps14
  go_wp2_with fail
  refine (HS.out _ ((Below.refl _ _).alloc (Nat.le_refl _) _)).mono ?_
  rintro e w1 ⟨rfl, hb⟩
  go_wp2
  go_ret
  exact ⟨rfl, ((Below.refl _ _).alloc (Nat.le_refl _) _).trans (hb.mono (by simp))⟩
end Go.Proofs.YtooinlilplecpaaGreatDoor
