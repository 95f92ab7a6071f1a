/- The contract of the statement's own function funcStill: at a function as it was handed in it returns true; nothing that was there is written. The contract of the statement's own function programOf: it gives a program to hand in, with eight marks behind its functions; nothing that was there is written. The contract of the statement's own function programStill: at a program as it was handed in it returns true; nothing that was there is written. Contracts of the statement's own functions write, marked and looks where no list has come out yet: nothing is done, and the look answers true. Contracts of the statement's own functions write, source and step at a Check and at the caller's writing, where no list has come out, out of a contract of unfold.Check that is taken as a premise. -/
import Derived.Test.YtooinlilplecpabH4
import Derived.Test.YtooinlilplecpabBC
namespace Go.Proofs.Ytooinlilplecpab
open Go.RowKit

theorem HdB.below {w w' : World} {base : Nat} {orig : Nat → Option Value} {l : List OpD} {g : Nat} (h : HdB w base orig l g) (hb : Below w.heap.size w w') : HdB w' base orig l g := by
  obtain ⟨done, h1, h2, h3, h4⟩ := h
  exact ⟨done, h1, h2, h3.mono (fun _ _ _ h => h.below hb), owns_below h4 hb⟩
theorem HdB.lower {w : World} {base base' : Nat} {orig : Nat → Option Value} {l : List OpD} {g : Nat} (h : HdB w base orig l g) (hb : base' ≤ base) : HdB w base' orig l g := by
  obtain ⟨done, h1, h2, h3, h4⟩ := h
  refine ⟨done, h1, h2, ?_, owns_lower h4 hb⟩
  intro i o hi ho
  obtain ⟨aa, acap, hv, e1, e2, e3⟩ := h3 i o hi ho
  exact ⟨aa, acap, hv, e1, e2, e3.lower hb⟩

/-- The cells of one op of a body that was handed in. -/
theorem HdB.at {w : World} {base : Nat} {orig : Nat → Option Value} {l : List OpD} {g : Nat} (h : HdB w base orig l g) (i : Nat) (o : OpD) (ho : l[i]? = some o) :
    ∃ aa acap hv, orig i = some (.slice aa o.args.length acap) ∧ HdI w base aa o.args hv ∧ ∀ j v, (opCells o hv)[j]? = some v → w.cell? ⟨g, i * 6 + j, none⟩ = some v := by
  obtain ⟨done, h1, h2, h3, h4⟩ := h
  have hi := (List.getElem?_eq_some_iff.1 ho).1
  obtain ⟨aa, acap, hv, e1, e2, e3⟩ := h3 i o (by omega) ho
  refine ⟨aa, acap, hv, e1, e3, fun j v hj => ?_⟩
  have hj6 : j < 6 := by
    rcases Nat.lt_or_ge j 6 with h | h
    · exact h
    · rw [List.getElem?_eq_none (by simpa [opCells] using h)] at hj; cases hj
  have hall : ∀ e ∈ done ++ List.replicate 8 markOp, e.length = 6 := by
    intro e he
    rcases List.mem_append.1 he with h | h
    · exact h2 e h
    · rw [List.eq_of_mem_replicate h]; rfl
  have := h4.cellAt (i * 6 + j) (by omega)
  rw [flatten_get 6 _ i j hall (by simp; omega) hj6] at this
  have hd : (done ++ List.replicate 8 markOp).getD i [] = opCells o hv := by
    simp only [List.getD]
    rw [List.getElem?_append_left (by omega), e2]
    rfl
  rw [hd, hj] at this
  exact this
/-- The marks behind a body that was handed in. -/
theorem HdB.mark {w : World} {base : Nat} {orig : Nat → Option Value} {l : List OpD} {g : Nat} (h : HdB w base orig l g) (k : Nat) (hk : k < 8) : ∀ j v, markOp[j]? = some v → w.cell? ⟨g, (l.length + k) * 6 + j, none⟩ = some v := by
  intro j v hj
  obtain ⟨done, h1, h2, _, h4⟩ := h
  have hj6 : j < 6 := by
    rcases Nat.lt_or_ge j 6 with h | h
    · exact h
    · rw [List.getElem?_eq_none (by simpa [markOp] using h)] at hj; cases hj
  have hall : ∀ e ∈ done ++ List.replicate 8 markOp, e.length = 6 := by
    intro e he
    rcases List.mem_append.1 he with h | h
    · exact h2 e h
    · rw [List.eq_of_mem_replicate h]; rfl
  have := h4.cellAt ((l.length + k) * 6 + j) (by omega)
  rw [flatten_get 6 _ (l.length + k) j hall (by simp; omega) hj6] at this
  have hd : (done ++ List.replicate 8 markOp).getD (l.length + k) [] = markOp := by
    simp only [List.getD]
    rw [List.getElem?_append_right (by omega), h1, Nat.add_sub_cancel_left, List.getElem?_replicate_of_lt hk]
    rfl
  rw [hd, hj] at this
  exact this
/-- A body that was handed in reads as the body that it was made of. -/
theorem HdB.read {w : World} {base : Nat} {orig : Nat → Option Value} {l : List OpD} {g : Nat} (h : HdB w base orig l g) : RdL 6 RdOp w (some ⟨g, 0, none⟩) l.length (l.length + 8) l := by
  have hm : l.length + 8 ≤ maxLen := by
    obtain ⟨done, _, _, _, h4⟩ := h
    rcases h4.2 with ⟨h', _⟩ | ⟨g', cap', cur, h', _, _, _, hcm, _⟩
    · cases h'
    · cases h'; exact hcm
  refine ⟨rfl, by omega, hm, fun i o ho => ?_⟩
  obtain ⟨aa, acap, hv, _, hh, hc⟩ := h.at i o ho
  refine ⟨g, 0, opCells o hv, rfl, rfl, fun j v hj => by rw [Nat.zero_add]; exact hc j v hj, ?_⟩
  obtain ⟨a', cap', rfl, hr⟩ := hh.read
  exact ⟨a', cap', rfl, hr⟩

end Go.Proofs.Ytooinlilplecpab
namespace Go.Proofs.Ytooinlilplecpab
open Go.RowKit

theorem HdB.congr {w : World} {base : Nat} {orig orig' : Nat → Option Value} {l : List OpD} {g : Nat} (h : HdB w base orig l g) (he : ∀ i, i < l.length → orig i = orig' i) : HdB w base orig' l g := by
  obtain ⟨done, h1, h2, h3, h4⟩ := h
  refine ⟨done, h1, h2, ?_, h4⟩
  intro i o hi ho
  obtain ⟨aa, acap, hv, e1, e2, e3⟩ := h3 i o hi ho
  exact ⟨aa, acap, hv, by rw [← he i (List.getElem?_eq_some_iff.1 ho).1]; exact e1, e2, e3⟩
theorem HdB.setE {w : World} {base : Nat} {orig : Nat → Option Value} {l : List OpD} {g : Nat} (h : HdB w base orig l g) {g' : Nat} {e : TypeId} (hg : IsE w g' e) (hne : 3 ≠ e) (hne2 : 50 ≠ e) (j : Nat) (u : Value) : HdB (w.setCell ⟨g', j, none⟩ u) base orig l g := by
  obtain ⟨done, h1, h2, h3, h4⟩ := h
  have hg2 := hg
  obtain ⟨cs, fz, hgg⟩ := hg2
  exact ⟨done, h1, h2, h3.mono (fun _ _ _ h => h.setE hg hne j u), ownsRow_setCell_other h4 (fun e => owns_other' h4 hgg hne2 e.symm) u⟩

def fnCells (x : FnD) (g : Nat) : List Value := [.string x.name, .string x.file, .int .i64 x.params, .int .i64 x.locals, .slice (some ⟨g, 0, none⟩) x.body.length (x.body.length + 8)]
def zeroFn : List Value := [.string ⟨#[]⟩, .string ⟨#[]⟩, .int .i64 0, .int .i64 0, .slice none 0 0]
def markFn : List Value := [.string ⟨#[109, 97, 114, 107]⟩, .string ⟨#[]⟩, .int .i64 0, .int .i64 0, .slice none 0 0]

theorem Try.infoFn : (Try.prog.info? 45).map (fun i => (i.zero, i.size, i.bytes)) = some (some (.agg #[.string ⟨#[]⟩, .string ⟨#[]⟩, .int .i64 0, .int .i64 0, .slice none 0 0]), 5, 72) := by kernel_rfl

/-- Of the functions that have been laid. -/
def DoneF (w : World) (base : Nat) (w0 : World) (a : Option Addr) (p : List FnD) (done : List (List Value)) : Prop :=
  ∀ i x, i < done.length → p[i]? = some x → ∃ b off ba bcap g, a = some ⟨b, off, none⟩ ∧ w0.cell? ⟨b, off + i * 5 + 4, none⟩ = some (.slice ba x.body.length bcap) ∧ done[i]? = some (fnCells x g) ∧
    HdB w base (fun j => ba.bind fun c => w0.cell? ⟨c.block, c.off + j * 6 + 5, none⟩) x.body g
theorem DoneF.mono {w w' : World} {base : Nat} {w0 : World} {a : Option Addr} {p : List FnD} {done : List (List Value)} (h : DoneF w base w0 a p done) (hm : ∀ orig l g, HdB w base orig l g → HdB w' base orig l g) : DoneF w' base w0 a p done := by
  intro i x hi hx
  obtain ⟨b, off, ba, bcap, g, h1, h2, h3, h4⟩ := h i x hi hx
  exact ⟨b, off, ba, bcap, g, h1, h2, h3, hm _ _ _ h4⟩
theorem DoneF.snoc {w : World} {base : Nat} {w0 : World} {a : Option Addr} {p : List FnD} {done : List (List Value)} (h : DoneF w base w0 a p done) (x : FnD) (hx : p[done.length]? = some x) (b off : Nat) (ba : Option Addr) (bcap g : Nat)
    (h1 : a = some ⟨b, off, none⟩) (h2 : w0.cell? ⟨b, off + done.length * 5 + 4, none⟩ = some (.slice ba x.body.length bcap)) (h3 : HdB w base (fun j => ba.bind fun c => w0.cell? ⟨c.block, c.off + j * 6 + 5, none⟩) x.body g) : DoneF w base w0 a p (done ++ [fnCells x g]) := by
  intro i x' hi hx'
  rw [List.length_append, List.length_singleton] at hi
  by_cases hlt : i < done.length
  · obtain ⟨b', off', ba', bcap', g', e1, e2, e3, e4⟩ := h i x' hlt hx'
    exact ⟨b', off', ba', bcap', g', e1, e2, by rw [List.getElem?_append_left hlt]; exact e3, e4⟩
  · have : i = done.length := by omega
    subst this
    rw [hx] at hx'
    cases hx'
    exact ⟨b, off, ba, bcap, g, h1, h2, by simp, h3⟩

/-- The functions of a program that is handed in. -/
def HdP (w : World) (base : Nat) (w0 : World) (a : Option Addr) (p : List FnD) (g : Nat) : Prop :=
  ∃ done, done.length = p.length ∧ (∀ e ∈ done, e.length = 5) ∧ DoneF w base w0 a p done ∧
    w.ownsRow base 45 5 (.slice (some ⟨g, 0, none⟩) (p.length + 8) (p.length + 8)) (p.length + 8) (done ++ List.replicate 8 markFn).flatten

/-- A whole entry of five cells stored into a row of the call's own. -/
theorem stored5 {w : World} {base g n cap : Nat} {e : TypeId} {ess : List (List Value)} (h : w.ownsRow base e 5 (.slice (some ⟨g, 0, none⟩) n cap) n ess.flatten) (hk : ∀ c ∈ ess, c.length = 5) (i : Nat) (hi : i < ess.length) (v0 v1 v2 v3 v4 : Value) :
    (((((w.setCell ⟨g, i * 5, none⟩ v0).setCell ⟨g, i * 5 + 1, none⟩ v1).setCell ⟨g, i * 5 + 2, none⟩ v2).setCell ⟨g, i * 5 + 3, none⟩ v3).setCell ⟨g, i * 5 + 4, none⟩ v4).ownsRow base e 5 (.slice (some ⟨g, 0, none⟩) n cap) n
      (ess.set i [v0, v1, v2, v3, v4]).flatten := by
  have hc : (ess.getD i []).length = 5 := hk _ (by simp [List.getD, hi])
  match hcc : ess.getD i [], hc with
  | [x0, x1, x2, x3, x4], _ =>
    have s0 := (h.stored (i * 5 + 0) v0).1
    rw [flatten_set 5 ess i 0 v0 hk hi (by omega), hcc] at s0
    have k0 := set_all_len hk i ([x0, x1, x2, x3, x4].set 0 v0) rfl
    have s1 := (s0.stored (i * 5 + 1) v1).1
    rw [flatten_set 5 _ i 1 v1 k0 (by simpa using hi) (by omega)] at s1
    have g1 : (ess.set i ([x0, x1, x2, x3, x4].set 0 v0)).getD i [] = [v0, x1, x2, x3, x4] := by simp [List.getD, hi]
    rw [g1, List.set_set] at s1
    have k1 := set_all_len hk i ([v0, x1, x2, x3, x4].set 1 v1) rfl
    have s2 := (s1.stored (i * 5 + 2) v2).1
    rw [flatten_set 5 _ i 2 v2 k1 (by simpa using hi) (by omega)] at s2
    have g2 : (ess.set i ([v0, x1, x2, x3, x4].set 1 v1)).getD i [] = [v0, v1, x2, x3, x4] := by simp [List.getD, hi]
    rw [g2, List.set_set] at s2
    have k2 := set_all_len hk i ([v0, v1, x2, x3, x4].set 2 v2) rfl
    have s3 := (s2.stored (i * 5 + 3) v3).1
    rw [flatten_set 5 _ i 3 v3 k2 (by simpa using hi) (by omega)] at s3
    have g3 : (ess.set i ([v0, v1, x2, x3, x4].set 2 v2)).getD i [] = [v0, v1, v2, x3, x4] := by simp [List.getD, hi]
    rw [g3, List.set_set] at s3
    have k3 := set_all_len hk i ([v0, v1, v2, x3, x4].set 3 v3) rfl
    have s4 := (s3.stored (i * 5 + 4) v4).1
    rw [flatten_set 5 _ i 4 v4 k3 (by simpa using hi) (by omega)] at s4
    have g4 : (ess.set i ([v0, v1, v2, x3, x4].set 3 v3)).getD i [] = [v0, v1, v2, v3, x4] := by simp [List.getD, hi]
    rw [g4, List.set_set] at s4
    exact s4

end Go.Proofs.Ytooinlilplecpab
namespace Go.Proofs.Ytooinlilplecpab
open Go.RowKit

theorem HdP.below {w w' : World} {base : Nat} {w0 : World} {a : Option Addr} {p : List FnD} {g : Nat} (h : HdP w base w0 a p g) (hb : Below w.heap.size w w') : HdP w' base w0 a p g := by
  obtain ⟨done, h1, h2, h3, h4⟩ := h
  exact ⟨done, h1, h2, h3.mono (fun _ _ _ h => h.below hb), owns_below h4 hb⟩

/-- The cells of one function that was handed in. -/
theorem HdP.at {w : World} {base : Nat} {w0 : World} {a : Option Addr} {p : List FnD} {g : Nat} (h : HdP w base w0 a p g) (i : Nat) (x : FnD) (hx : p[i]? = some x) :
    ∃ b off ba bcap gi, a = some ⟨b, off, none⟩ ∧ w0.cell? ⟨b, off + i * 5 + 4, none⟩ = some (.slice ba x.body.length bcap) ∧ HdB w base (fun j => ba.bind fun c => w0.cell? ⟨c.block, c.off + j * 6 + 5, none⟩) x.body gi ∧
      ∀ j v, (fnCells x gi)[j]? = some v → w.cell? ⟨g, i * 5 + j, none⟩ = some v := by
  obtain ⟨done, h1, h2, h3, h4⟩ := h
  have hi := (List.getElem?_eq_some_iff.1 hx).1
  obtain ⟨b, off, ba, bcap, gi, e1, e2, e3, e4⟩ := h3 i x (by omega) hx
  refine ⟨b, off, ba, bcap, gi, e1, e2, e4, fun j v hj => ?_⟩
  have hj5 : j < 5 := by
    rcases Nat.lt_or_ge j 5 with h | h
    · exact h
    · rw [List.getElem?_eq_none (by simpa [fnCells] using h)] at hj; cases hj
  have hall : ∀ e ∈ done ++ List.replicate 8 markFn, e.length = 5 := by
    intro e he
    rcases List.mem_append.1 he with h | h
    · exact h2 e h
    · rw [List.eq_of_mem_replicate h]; rfl
  have := h4.cellAt (i * 5 + j) (by omega)
  rw [flatten_get 5 _ i j hall (by simp; omega) hj5] at this
  have hd : (done ++ List.replicate 8 markFn).getD i [] = fnCells x gi := by
    simp only [List.getD]
    rw [List.getElem?_append_left (by omega), e3]
    rfl
  rw [hd, hj] at this
  exact this
theorem HdP.mark {w : World} {base : Nat} {w0 : World} {a : Option Addr} {p : List FnD} {g : Nat} (h : HdP w base w0 a p g) (k : Nat) (hk : k < 8) : ∀ j v, markFn[j]? = some v → w.cell? ⟨g, (p.length + k) * 5 + j, none⟩ = some v := by
  intro j v hj
  obtain ⟨done, h1, h2, _, h4⟩ := h
  have hj5 : j < 5 := by
    rcases Nat.lt_or_ge j 5 with h | h
    · exact h
    · rw [List.getElem?_eq_none (by simpa [markFn] using h)] at hj; cases hj
  have hall : ∀ e ∈ done ++ List.replicate 8 markFn, e.length = 5 := by
    intro e he
    rcases List.mem_append.1 he with h | h
    · exact h2 e h
    · rw [List.eq_of_mem_replicate h]; rfl
  have := h4.cellAt ((p.length + k) * 5 + j) (by omega)
  rw [flatten_get 5 _ (p.length + k) j hall (by simp; omega) hj5] at this
  have hd : (done ++ List.replicate 8 markFn).getD (p.length + k) [] = markFn := by
    simp only [List.getD]
    rw [List.getElem?_append_right (by omega), h1, Nat.add_sub_cancel_left, List.getElem?_replicate_of_lt hk]
    rfl
  rw [hd, hj] at this
  exact this
/-- A program that was handed in reads as the program that it was made of. -/
theorem HdP.read {w : World} {base : Nat} {w0 : World} {a : Option Addr} {p : List FnD} {g : Nat} (h : HdP w base w0 a p g) (hs : ∀ x ∈ p, x.name.size ≤ maxLen ∧ x.file.size ≤ maxLen) : RdP w (some ⟨g, 0, none⟩) p.length (p.length + 8) p := by
  have hm : p.length + 8 ≤ maxLen := by
    obtain ⟨done, _, _, _, h4⟩ := h
    rcases h4.2 with ⟨h', _⟩ | ⟨g', cap', cur, h', _, _, _, hcm, _⟩
    · cases h'
    · cases h'; exact hcm
  refine ⟨rfl, by omega, hm, fun i x hx => ?_⟩
  obtain ⟨_, _, _, _, gi, _, _, hh, hc⟩ := h.at i x hx
  have hsz := hs x (List.mem_of_getElem? hx)
  exact ⟨g, 0, fnCells x gi, rfl, rfl, fun j v hj => by rw [Nat.zero_add]; exact hc j v hj, some ⟨gi, 0, none⟩, x.body.length + 8, rfl, hh.read, hsz.1, hsz.2⟩

end Go.Proofs.Ytooinlilplecpab
namespace Go.Proofs.Ytooinlilplecpab
open Go.RowKit

def nils : Array Value := #[.slice none 0 0, .slice none 0 0, .slice none 0 0, .slice none 0 0, .slice none 0 0, .slice none 0 0, .slice none 0 0, .slice none 0 0, .slice none 0 0]
end Go.Proofs.Ytooinlilplecpab
namespace Go.Proofs.Ytooinlilplecpab
open Go.RowKit

end Go.Proofs.Ytooinlilplecpab
