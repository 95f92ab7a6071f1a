/- A program whose ops that are no Calls have lost their Args: it is as good, and its runs are the same; nothing is claimed of the program here. -/
import Derived.Test.YtooinlilplecpabR6
namespace Go.Proofs.Ytooinlilplecpab
open Go.RowKit

def stripO (o : OpD) : OpD := if o.code = 5 then o else ⟨o.code, o.line, o.a, o.b, o.c, []⟩
def stripF (x : FnD) : FnD := ⟨x.name, x.file, x.params, x.locals, x.body.map stripO⟩
def strip (p : List FnD) : List FnD := p.map stripF

theorem strip_code (o : OpD) : (stripO o).code = o.code := by unfold stripO; split <;> rfl
theorem strip_line (o : OpD) : (stripO o).line = o.line := by unfold stripO; split <;> rfl
theorem strip_a (o : OpD) : (stripO o).a = o.a := by unfold stripO; split <;> rfl
theorem strip_b (o : OpD) : (stripO o).b = o.b := by unfold stripO; split <;> rfl
theorem strip_c (o : OpD) : (stripO o).c = o.c := by unfold stripO; split <;> rfl
theorem strip_args {o : OpD} (h : o.code = 5) : (stripO o).args = o.args := by unfold stripO; rw [if_pos h]

theorem fnAt_strip (p : List FnD) (n : Int) : fnAt (strip p) n = stripF (fnAt p n) := by
  unfold fnAt strip
  rw [List.getElem?_map]
  cases p[n.toNat]? with
  | none => rfl
  | some x => rfl
theorem fnOf_strip (p : List FnD) (x : LiveD) : fnOf (strip p) x = stripF (fnOf p x) := fnAt_strip p x.fn
theorem opOf_strip (p : List FnD) (x : LiveD) : opOf (strip p) x = stripO (opOf p x) := by
  unfold opOf
  rw [fnOf_strip]
  show ((List.map stripO _)[_]?).getD noOp = _
  rw [List.getElem?_map]
  cases (fnOf p x).body[x.next.toNat]? with
  | none => rfl
  | some o => rfl

theorem stepTop_strip (p : List FnD) (ini : List LiveD) (x : LiveD) : stepTop (strip p) ini x = stepTop p ini x := by
  unfold stepTop
  simp only [opOf_strip, strip_code, strip_a, strip_b, strip_c]
  split
  · next h5 =>
    split
    · rfl
    · unfold calleeD
      rw [fnAt_strip, strip_b, strip_args h5]; rfl
  · rfl
theorem nextD_strip (p : List FnD) (s : StandD) : nextD (strip p) s = nextD p s := by
  unfold nextD
  simp only [stepTop_strip]
theorem runD_strip (p : List FnD) (s : StandD) : ∀ n, runD (strip p) s n = runD p s n
  | 0 => rfl
  | n + 1 => by show nextD _ _ = nextD _ _; rw [runD_strip p s n, nextD_strip]
theorem toldD_strip (p : List FnD) (s : StandD) : toldD (strip p) s = toldD p s := by
  unfold toldD
  simp only [fnOf_strip, opOf_strip, strip_line]; rfl
theorem begunD_strip (p : List FnD) (args : List Int) : begunD (strip p) args = begunD p args := by
  unfold begunD
  rw [fnAt_strip]; rfl

theorem good_strip {p : List FnD} (g : Good p) : Good (strip p) := by
  refine ⟨by simpa [strip] using g.len, fun f x hx => ?_⟩
  unfold strip at hx
  rw [List.getElem?_map] at hx
  obtain ⟨y, hy, rfl⟩ := Option.map_eq_some_iff.1 hx
  have hf := g.fns f y hy
  refine ⟨hf.locals, hf.params, by simpa [stripF] using hf.body, fun s o ho => ?_⟩
  have ho' : (y.body.map stripO)[s]? = some o := ho
  rw [List.getElem?_map] at ho'
  obtain ⟨q, hq, rfl⟩ := Option.map_eq_some_iff.1 ho'
  have hok := hf.ops s q hq
  have hbl : (stripF y).body.length = y.body.length := by simp [stripF]
  have hpl : (strip p).length = p.length := by simp [strip]
  refine ⟨by rw [strip_line]; exact hok.line, by rw [strip_a]; exact hok.a, by rw [strip_code]; exact hok.code, by rw [strip_code, hbl]; exact hok.last, by rw [strip_code, strip_b]; exact hok.set, by rw [strip_code, strip_b, strip_c]; exact hok.three, by rw [strip_code, strip_b, hbl]; exact hok.jump, fun h => ?_⟩
  rw [strip_code] at h
  rw [strip_b, hpl, strip_args h, fnAt_strip]
  exact hok.call h
end Go.Proofs.Ytooinlilplecpab
