/- Rows of entries of several cells each: reading, storing, and what make lays. Contract of unfoldref.under: frames written anew. Contract of unfoldref.Begun. The contract of the statement's own function funcOf: it gives a function to hand in, its body with eight marks behind it; nothing that was there is written. Contracts of the statement's own functions sameOp and sameFunc: at two readings of one op, of one function, they return true; nothing that was there is written. Contract of the statement's own sameFrames. A run of a program as plain data: one step, what holds behind each step, and that a step keeps it; nothing is claimed of the program here. -/
import Derived.Test.YtebjndcokkefhaaDoorZ3
import Derived.OneCell
import Derived.RegionTactic
import Derived.BigRegion
import Derived.Deep.RegionWith
namespace Go.Proofs.YtebjndcokkefhaaDoor
open Go.RowKit

theorem flatten_len (k : Nat) : ∀ (ess : List (List Value)), (∀ e ∈ ess, e.length = k) → ess.flatten.length = ess.length * k
  | [], _ => by simp
  | e :: r, h => by
    have h1 := h e (by simp)
    have h2 := flatten_len k r (fun x hx => h x (by simp [hx]))
    simp only [List.flatten_cons, List.length_append, List.length_cons, h1, h2, Nat.add_mul]; omega
theorem flatten_get (k : Nat) : ∀ (ess : List (List Value)) (i j : Nat), (∀ e ∈ ess, e.length = k) → i < ess.length → j < k → ess.flatten[i * k + j]? = (ess.getD i [])[j]?
  | [], i, _, _, h, _ => by simp at h
  | e :: r, 0, j, hk, _, hj => by
    have h1 := hk e (by simp)
    rw [Nat.zero_mul, Nat.zero_add, List.flatten_cons, List.getElem?_append_left (by omega)]
    rfl
  | e :: r, i + 1, j, hk, hi, hj => by
    have h1 := hk e (by simp)
    have ih := flatten_get k r i j (fun x hx => hk x (by simp [hx])) (by simpa using hi) hj
    have e1 : (i + 1) * k + j = k + (i * k + j) := by rw [Nat.add_mul]; omega
    rw [List.flatten_cons, List.getElem?_append_right (by omega), h1, e1, Nat.add_sub_cancel_left, ih]
    rfl
theorem flatten_set (k : Nat) : ∀ (ess : List (List Value)) (i j : Nat) (v : Value), (∀ e ∈ ess, e.length = k) → i < ess.length → j < k → ess.flatten.set (i * k + j) v = (ess.set i ((ess.getD i []).set j v)).flatten
  | [], i, _, _, _, h, _ => by simp at h
  | e :: r, 0, j, v, hk, _, hj => by
    have h1 := hk e (by simp)
    rw [Nat.zero_mul, Nat.zero_add, List.flatten_cons, List.set_append_left _ _ (by omega)]
    rfl
  | e :: r, i + 1, j, v, hk, hi, hj => by
    have h1 := hk e (by simp)
    have ih := flatten_set k r i j v (fun x hx => hk x (by simp [hx])) (by simpa using hi) hj
    have e1 : (i + 1) * k + j = k + (i * k + j) := by rw [Nat.add_mul]; omega
    rw [List.flatten_cons, List.set_append_right _ _ (by omega), h1, e1, Nat.add_sub_cancel_left, ih]
    rfl
theorem set_all_len {k : Nat} {ess : List (List Value)} (h : ∀ e ∈ ess, e.length = k) (i : Nat) (c : List Value) (hc : c.length = k) : ∀ e ∈ ess.set i c, e.length = k := by
  intro e he
  rcases List.mem_or_eq_of_mem_set he with h' | h'
  · exact h e h'
  · rw [h']; exact hc

/-- A row of the call's own is not a block of another element type. -/
theorem owns_other' {w : World} {base : Nat} {e e' : TypeId} {size : Nat} {v : Value} {n : Nat} {xs : List Value} (h : w.ownsRow base e size v n xs) {g : Nat} {cs : Array Value} {fz : Nat × Nat} (hg : w.heap[g]? = some (.cells cs e' fz)) (hne : e ≠ e') : some g ≠ v.ownBlock := by
  rcases h.2 with ⟨rfl, _⟩ | ⟨g', cap, cur, rfl, _, hh, _⟩
  · simp [Value.ownBlock]
  · intro hb
    simp [Value.ownBlock] at hb
    subst hb
    rw [hg] at hh
    injection hh with hh
    injection hh with _ hh _
    exact hne hh.symm

def opCells (o : OpD) (hv : Value) : List Value := [.int .i64 o.code, .int .i64 o.line, .int .i64 o.a, .int .i64 o.b, .int .i64 o.c, hv]
def zeroOp : List Value := [.int .i64 0, .int .i64 0, .int .i64 0, .int .i64 0, .int .i64 0, .slice none 0 0]
def markOp : List Value := [.int .i64 0, .int .i64 77, .int .i64 0, .int .i64 0, .int .i64 0, .slice none 0 0]

theorem Tryd.infoOp : (Tryd.prog.info? 77).map (fun i => (i.zero, i.size, i.bytes)) = some (some (.agg #[.int .i64 0, .int .i64 0, .int .i64 0, .int .i64 0, .int .i64 0, .slice none 0 0]), 6, 64) := by kernel_rfl

theorem made_rows (z : List Value) (k n : Nat) (hk : z.length = k) (hp : 0 < k) : (madeCells z.toArray (n * k)).toList = (List.replicate n z).flatten := by
  apply List.ext_getElem?
  intro x
  have hall : ∀ e ∈ List.replicate n z, e.length = k := fun e he => by rw [List.eq_of_mem_replicate he]; exact hk
  by_cases hx : x < n * k
  · have hx2 : x / k < n := Nat.div_lt_of_lt_mul (by rw [Nat.mul_comm]; exact hx)
    have hm := Nat.mod_lt x hp
    have ex : x = x / k * k + x % k := by rw [Nat.mul_comm]; exact (Nat.div_add_mod x k).symm
    have hg := flatten_get k (List.replicate n z) (x / k) (x % k) hall (by simpa using hx2) hm
    rw [← ex] at hg
    rw [hg]
    have h1 : (List.replicate n z).getD (x / k) [] = z := by simp [List.getD, hx2]
    rw [h1]
    have h2 : z.toArray.size = k := by simpa using hk
    simp only [madeCells, Array.toList_map, Array.toList_range, List.getElem?_map, List.getElem?_range hx, Option.map_some, h2]
    rw [List.getElem?_eq_getElem (by omega)]
    congr 1
    rw [getElem!_pos _ _ (by simp; omega)]
    simp
  · rw [List.getElem?_eq_none (by rw [Array.length_toList, size_madeCells]; omega), List.getElem?_eq_none (by rw [flatten_len k _ hall]; simp; omega)]
end Go.Proofs.YtebjndcokkefhaaDoor
namespace Go.Proofs.YtebjndcokkefhaaDoor
open Go.RowKit

theorem add0' (g j : Nat) : (⟨g, 0, none⟩ : Addr).add j = ⟨g, 0 + j, none⟩ := by unfold Addr.add; split <;> simp_all
theorem RdL_of_owns {α : Type} {size : Nat} {R : World → List Value → α → Prop} {w : World} {base : Nat} {e : TypeId} {v : Value} {n : Nat} {css : List (List Value)} {ls : List α} (h : w.ownsRow base e size v n css.flatten) (hk : ∀ c ∈ css, c.length = size) (hl : css.length = n) (hls : ls.length = n)
    (hR : ∀ (i : Nat) (x : α) (cs : List Value), ls[i]? = some x → css[i]? = some cs → R w cs x) : ∃ a cap, v = .slice a n cap ∧ RdL size R w a n cap ls := by
  have hc := fun g hg => h.cells (g := g) hg
  rcases h.2 with ⟨rfl, rfl⟩ | ⟨g, cap, cur, rfl, _, hh, h1, h2, _⟩
  · exact ⟨none, 0, rfl, hls, Nat.le_refl _, by unfold maxLen; omega, fun i x hx => by
      have := (List.getElem?_eq_some_iff.1 hx).1
      omega⟩
  · refine ⟨_, cap, rfl, hls, h1, h2, fun i x hx => ?_⟩
    have hi : i < css.length := by
      have := (List.getElem?_eq_some_iff.1 hx).1
      omega
    have hcs : css[i]? = some (css.getD i []) := by simp [List.getD, hi]
    have hlen := hk _ (List.mem_of_getElem? hcs)
    refine ⟨g, 0, css.getD i [], rfl, hlen, fun j v hj => ?_, hR i x _ hx hcs⟩
    have hj' : j < size := by
      have := (List.getElem?_eq_some_iff.1 hj).1
      omega
    have := hc g rfl (i * size + j) v (by rw [flatten_get size css i j hk hi hj']; exact hj)
    rw [add0'] at this
    rw [Nat.add_assoc]
    exact this

end Go.Proofs.YtebjndcokkefhaaDoor
namespace Go.Proofs.YtebjndcokkefhaaDoor
open Go.RowKit

/-- How a run stands. -/
structure StandD where
  status : Int
  value : Int
  live : List LiveD
def RdStand (w : World) (cs : List Value) (s : StandD) : Prop :=
  ∃ a cap, cs = [.int .i64 s.status, .int .i64 s.value, .slice a s.live.length cap] ∧ RdL 3 RdLive w a s.live.length cap s.live
theorem RdStand.below {w w' : World} {cs : List Value} {s : StandD} (h : RdStand w cs s) (hb : Below w.heap.size w w') : RdStand w' cs s := by
  obtain ⟨a, cap, e, hr⟩ := h
  exact ⟨a, cap, e, hr.below hb (fun _ _ h => h.below hb)⟩

end Go.Proofs.YtebjndcokkefhaaDoor
namespace Go.Proofs.YtebjndcokkefhaaDoor
open Go.RowKit

/-- A block of cells of this element type. -/
def IsE (w : World) (g : Nat) (e : TypeId) : Prop := ∃ cs fz, w.heap[g]? = some (.cells cs e fz)
theorem IsE.setCell {w : World} {g : Nat} {e : TypeId} (h : IsE w g e) (g' j : Nat) (u : Value) : IsE (w.setCell ⟨g', j, none⟩ u) g e := by
  obtain ⟨cs, fz, hg⟩ := h
  by_cases hne : g = g'
  · subst hne
    refine ⟨cs.setIfInBounds j u, fz, ?_⟩
    simp [World.setCell, Array.getElem?_modify, hg]
  · exact ⟨cs, fz, (Below.heap_setCell w ⟨g', j, none⟩ u g hne).trans hg⟩
theorem HdI.setE {w : World} {base : Nat} {a : Option Addr} {l : List Int} {hv : Value} (h : HdI w base a l hv) {g : Nat} {e : TypeId} (hg : IsE w g e) (hne : 3 ≠ e) (j : Nat) (u : Value) : HdI (w.setCell ⟨g, j, none⟩ u) base a l hv := by
  obtain ⟨cs, fz, hg⟩ := hg
  rcases h with h | ⟨h1, g', e', ho⟩
  · exact .inl h
  · exact .inr ⟨h1, g', e', ownsRow_setCell_other ho (fun e => owns_other' ho hg hne e.symm) u⟩

/-- Of the ops that have been laid: each has the cells of its op, and numbers that were made to be handed in. -/
def Done (w : World) (base : Nat) (orig : Nat → Option Value) (l : List OpD) (done : List (List Value)) : Prop :=
  ∀ i o, i < done.length → l[i]? = some o → ∃ aa acap hv, orig i = some (.slice aa o.args.length acap) ∧ done[i]? = some (opCells o hv) ∧ HdI w base aa o.args hv

theorem Done.mono {w w' : World} {base : Nat} {orig : Nat → Option Value} {l : List OpD} {done : List (List Value)} (h : Done w base orig l done) (hm : ∀ aa l hv, HdI w base aa l hv → HdI w' base aa l hv) : Done w' base orig l done := by
  intro i o hi ho
  obtain ⟨aa, acap, hv, h1, h2, h3⟩ := h i o hi ho
  exact ⟨aa, acap, hv, h1, h2, hm _ _ _ h3⟩
theorem Done.snoc {w : World} {base : Nat} {orig : Nat → Option Value} {l : List OpD} {done : List (List Value)} (h : Done w base orig l done) (o : OpD) (ho : l[done.length]? = some o) (aa : Option Addr) (acap : Nat) (hv : Value)
    (h1 : orig done.length = some (.slice aa o.args.length acap)) (h2 : HdI w base aa o.args hv) : Done w base orig l (done ++ [opCells o hv]) := by
  intro i o' hi ho'
  rw [List.length_append, List.length_singleton] at hi
  by_cases hlt : i < done.length
  · obtain ⟨aa', acap', hv', e1, e2, e3⟩ := h i o' hlt ho'
    exact ⟨aa', acap', hv', e1, by rw [List.getElem?_append_left hlt]; exact e2, e3⟩
  · have : i = done.length := by omega
    subst this
    rw [ho] at ho'
    cases ho'
    exact ⟨aa, acap, hv, h1, by simp, h2⟩

/-- The body of a function that is handed in. -/
def HdB (w : World) (base : Nat) (orig : Nat → Option Value) (l : List OpD) (g : Nat) : Prop :=
  ∃ done, done.length = l.length ∧ (∀ e ∈ done, e.length = 6) ∧ Done w base orig l done ∧
    w.ownsRow base 77 6 (.slice (some ⟨g, 0, none⟩) (l.length + 8) (l.length + 8)) (l.length + 8) (done ++ List.replicate 8 markOp).flatten

/-- A whole entry of six cells stored into a row of the call's own. -/
theorem stored6 {w : World} {base g n cap : Nat} {e : TypeId} {ess : List (List Value)} (h : w.ownsRow base e 6 (.slice (some ⟨g, 0, none⟩) n cap) n ess.flatten) (hk : ∀ c ∈ ess, c.length = 6) (i : Nat) (hi : i < ess.length) (v0 v1 v2 v3 v4 v5 : Value) :
    ((((((w.setCell ⟨g, i * 6, none⟩ v0).setCell ⟨g, i * 6 + 1, none⟩ v1).setCell ⟨g, i * 6 + 2, none⟩ v2).setCell ⟨g, i * 6 + 3, none⟩ v3).setCell ⟨g, i * 6 + 4, none⟩ v4).setCell ⟨g, i * 6 + 5, none⟩ v5).ownsRow base e 6 (.slice (some ⟨g, 0, none⟩) n cap) n
      (ess.set i [v0, v1, v2, v3, v4, v5]).flatten := by
  have hc : (ess.getD i []).length = 6 := hk _ (by simp [List.getD, hi])
  match hcc : ess.getD i [], hc with
  | [x0, x1, x2, x3, x4, x5], _ =>
    have s0 := (h.stored (i * 6 + 0) v0).1
    rw [flatten_set 6 ess i 0 v0 hk hi (by omega), hcc] at s0
    have k0 := set_all_len hk i ([x0, x1, x2, x3, x4, x5].set 0 v0) rfl
    have s1 := (s0.stored (i * 6 + 1) v1).1
    rw [flatten_set 6 _ i 1 v1 k0 (by simpa using hi) (by omega)] at s1
    have g1 : (ess.set i ([x0, x1, x2, x3, x4, x5].set 0 v0)).getD i [] = [v0, x1, x2, x3, x4, x5] := by simp [List.getD, hi]
    rw [g1, List.set_set] at s1
    have k1 := set_all_len hk i ([v0, x1, x2, x3, x4, x5].set 1 v1) rfl
    have s2 := (s1.stored (i * 6 + 2) v2).1
    rw [flatten_set 6 _ i 2 v2 k1 (by simpa using hi) (by omega)] at s2
    have g2 : (ess.set i ([v0, x1, x2, x3, x4, x5].set 1 v1)).getD i [] = [v0, v1, x2, x3, x4, x5] := by simp [List.getD, hi]
    rw [g2, List.set_set] at s2
    have k2 := set_all_len hk i ([v0, v1, x2, x3, x4, x5].set 2 v2) rfl
    have s3 := (s2.stored (i * 6 + 3) v3).1
    rw [flatten_set 6 _ i 3 v3 k2 (by simpa using hi) (by omega)] at s3
    have g3 : (ess.set i ([v0, v1, x2, x3, x4, x5].set 2 v2)).getD i [] = [v0, v1, v2, x3, x4, x5] := by simp [List.getD, hi]
    rw [g3, List.set_set] at s3
    have k3 := set_all_len hk i ([v0, v1, v2, x3, x4, x5].set 3 v3) rfl
    have s4 := (s3.stored (i * 6 + 4) v4).1
    rw [flatten_set 6 _ i 4 v4 k3 (by simpa using hi) (by omega)] at s4
    have g4 : (ess.set i ([v0, v1, v2, x3, x4, x5].set 3 v3)).getD i [] = [v0, v1, v2, v3, x4, x5] := by simp [List.getD, hi]
    rw [g4, List.set_set] at s4
    have k4 := set_all_len hk i ([v0, v1, v2, v3, x4, x5].set 4 v4) rfl
    have s5 := (s4.stored (i * 6 + 5) v5).1
    rw [flatten_set 6 _ i 5 v5 k4 (by simpa using hi) (by omega)] at s5
    have g5 : (ess.set i ([v0, v1, v2, v3, x4, x5].set 4 v4)).getD i [] = [v0, v1, v2, v3, v4, x5] := by simp [List.getD, hi]
    rw [g5, List.set_set] at s5
    exact s5

theorem set_mid {α : Type} (done : List α) (m : Nat) (z c : α) (s : Nat) (hs : done.length = s) (hm : 0 < m) : (done ++ List.replicate m z).set s c = (done ++ [c]) ++ List.replicate (m - 1) z := by
  obtain ⟨k, rfl⟩ : ∃ k, m = k + 1 := ⟨m - 1, by omega⟩
  rw [List.set_append_right _ _ (by omega), hs, Nat.sub_self, List.replicate_succ, List.set_cons_zero]
  simp

theorem marks_set {α : Type} (done : List α) (m z : α) (k n : Nat) (hn : done.length = n) (h : k < 8) : (done ++ (List.replicate k m ++ List.replicate (8 - k) z)).set (n + k) m = done ++ (List.replicate (k + 1) m ++ List.replicate (8 - (k + 1)) z) := by
  rw [List.set_append_right _ _ (by omega), hn, Nat.add_sub_cancel_left, List.set_append_right _ _ (by simp), List.length_replicate, Nat.sub_self]
  obtain ⟨q, hq⟩ : ∃ q, 8 - k = q + 1 := ⟨8 - k - 1, by omega⟩
  have hq2 : 8 - (k + 1) = q := by omega
  rw [hq, hq2, List.replicate_succ, List.set_cons_zero, List.replicate_succ']
  simp
theorem marks_at {α : Type} (done : List α) (m z d : α) (k n : Nat) (hn : done.length = n) (h : k < 8) : (done ++ (List.replicate k m ++ List.replicate (8 - k) z)).getD (n + k) d = z := by
  simp only [List.getD]
  rw [List.getElem?_append_right (by omega), hn, Nat.add_sub_cancel_left, List.getElem?_append_right (by simp), List.length_replicate, Nat.sub_self, List.getElem?_replicate_of_lt (by omega)]
  rfl

/-- The relation of funcOf's first loop. -/
def RelF (w : World) (base : Nat) (orig : Nat → Option Value) (l : List OpD) (g : Nat) (i : Value) (wr : World) : Prop :=
  ∃ (s : Nat) (done : List (List Value)), i = .int .i64 s ∧ s ≤ l.length ∧ done.length = s ∧ (∀ e ∈ done, e.length = 6) ∧ Done wr base orig l done ∧
    wr.ownsRow base 77 6 (.slice (some ⟨g, 0, none⟩) (l.length + 8) (l.length + 8)) (l.length + 8) (done ++ List.replicate (l.length + 8 - s) zeroOp).flatten ∧ Below w.heap.size w wr

end Go.Proofs.YtebjndcokkefhaaDoor
namespace Go.Proofs.YtebjndcokkefhaaDoor
open Go.RowKit

end Go.Proofs.YtebjndcokkefhaaDoor
namespace Go.Proofs.YtebjndcokkefhaaDoor
open Go.RowKit

/-- A frame that is told. -/
structure FrameD where
  func : ByteArray
  file : ByteArray
  line : Int
def frCells (x : FrameD) : List Value := [.string x.func, .string x.file, .int .i64 x.line]
def RdFrame (_ : World) (cs : List Value) (x : FrameD) : Prop := cs = frCells x

theorem RdL.frameAt {w : World} {a : Option Addr} {n cap : Nat} {l : List FrameD} (h : RdL 3 RdFrame w a n cap l) (i : Nat) (x : FrameD) (hx : l[i]? = some x) :
    ∃ b off, a = some ⟨b, off, none⟩ ∧ w.cell? ⟨b, off + i * 3, none⟩ = some (.string x.func) ∧ w.cell? ⟨b, off + i * 3 + 1, none⟩ = some (.string x.file) ∧ w.cell? ⟨b, off + i * 3 + 2, none⟩ = some (.int .i64 x.line) := by
  obtain ⟨b, off, cs, e, _, hc, rfl⟩ := h.2.2.2 i x hx
  exact ⟨b, off, e, hc 0 _ rfl, hc 1 _ rfl, hc 2 _ rfl⟩

end Go.Proofs.YtebjndcokkefhaaDoor
namespace Go.Proofs.YtebjndcokkefhaaDoor
open Go.RowKit

def noFn : FnD := ⟨⟨#[]⟩, ⟨#[]⟩, 0, 0, []⟩
def noOp : OpD := ⟨0, 0, 0, 0, 0, []⟩
def fnAt (p : List FnD) (n : Int) : FnD := (p[n.toNat]?).getD noFn
def fnOf (p : List FnD) (x : LiveD) : FnD := fnAt p x.fn
def opOf (p : List FnD) (x : LiveD) : OpD := ((fnOf p x).body[x.next.toNat]?).getD noOp
def locOf (x : LiveD) (k : Int) : Int := (x.locals[k.toNat]?).getD 0
def setL (x : LiveD) (k v next : Int) : LiveD := ⟨x.fn, next, x.locals.set k.toNat v⟩
def calleeD (p : List FnD) (x : LiveD) (o : OpD) : LiveD := ⟨o.b, 0, fillI (o.args.map (locOf x)) (fnAt p o.b).locals.toNat o.args.length⟩

/-- The next op of the innermost frame x, behind the others. -/
def stepTop (p : List FnD) (ini : List LiveD) (x : LiveD) : StandD :=
  if (opOf p x).code = 5 then
    if ini.length + 1 = 20 then ⟨3, 0, ini ++ [x]⟩ else ⟨0, 0, ini ++ [x] ++ [calleeD p x (opOf p x)]⟩
  else if (opOf p x).code = 6 then
    match ini.getLast? with
    | none => ⟨1, locOf x (opOf p x).a, []⟩
    | some c => ⟨0, 0, ini.dropLast ++ [setL c (opOf p c).a (locOf x (opOf p x).a) (c.next + 1)]⟩
  else if (opOf p x).code = 4 then ⟨0, 0, ini ++ [⟨x.fn, if locOf x (opOf p x).a = 0 then x.next + 1 else (opOf p x).b, x.locals⟩]⟩
  else if (opOf p x).code = 0 then ⟨0, 0, ini ++ [setL x (opOf p x).a (opOf p x).b (x.next + 1)]⟩
  else if (opOf p x).code = 3 ∧ locOf x (opOf p x).c = 0 then ⟨2, 0, ini ++ [x]⟩
  else ⟨0, 0, ini ++ [setL x (opOf p x).a (cnt (opOf p x).code (locOf x (opOf p x).b) (locOf x (opOf p x).c)) (x.next + 1)]⟩

def nextD (p : List FnD) (s : StandD) : StandD :=
  if s.status ≠ 0 then s else match s.live.getLast? with
    | none => s
    | some x => stepTop p s.live.dropLast x
def runD (p : List FnD) (s : StandD) : Nat → StandD
  | 0 => s
  | n + 1 => nextD p (runD p s n)
def begunD (p : List FnD) (args : List Int) : StandD := ⟨0, 0, [⟨0, 0, fillI args (fnAt p 0).locals.toNat args.length⟩]⟩
def toldD (p : List FnD) (s : StandD) : List FrameD := s.live.reverse.map fun x => ⟨(fnOf p x).name, (fnOf p x).file, (opOf p x).line⟩

/-- What Check asks of an op, said one by one. -/
structure OpOk (p : List FnD) (x : FnD) (s : Nat) (o : OpD) : Prop where
  line : 1 ≤ o.line ∧ o.line ≤ 9999
  a : 0 ≤ o.a ∧ o.a < x.locals
  code : 0 ≤ o.code ∧ o.code ≤ 6
  last : o.code ≠ 6 → s + 1 < x.body.length
  set : o.code = 0 → 0 ≤ o.b ∧ o.b < 1000
  three : o.code = 1 ∨ o.code = 2 ∨ o.code = 3 → (0 ≤ o.b ∧ o.b < x.locals) ∧ (0 ≤ o.c ∧ o.c < x.locals)
  jump : o.code = 4 → 0 ≤ o.b ∧ o.b < x.body.length
  call : o.code = 5 → 0 ≤ o.b ∧ o.b < p.length ∧ (fnAt p o.b).params = o.args.length ∧ ∀ n ∈ o.args, 0 ≤ n ∧ n < x.locals
structure FnOk (p : List FnD) (x : FnD) : Prop where
  locals : 1 ≤ x.locals ∧ x.locals ≤ 8
  params : 0 ≤ x.params ∧ x.params ≤ x.locals
  body : 1 ≤ x.body.length ∧ x.body.length ≤ 30
  ops : ∀ (s : Nat) (o : OpD), x.body[s]? = some o → OpOk p x s o
structure Good (p : List FnD) : Prop where
  len : 1 ≤ p.length ∧ p.length ≤ 12
  fns : ∀ (f : Nat) (x : FnD), p[f]? = some x → FnOk p x

theorem andB {a b : Bool} : (a && b) = true ↔ a = true ∧ b = true := by simp
theorem withB_true {n e : Int} (h : withB n e = true) : 0 ≤ n ∧ n < e := by simpa [withB] using h

theorem opOk_of {p : List FnD} {x : FnD} {s : Nat} {o : OpD} (hs : s < x.body.length) (h : opB p x s o = true) : OpOk p x s o := by
  unfold opB at h
  split at h
  · cases h
  · next h1 =>
    have h2 : (1 ≤ o.line ∧ o.line ≤ 9999) ∧ withB o.a x.locals = true := by
      simp only [Bool.or_eq_true, Bool.not_eq_true', not_or, decide_eq_false_iff_not, Bool.not_eq_false] at h1
      exact ⟨Decidable.not_not.1 h1.1, h1.2⟩
    obtain ⟨hl, ha⟩ := h2
    have ha := withB_true ha
    split at h
    · next h6 => exact ⟨hl, ha, by omega, fun h => absurd h6 h, by omega, by omega, by omega, by omega⟩
    · next h6 =>
      split at h
      · cases h
      · next hlast =>
        have hlt : s + 1 < x.body.length := by omega
        split at h
        · next k0 => exact ⟨hl, ha, by omega, fun _ => hlt, fun _ => withB_true h, by omega, by omega, by omega⟩
        · split at h
          · next k1 =>
            have h := andB.1 h
            exact ⟨hl, ha, by omega, fun _ => hlt, by omega, fun _ => ⟨withB_true h.1, withB_true h.2⟩, by omega, by omega⟩
          · split at h
            · next k4 => exact ⟨hl, ha, by omega, fun _ => hlt, by omega, by omega, fun _ => withB_true h, by omega⟩
            · split at h
              · next k5 =>
                refine ⟨hl, ha, by omega, fun _ => hlt, by omega, by omega, by omega, fun _ => ?_⟩
                unfold callB at h
                obtain ⟨hb, h2⟩ := andB.1 h
                obtain ⟨hp, hargs⟩ := andB.1 h2
                have hb := withB_true hb
                refine ⟨hb.1, hb.2, ?_, fun n hn => withB_true (List.all_eq_true.1 hargs n hn)⟩
                obtain ⟨y, hy⟩ : ∃ y, p[o.b.toNat]? = some y := ⟨_, List.getElem?_eq_getElem (by omega)⟩
                rw [hy] at hp
                simp only [fnAt, hy, Option.getD_some]
                simpa using hp
              · cases h

theorem chkB_none {p : List FnD} {x : FnD} {f : Nat} : ∀ {l : List OpD} {s : Nat}, chkB p x f l s = none → ∀ (i : Nat) (o : OpD), l[i]? = some o → opB p x (s + i) o = true
  | [], _, _, i, o, h => by simp at h
  | o' :: r, s, hn, i, o, h => by
    unfold chkB at hn
    split at hn
    · next h1 =>
      match i, h with
      | 0, h => simp at h; subst h; exact h1
      | i + 1, h =>
        have := chkB_none hn i o (by simpa using h)
        rw [show s + (i + 1) = s + 1 + i by omega]
        exact this
    · cases hn

theorem chkF_ok {p : List FnD} : ∀ {l : List FnD} {f : Nat}, chkF p l f = (0, 0, 0) → ∀ (i : Nat) (x : FnD), l[i]? = some x → headB p (f + i) x = true ∧ chkB p x (f + i) x.body 0 = none
  | [], _, _, i, x, h => by simp at h
  | x' :: r, f, hn, i, x, h => by
    unfold chkF at hn
    split at hn
    · next h1 =>
      split at hn
      · next e he =>
        exfalso
        have : ∀ (l : List OpD) (s : Nat) e, chkB p x' f l s = some e → e.1 = 7 := by
          intro l
          induction l with
          | nil => intro s e h; simp [chkB] at h
          | cons o r ih =>
            intro s e h
            unfold chkB at h
            split at h
            · exact ih _ _ h
            · cases h; rfl
        have := this _ _ _ he
        rw [hn] at this
        simp at this
      · next he =>
        match i, h with
        | 0, h => simp at h; subst h; exact ⟨h1, he⟩
        | i + 1, h =>
          have := chkF_ok hn i x (by simpa using h)
          rw [show f + (i + 1) = f + 1 + i by omega]
          exact this
    · simp at hn

theorem good_of {p : List FnD} (h : chk p = (0, 0, 0)) : Good p := by
  unfold chk at h
  split at h
  · simp at h
  · refine ⟨by omega, fun f x hx => ?_⟩
    obtain ⟨hh, hb⟩ := chkF_ok h f x hx
    unfold headB at hh
    simp only [Bool.and_eq_true, decide_eq_true_eq] at hh
    obtain ⟨_, ⟨h1, h2, h3, h4⟩, _, h5, h6⟩ := hh
    refine ⟨⟨h1, h2⟩, ⟨h3, h4⟩, ⟨h5, h6⟩, fun s o ho => ?_⟩
    have := chkB_none hb s o ho
    rw [Nat.zero_add] at this
    exact opOk_of (List.getElem?_eq_some_iff.1 ho).1 this

/-- A frame that a run may have. -/
structure WfLive (p : List FnD) (x : LiveD) : Prop where
  fn : 0 ≤ x.fn ∧ x.fn < p.length
  next : 0 ≤ x.next ∧ x.next < (fnOf p x).body.length
  locals : (x.locals.length : Int) = (fnOf p x).locals
  vals : ∀ v ∈ x.locals, 0 ≤ v ∧ v < 1000
structure Wf (p : List FnD) (s : StandD) : Prop where
  len : s.live.length ≤ 20
  runs : s.status = 0 → s.live ≠ [] ∧ s.value = 0
  live : ∀ x ∈ s.live, WfLive p x
  calls : ∀ x ∈ s.live.dropLast, (opOf p x).code = 5

theorem fnAt_some {p : List FnD} {n : Int} (h : 0 ≤ n ∧ n < p.length) : p[n.toNat]? = some (fnAt p n) := by
  obtain ⟨y, hy⟩ : ∃ y, p[n.toNat]? = some y := ⟨_, List.getElem?_eq_getElem (by omega)⟩
  rw [fnAt, hy]; rfl
theorem opOf_some {p : List FnD} {x : LiveD} (h : WfLive p x) : (fnOf p x).body[x.next.toNat]? = some (opOf p x) := by
  have := h.next
  obtain ⟨y, hy⟩ : ∃ y, (fnOf p x).body[x.next.toNat]? = some y := ⟨_, List.getElem?_eq_getElem (by omega)⟩
  rw [opOf, hy]; rfl
theorem fnOf_some {p : List FnD} {x : LiveD} (h : WfLive p x) : p[x.fn.toNat]? = some (fnOf p x) := fnAt_some h.fn
theorem WfLive.fnOk {p : List FnD} {x : LiveD} (g : Good p) (h : WfLive p x) : FnOk p (fnOf p x) := g.fns _ _ (fnOf_some h)
theorem WfLive.opOk {p : List FnD} {x : LiveD} (g : Good p) (h : WfLive p x) : OpOk p (fnOf p x) x.next.toNat (opOf p x) := (h.fnOk g).ops _ _ (opOf_some h)
theorem WfLive.loc {p : List FnD} {x : LiveD} (h : WfLive p x) {k : Int} (hk : 0 ≤ k ∧ k < (fnOf p x).locals) : x.locals[k.toNat]? = some (locOf x k) := by
  have := h.locals
  obtain ⟨y, hy⟩ : ∃ y, x.locals[k.toNat]? = some y := ⟨_, List.getElem?_eq_getElem (by omega)⟩
  rw [locOf, hy]; rfl
theorem WfLive.val {p : List FnD} {x : LiveD} (h : WfLive p x) {k : Int} (hk : 0 ≤ k ∧ k < (fnOf p x).locals) : 0 ≤ locOf x k ∧ locOf x k < 1000 :=
  h.vals _ (List.mem_of_getElem? (h.loc hk))

theorem WfLive.setL {p : List FnD} {x : LiveD} (h : WfLive p x) {k v next : Int} (hn : 0 ≤ next ∧ next < (fnOf p x).body.length) (hv : 0 ≤ v ∧ v < 1000) : WfLive p (setL x k v next) := by
  refine ⟨h.fn, hn, by show ((x.locals.set _ _).length : Int) = _; rw [List.length_set]; exact h.locals, fun u hu => ?_⟩
  rcases List.mem_or_eq_of_mem_set hu with h1 | h1
  · exact h.vals u h1
  · subst h1; exact hv

theorem cnt_range {code x y : Int} (hx : 0 ≤ x ∧ x < 1000) (hy : 0 ≤ y ∧ y < 1000) (hd : code = 3 → y ≠ 0) : 0 ≤ cnt code x y ∧ cnt code x y < 1000 := by
  unfold cnt
  split
  · next h =>
    have := hd h
    exact ⟨Int.ediv_nonneg hx.1 hy.1, by have := Int.ediv_le_self y hx.1; omega⟩
  · split <;> omega

theorem mem_fillI {args : List Int} {n j : Nat} {v : Int} (h : v ∈ fillI args n j) : v ∈ args ∨ v = 0 := by
  unfold fillI at h
  rcases List.mem_append.1 h with h | h
  · exact .inl (List.mem_of_mem_take h)
  · exact .inr (List.mem_replicate.1 h).2

theorem wf_begun {p : List FnD} {args : List Int} (g : Good p) (hl : (args.length : Int) = (fnAt p 0).params) (hv : ∀ v ∈ args, 0 ≤ v ∧ v < 1000) : Wf p (begunD p args) := by
  have hlen := g.len
  have h0 : (0 : Int) ≤ 0 ∧ (0 : Int) < p.length := by omega
  have hf := g.fns _ _ (fnAt_some h0)
  have h1 := hf.locals
  have h2 := hf.params
  have h3 := hf.body
  refine ⟨by simp [begunD], fun _ => ⟨by simp [begunD], rfl⟩, fun x hx => ?_, fun x hx => by simp [begunD] at hx⟩
  simp [begunD] at hx
  subst hx
  refine ⟨h0, ⟨Int.le_refl _, by show (0 : Int) < ((fnAt p 0).body.length : Int); omega⟩, ?_, fun v hv' => ?_⟩
  · show ((fillI _ _ _).length : Int) = (fnAt p 0).locals
    rw [fillI_len _ _ _ (Nat.le_refl _) (by omega)]; omega
  · rcases mem_fillI hv' with h | h
    · exact hv v h
    · subst h; omega

theorem wf_callee {p : List FnD} {x : LiveD} (g : Good p) (h : WfLive p x) (hc : (opOf p x).code = 5) : WfLive p (calleeD p x (opOf p x)) := by
  have ho := (h.opOk g).call hc
  have hf := g.fns _ _ (fnAt_some ⟨ho.1, ho.2.1⟩)
  have h1 := hf.locals
  have h2 := hf.params
  have h3 := hf.body
  have h4 := ho.2.2.1
  refine ⟨⟨ho.1, ho.2.1⟩, ⟨Int.le_refl _, by show (0 : Int) < ((fnAt p (opOf p x).b).body.length : Int); omega⟩, ?_, fun v hv => ?_⟩
  · show ((fillI _ _ _).length : Int) = (fnAt p (opOf p x).b).locals
    rw [fillI_len _ _ _ (by simp) (by simp; omega)]; omega
  · rcases mem_fillI hv with hm | hm
    · obtain ⟨k, hk, rfl⟩ := List.mem_map.1 hm
      exact h.val (ho.2.2.2 k hk)
    · subst hm; omega

theorem dropLast_getLast {α : Type} {l : List α} {x : α} (h : l.getLast? = some x) : l = l.dropLast ++ [x] := by
  obtain ⟨ys, rfl⟩ := List.getLast?_eq_some_iff.1 h
  simp

theorem wf_stepTop {p : List FnD} {ini : List LiveD} {x : LiveD} (g : Good p) (hlen : ini.length + 1 ≤ 20) (hini : ∀ y ∈ ini, WfLive p y) (hx : WfLive p x) (hc : ∀ y ∈ ini, (opOf p y).code = 5) : Wf p (stepTop p ini x) := by
  have ho := hx.opOk g
  have hnx := hx.next
  have snoc : ∀ y, WfLive p y → Wf p ⟨0, 0, ini ++ [y]⟩ := fun y hy => by
    refine ⟨by simpa using hlen, fun _ => ⟨by simp, rfl⟩, fun z hz => ?_, fun z hz => hc z (by simpa using hz)⟩
    rcases List.mem_append.1 hz with h | h
    · exact hini z h
    · rw [List.mem_singleton.1 h]; exact hy
  unfold stepTop
  split
  · next h5 =>
    split
    · refine ⟨by simpa using hlen, fun h => by simp at h, fun z hz => ?_, fun z hz => hc z (by simpa using hz)⟩
      rcases List.mem_append.1 hz with h | h
      · exact hini z h
      · rw [List.mem_singleton.1 h]; exact hx
    · refine ⟨by simp; omega, fun _ => ⟨by simp, rfl⟩, fun z hz => ?_, fun z hz => ?_⟩
      · rcases List.mem_append.1 hz with h | h
        · rcases List.mem_append.1 h with h | h
          · exact hini z h
          · rw [List.mem_singleton.1 h]; exact hx
        · rw [List.mem_singleton.1 h]; exact wf_callee g hx h5
      · have hz' : z ∈ ini ++ [x] := by
          have hz2 : z ∈ ((ini ++ [x]) ++ [calleeD p x (opOf p x)]).dropLast := hz
          rw [List.dropLast_concat] at hz2
          exact hz2
        rcases List.mem_append.1 hz' with h | h
        · exact hc z h
        · rw [List.mem_singleton.1 h]; exact h5
  · next h5 =>
    split
    · split
      · exact ⟨by simp, fun h => by simp at h, fun z hz => by simp at hz, fun z hz => by simp at hz⟩
      · next c hlast =>
        have hci : c ∈ ini := List.mem_of_getLast? hlast
        have hwc := hini c hci
        have hc5 := hc c hci
        have hoc := hwc.opOk g
        have hlt := hoc.last (by omega)
        have hcn := hwc.next
        have hd : ∀ z ∈ ini.dropLast, z ∈ ini := fun z hz => List.dropLast_subset _ hz
        refine ⟨?_, fun _ => ⟨by simp, rfl⟩, fun z hz => ?_, fun z hz => ?_⟩
        · simp; omega
        · rcases List.mem_append.1 hz with h | h
          · exact hini z (hd z h)
          · rw [List.mem_singleton.1 h]
            exact hwc.setL (by omega) (hx.val ho.a)
        · have hz2 : z ∈ (ini.dropLast ++ [setL c (opOf p c).a (locOf x (opOf p x).a) (c.next + 1)]).dropLast := hz
          rw [List.dropLast_concat] at hz2
          exact hc z (hd z hz2)
    · next h6 =>
      have hlt := ho.last h6
      split
      · next h4 =>
        apply snoc
        refine ⟨hx.fn, ?_, hx.locals, hx.vals⟩
        have hj := ho.jump h4
        show 0 ≤ (if locOf x (opOf p x).a = 0 then x.next + 1 else (opOf p x).b) ∧ (if locOf x (opOf p x).a = 0 then x.next + 1 else (opOf p x).b) < ((fnOf p x).body.length : Int)
        split <;> omega
      · split
        · next h0 => exact snoc _ (hx.setL (by omega) (ho.set h0))
        · split
          · refine ⟨by simpa using hlen, fun h => by simp at h, fun z hz => ?_, fun z hz => hc z (by simpa using hz)⟩
            rcases List.mem_append.1 hz with h | h
            · exact hini z h
            · rw [List.mem_singleton.1 h]; exact hx
          · next h4 h0 h3 =>
            have hcode := ho.code
            have hth := ho.three (by omega)
            exact snoc _ (hx.setL (by omega) (cnt_range (hx.val hth.1) (hx.val hth.2) (fun h hz => h3 ⟨h, hz⟩)))

theorem wf_next {p : List FnD} {s : StandD} (g : Good p) (h : Wf p s) : Wf p (nextD p s) := by
  unfold nextD
  split
  · exact h
  · split
    · exact h
    · next x hl =>
      have e := dropLast_getLast hl
      have hlen := h.len
      have hmem : ∀ z ∈ s.live.dropLast, z ∈ s.live := fun z hz => List.dropLast_subset _ hz
      refine wf_stepTop g ?_ (fun y hy => h.live y (hmem y hy)) (h.live x (List.mem_of_getLast? hl)) h.calls
      have : s.live.length = s.live.dropLast.length + 1 := by rw [e]; simp
      omega
theorem wf_run {p : List FnD} {s : StandD} (g : Good p) (h : Wf p s) : ∀ n, Wf p (runD p s n)
  | 0 => h
  | n + 1 => wf_next g (wf_run g h n)
end Go.Proofs.YtebjndcokkefhaaDoor
