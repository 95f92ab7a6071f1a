/- Contract of the developers' code.Lay: the codes of a program's functions, or what is wrong with it, the budget, or their size. The state of the developers' run in memory, and the contract of (*run.Run).call. Contract of the developers' (*run.Run).ret where there is a caller. Contract of the developers' program.copyBody: a body written anew, without the Args of what is no Call. Contract of the developers' program.Copy: a program written anew, without the Args of what is no Call. Contract of the developers' (*run.Run).State: what Told tells, in a list of its own. Contracts of the developers' machine.New and unfold.New: a machine that is let in is a run at its beginning, with the codes beside it. Contracts of the machine's method Step, the developers' own and unfold's; what is kept beside a machine. Contracts of the developers' code.PlaceOf, code.BegunAt, (*run.Run).Spots, machine.reversed. The pcs of a run, as plain data; bounds of codes; nothing is claimed of the program here. Contracts of the developers' (*run.Run).Spots and machine.reversed. Contract of the developers' code.entryOf: what the image tells of a function's code. A region that draws its order and whose last operation waits for all the others: that one is carried out behind them. Contract of the developers' code.Build and unfold.Build: the bytes of the image of a program's code. Contracts of unfoldkeep's letter and file: words. -/
import Derived.Test.YtffnfjkjlmlonaaGreatDoorZB15
import Derived.Test.YtffnfjkjlmlonaaGreatDoorZB14
import Derived.Deep.RegionWith
import Derived.Deep.AppendLies
import Derived.Deep.RegionLaw
import Derived.Deep.RegionHeld
import Derived.Test.YtffnfjkjlmlonaaGreatDoorZB13
import Derived.Test.YtffnfjkjlmlonaaGreatDoorZB3
import Derived.Test.YtffnfjkjlmlonaaGreatDoorZB0
import Derived.Deep.QuietTactic
import Derived.BigQuiet
import Derived.Deep.RegionHeldLaw
import Derived.Test.YtffnfjkjlmlonaaGreatDoorZB12
namespace Go.Proofs.YtffnfjkjlmlonaaGreatDoor
open Go.RowKit
/-- How places, a code and codes lie, only read. -/
def RdPl (w : World) (a : Option Addr) (len cap : Nat) (l : List PlD) : Prop := RdL 3 (fun _ cs x => cs = plCells x) w a len cap l
def RdNd (w : World) (a : Option Addr) (len cap : Nat) (l : List (Int × Int)) : Prop := RdL 2 (fun _ cs x => cs = ndCells x) w a len cap l
def RdCode (w : World) (cs : List Value) (c : CodeD) : Prop := ∃ pa pcap ta tcap, cs = [.int .i64 c.first, .slice pa c.places.length pcap, .slice ta c.tree.length tcap] ∧ RdPl w pa c.places.length pcap c.places ∧ RdNd w ta c.tree.length tcap c.tree
def RdC (w : World) (a : Option Addr) (len cap : Nat) (l : List CodeD) : Prop := RdL 3 RdCode w a len cap l
theorem rows_get {α : Type} (g : α → List Value) (k : Nat) (hg : ∀ x, (g x).length = k) : ∀ (l : List α) (i : Nat) (x : α), l[i]? = some x → ∀ (j : Nat) (v : Value), (g x)[j]? = some v → ((l.map g).flatten)[i * k + j]? = some v
  | [], i, x, h, _, _, _ => by simp at h
  | y :: r, 0, x, h, j, v, hv => by
    simp at h
    subst h
    have hj : j < (g y).length := (List.getElem?_eq_some_iff.1 hv).1
    rw [List.map_cons, List.flatten_cons, Nat.zero_mul, Nat.zero_add, List.getElem?_append_left hj]
    exact hv
  | y :: r, i + 1, x, h, j, v, hv => by
    have ih := rows_get g k hg r i x (by simpa using h) j v hv
    rw [List.map_cons, List.flatten_cons, List.getElem?_append_right (by rw [hg, Nat.succ_mul]; omega), hg]
    have : (i + 1) * k + j - k = i * k + j := by rw [Nat.succ_mul]; omega
    rw [this]
    exact ih
/-- A row that is owned, read in any world that has its block as it was. -/
theorem rd_row {α : Type} (g : α → List Value) (k : Nat) (hg : ∀ x, (g x).length = k) {w W : World} {base : Nat} {e : TypeId} {v : Value} {l : List α} (h : w.ownsRow base e k v l.length (l.map g).flatten) (hW : ∀ b, v.ownBlock = some b → W.heap[b]? = w.heap[b]?) :
    ∃ a cap, v = .slice a l.length cap ∧ RdL k (fun _ cs x => cs = g x) W a l.length cap l := by
  rcases h.2 with ⟨h1, h2⟩ | ⟨b, cap, cur, h1, h2, h3, h4, h5, h6, h7⟩
  · refine ⟨none, 0, by rw [h1, h2], rfl, by omega, by unfold maxLen; omega, fun i x hx => ?_⟩
    have := (List.getElem?_eq_some_iff.1 hx).1
    omega
  · refine ⟨some ⟨b, 0, none⟩, cap, h1, rfl, h4, h5, fun i x hx => ⟨b, 0, g x, rfl, hg x, fun j v' hv' => ?_, rfl⟩⟩
    have hget := rows_get g k hg l i x hx j v' hv'
    have hlt : i * k + j < l.length * k := by
      have := (List.getElem?_eq_some_iff.1 hget).1
      rw [h.1] at this
      exact this
    rw [h1] at h
    have hc := h.cellAt (i * k + j) hlt
    rw [hget] at hc
    have he : W.cell? ⟨b, i * k + j, none⟩ = w.cell? ⟨b, i * k + j, none⟩ := World.cell?_of_block (hW b (by rw [h1]; rfl))
    rw [Nat.zero_add]
    exact he.trans hc
/-- A code whose rows are owned, apart from the box wb and from the block L. -/
def CodeIn (wb : Nat) (L : Option Nat) (w : World) (cs : List Value) (c : CodeD) : Prop := ∃ pl tr, cs = [.int .i64 c.first, pl, tr] ∧ w.ownsRow (wb + 1) 270 3 pl c.places.length (c.places.map plCells).flatten ∧ w.ownsRow (wb + 1) 112 2 tr c.tree.length (c.tree.map ndCells).flatten ∧
  (∀ b, pl.ownBlock = some b → L ≠ some b) ∧ (∀ b, tr.ownBlock = some b → L ≠ some b)
theorem owns_same {w w' : World} {base : Nat} {e : TypeId} {size : Nat} {v : Value} {n : Nat} {xs : List Value} (h : w.ownsRow base e size v n xs) (hs : ∀ b, v.ownBlock = some b → w'.heap[b]? = w.heap[b]?) : w'.ownsRow base e size v n xs := by
  refine ⟨h.1, ?_⟩
  rcases h.2 with h2 | ⟨g, cap, cur, h1, h2, h3, h4⟩
  · exact .inl h2
  · exact .inr ⟨g, cap, cur, h1, h2, (hs g (by rw [h1]; rfl)).trans h3, h4⟩
theorem CodeIn.same {wb : Nat} {L L' : Option Nat} {w w' : World} {cs : List Value} {c : CodeD} (h : CodeIn wb L w cs c) (hs : ∀ b, wb + 1 ≤ b → b < w.heap.size → L ≠ some b → w'.heap[b]? = w.heap[b]? ∧ L' ≠ some b) : CodeIn wb L' w' cs c := by
  obtain ⟨pl, tr, e, h1, h2, h3, h4⟩ := h
  exact ⟨pl, tr, e, owns_same h1 (fun b hb => (hs b (h1.lt b hb).1 (h1.lt b hb).2 (h3 b hb)).1), owns_same h2 (fun b hb => (hs b (h2.lt b hb).1 (h2.lt b hb).2 (h4 b hb)).1), fun b hb => (hs b (h1.lt b hb).1 (h1.lt b hb).2 (h3 b hb)).2, fun b hb => (hs b (h2.lt b hb).1 (h2.lt b hb).2 (h4 b hb)).2⟩
theorem CodeIn.rd {wb : Nat} {L : Option Nat} {w W : World} {cs : List Value} {c : CodeD} (h : CodeIn wb L w cs c) (hW : ∀ b, wb ≤ b → b < w.heap.size → W.heap[b]? = w.heap[b]?) : RdCode W cs c := by
  obtain ⟨pl, tr, e, h1, h2, h3, h4⟩ := h
  obtain ⟨pa, pcap, e1, k1⟩ := rd_row plCells 3 (fun _ => rfl) h1 (fun b hb => hW b (by have := (h1.lt b hb).1; omega) (h1.lt b hb).2)
  obtain ⟨ta, tcap, e2, k2⟩ := rd_row ndCells 2 (fun _ => rfl) h2 (fun b hb => hW b (by have := (h2.lt b hb).1; omega) (h2.lt b hb).2)
  exact ⟨pa, pcap, ta, tcap, by rw [e, e1, e2], k1, k2⟩
end Go.Proofs.YtffnfjkjlmlonaaGreatDoor
namespace Go.Proofs.YtffnfjkjlmlonaaGreatDoor
open Go.RowKit
/-- What else is kept beside a run: the type of its box, what lies behind the run in it, and blocks that no step writes. -/
structure RX where
  T : TypeId
  ex : List Value
  K : Nat → Option Obj
def KeptX (X : RX) (rb : Nat) (w : World) (v : Value) : Prop := ∀ b o, X.K b = some o → w.heap[b]? = some o ∧ b ≠ rb ∧ v.ownBlock ≠ some b
theorem KeptX.below {X : RX} {rb : Nat} {w w' : World} {v : Value} (h : KeptX X rb w v) (hb : Below w.heap.size w w') : KeptX X rb w' v := fun b o hk => by
  obtain ⟨h1, h2, h3⟩ := h b o hk
  exact ⟨(hb.block b (Array.getElem?_eq_some_iff.1 h1).1).trans h1, h2, h3⟩
theorem KeptX.set {X : RX} {rb : Nat} {w : World} {v : Value} (h : KeptX X rb w v) (i : Nat) (u : Value) : KeptX X rb (w.setCell ⟨rb, i, none⟩ u) v := fun b o hk => by
  obtain ⟨h1, h2, h3⟩ := h b o hk
  exact ⟨(heap_setCell_other w ⟨rb, i, none⟩ b u h2).trans h1, h2, h3⟩
theorem KeptX.grown {X : RX} {rb : Nat} {w w' : World} {v : Value} {g : Nat} {n c : Nat} (h : KeptX X rb w v) (hg : w.grownBy w' v.ownBlock) (hat : v.ownBlock = some g ∨ g = w.heap.size) : KeptX X rb w' (.slice (some ⟨g, 0, none⟩) n c) := fun b o hk => by
  obtain ⟨h1, h2, h3⟩ := h b o hk
  have hlt := (Array.getElem?_eq_some_iff.1 h1).1
  refine ⟨(hg.block b hlt (fun e => h3 e.symm)).trans h1, h2, fun e => ?_⟩
  simp [Value.ownBlock] at e
  subst e
  rcases hat with h4 | h4
  · exact h3 h4
  · omega
/-- The run s of the program P lies in the box rb; w0 is the world behind the program's copy. -/
def RunAt (X : RX) (w0 : World) (P : List FnD) (rb : Nat) (w : World) (s : StandD) : Prop :=
  ∃ pa pcap v, w.heap[rb]? = some (.cells (Value.slice pa P.length pcap :: v :: .int .i64 s.status :: .int .i64 s.value :: X.ex).toArray X.T (0, 0)) ∧ RdP w0 pa P.length pcap P ∧ Below w0.heap.size w0 w ∧ w0.heap.size ≤ rb ∧ w.ownsRow w0.heap.size 248 10 v s.live.length (s.live.map frmCells).flatten ∧ v.ownBlock ≠ some rb ∧ KeptX X rb w v
theorem RunAt.below {X : RX} {w0 : World} {P : List FnD} {rb : Nat} {w w' : World} {s : StandD} (h : RunAt X w0 P rb w s) (hb : Below w.heap.size w w') : RunAt X w0 P rb w' s := by
  obtain ⟨pa, pcap, v, h1, h2, h3, h4, h5, h6, h7⟩ := h
  exact ⟨pa, pcap, v, (hb.block rb (Array.getElem?_eq_some_iff.1 h1).1).trans h1, h2, h3.trans (hb.mono h3.size), h4, ownsRow_below h5 hb, h6, h7.below hb⟩
end Go.Proofs.YtffnfjkjlmlonaaGreatDoor
namespace Go.Proofs.YtffnfjkjlmlonaaGreatDoor
open Go.RowKit
/-- Every block but g is as it was. -/
def ButG (g : Nat) (w W : World) : Prop := w.heap.size ≤ W.heap.size ∧ ∀ b, b < w.heap.size → b ≠ g → W.heap[b]? = w.heap[b]?
theorem ButG.refl (g : Nat) (w : World) : ButG g w w := ⟨Nat.le_refl _, fun _ _ _ => rfl⟩
theorem ButG.drew {g : Nat} {w W : World} (h : ButG g w W) : ButG g w W.drew := h
theorem ButG.below {g : Nat} {w W W' : World} (h : ButG g w W) (hb : Below W.heap.size W W') : ButG g w W' :=
  ⟨Nat.le_trans h.1 hb.size, fun b hlt hne => (hb.block b (Nat.lt_of_lt_of_le hlt h.1)).trans (h.2 b hlt hne)⟩
theorem ButG.setCell {g : Nat} {w W : World} (h : ButG g w W) (j : Nat) (u : Value) : ButG g w (W.setCell ⟨g, j, none⟩ u) :=
  ⟨by rw [World.size_setCell]; exact h.1, fun b hlt hne => (heap_setCell_other W ⟨g, j, none⟩ b u hne).trans (h.2 b hlt hne)⟩
theorem ButG.cell {g : Nat} {w W : World} (h : ButG g w W) {q : Addr} {u : Value} (hq : q.block ≠ g) (hc : w.cell? q = some u) : W.cell? q = some u := by
  have hlt := World.block_lt_of_cell? w _ hc
  have := h.2 q.block hlt hq
  unfold World.cell? at hc ⊢
  rw [this]; exact hc
end Go.Proofs.YtffnfjkjlmlonaaGreatDoor
namespace Go.Proofs.YtffnfjkjlmlonaaGreatDoor
open Go.RowKit
def RdOpU (U : Nat → Prop) (w : World) (cs : List Value) (o : OpD) : Prop :=
  ∃ a cap, cs = [.int .i64 o.code, .int .i64 o.line, .int .i64 o.a, .int .i64 o.b, .int .i64 o.c, .slice a o.args.length cap] ∧ Rd .i64 w a o.args.length cap o.args ∧ InU U a o.args.length
theorem RdOpU.keeps {U V : Nat → Prop} {w w' : World} {cs : List Value} {o : OpD} (h : RdOpU U w cs o) (hk : Keeps U w w') (hV : ∀ b, U b → b < w.heap.size → V b) : RdOpU V w' cs o := by
  obtain ⟨a, cap, e, hr, hU⟩ := h
  refine ⟨a, cap, e, hr.keeps hU hk, fun h0 q hq => hV _ (hU h0 q hq) ?_⟩
  obtain ⟨b, off, e2, hc⟩ := hr.cell 0 h0
  rw [hq] at e2
  cases e2
  exact World.block_lt_of_cell? w _ hc
end Go.Proofs.YtffnfjkjlmlonaaGreatDoor
namespace Go.Proofs.YtffnfjkjlmlonaaGreatDoor
open Go.RowKit
def RdFnU (U : Nat → Prop) (w : World) (cs : List Value) (f : FnD) : Prop :=
  ∃ a cap, cs = [.string f.name, .string f.file, .int .i64 f.params, .int .i64 f.locals, .slice a f.body.length cap] ∧ RdL 6 (RdOpU U) w a f.body.length cap f.body ∧ InU U a f.body.length ∧ f.name.size ≤ maxLen ∧ f.file.size ≤ maxLen
theorem RdOpU.plain {U : Nat → Prop} {w : World} {cs : List Value} {o : OpD} (h : RdOpU U w cs o) : RdOp w cs o := by
  obtain ⟨a, cap, e, hr, _⟩ := h
  exact ⟨a, cap, e, hr⟩
theorem RdFnU.keeps {U V : Nat → Prop} {w w' : World} {cs : List Value} {f : FnD} (h : RdFnU U w cs f) (hk : Keeps U w w') (hV : ∀ b, U b → b < w.heap.size → V b) : RdFnU V w' cs f := by
  obtain ⟨a, cap, e, hr, hU, h1, h2⟩ := h
  refine ⟨a, cap, e, hr.keeps hU hk (fun _ _ h => h.keeps hk hV), fun h0 q hq => hV _ (hU h0 q hq) ?_, h1, h2⟩
  obtain ⟨x, hx⟩ : ∃ x, f.body[0]? = some x := ⟨_, List.getElem?_eq_getElem h0⟩
  obtain ⟨b, off, cs2, e2, hl, hc, _⟩ := hr.2.2.2 0 x hx
  rw [hq] at e2
  cases e2
  exact World.block_lt_of_cell? w _ (hc 0 _ (List.getElem?_eq_getElem (by omega)))
end Go.Proofs.YtffnfjkjlmlonaaGreatDoor
namespace Go.Proofs.YtffnfjkjlmlonaaGreatDoor
open Go.RowKit
theorem three_new_at {w : World} {n : Nat} (h : w.heap.size = n) (a b c : Value) (t : TypeId) : ∀ j u, [a, b, c][j]? = some u → (w.alloc (.cells #[a, b, c] t)).cell? ((⟨n, 0, none⟩ : Addr).add j) = some u := by subst h; exact three_new w a b c t
end Go.Proofs.YtffnfjkjlmlonaaGreatDoor
namespace Go.Proofs.YtffnfjkjlmlonaaGreatDoor
open Go.RowKit
/-- A machine of a program p by a budget lies in the box mb: its run, and beside it the codes, which no step writes. -/
structure MachAt (p : List FnD) (bud : Int) (mb : Nat) (X : RX) (w0 : World) (w : World) (s : StandD) : Prop where
  run : RunAt X w0 (strip p) mb w s
  codes : ∃ cs ca ccap, codesD p bud = some cs ∧ X.ex = [.slice ca cs.length ccap] ∧ ∀ W t, RunAt X w0 (strip p) mb W t → RdC W ca cs.length ccap cs
end Go.Proofs.YtffnfjkjlmlonaaGreatDoor
namespace Go.Proofs.YtffnfjkjlmlonaaGreatDoor
open Go.RowKit
theorem MachAt.below {p : List FnD} {bud : Int} {mb : Nat} {X : RX} {w0 w w' : World} {s : StandD} (h : MachAt p bud mb X w0 w s) (hb : Below w.heap.size w w') : MachAt p bud mb X w0 w' s := ⟨h.run.below hb, h.codes⟩
/-- What came into memory since is kept by the steps to come. -/
def RX.ext (X : RX) (w w' : World) : RX := ⟨X.T, X.ex, fun b => if w.heap.size ≤ b ∧ b < w'.heap.size then w'.heap[b]? else X.K b⟩
theorem RunAt.since {X : RX} {w0 w w' W : World} {P : List FnD} {rb : Nat} {t : StandD} (hW : RunAt (X.ext w w') w0 P rb W t) (b : Nat) (h1 : w.heap.size ≤ b) (h2 : b < w'.heap.size) : W.heap[b]? = w'.heap[b]? := by
  obtain ⟨_, _, _, _, _, _, _, _, _, hk⟩ := hW
  obtain ⟨o, ho⟩ : ∃ o, w'.heap[b]? = some o := ⟨_, Array.getElem?_eq_getElem h2⟩
  have := (hk b o (by show (if w.heap.size ≤ b ∧ b < w'.heap.size then w'.heap[b]? else X.K b) = some o; rw [if_pos ⟨h1, h2⟩]; exact ho)).1
  exact this.trans ho.symm
theorem RunAt.old {X : RX} {w0 W : World} {P : List FnD} {rb : Nat} {t : StandD} (hW : RunAt X w0 P rb W t) : Below w0.heap.size w0 W := by
  obtain ⟨_, _, _, _, _, h, _⟩ := hW
  exact h
end Go.Proofs.YtffnfjkjlmlonaaGreatDoor
namespace Go.Proofs.YtffnfjkjlmlonaaGreatDoor
open Go.RowKit
def placeOf (inst op : Int) : List PlD → Nat
  | [] => 0
  | x :: r => if x.inst = inst ∧ x.op = op then 0 else placeOf inst op r + 1
end Go.Proofs.YtffnfjkjlmlonaaGreatDoor
namespace Go.Proofs.YtffnfjkjlmlonaaGreatDoor
open Go.RowKit
def spot (x : LiveD) : Int × Int := (x.fn, x.next)
end Go.Proofs.YtffnfjkjlmlonaaGreatDoor
namespace Go.Proofs.YtffnfjkjlmlonaaGreatDoor
open Go.RowKit
theorem new1_at {w : World} {n : Nat} (h : w.heap.size = n) (a : Value) (t : TypeId) : ∀ j u, [a][j]? = some u → (w.alloc (.cells #[a] t)).cell? ((⟨n, 0, none⟩ : Addr).add j) = some u := by
  subst h
  intro j u hu
  match j, hu with
  | 0, hu => simp at hu; subst hu; simp [Addr.add]
end Go.Proofs.YtffnfjkjlmlonaaGreatDoor
namespace Go.Proofs.YtffnfjkjlmlonaaGreatDoor
open Go.RowKit
theorem owns_low9 {w : World} {base base' : Nat} {e : TypeId} {size : Nat} {v : Value} {n : Nat} {xs : List Value} (h : w.ownsRow base e size v n xs) (hb : base' ≤ base) : w.ownsRow base' e size v n xs :=
  ⟨h.1, h.2.imp id fun ⟨g, cap, cur, h1, h2, h3⟩ => ⟨g, cap, cur, h1, Nat.le_trans hb h2, h3⟩⟩
end Go.Proofs.YtffnfjkjlmlonaaGreatDoor
namespace Go.Proofs.YtffnfjkjlmlonaaGreatDoor
/-- What is asked behind all but the last. -/
def lastQ (P : Program) (oL : Oper) (Q : Exit → Act → World → Prop) : Exit → Act → World → Prop
  | .normal, a, w => oL.wp P a w (fun a w => Q .normal a w) Q
  | e, a, w => Q e a w
theorem operWp_last {P : Program} {oL o : Oper} {Q : Exit → Act → World → Prop} {a : Act} {w : World} {K : Act → World → Prop} (h : o.wp P a w K (lastQ P oL Q)) : o.wp P a w K Q := by
  unfold Oper.wp at *
  generalize (execOp a.eval o).run P w = r at *
  cases r with
  | ok n w' =>
    cases n <;> simp only [Oper.upon] at h ⊢ <;>
      first
        | exact h
        | exact Calls.mono h (fun e w'' he => by cases e <;> exact he)
  | halt x w' => cases x <;> simp only [Oper.upon] at h ⊢ <;> exact h
theorem wpOp_last {P : Program} {ops : Array Oper} {oL : Oper} {Q : Exit → Act → World → Prop} {i : Nat} {K : Act → World → Prop} {a : Act} {w : World} (h : wpOp P ops (lastQ P oL Q) i K a w) : wpOp P ops Q i K a w := by
  unfold wpOp at *
  split
  · next ho => simpa [ho] using h
  · next o ho =>
    simp only [ho] at h
    split
    · next hw =>
      simp only [hw, if_true] at h
      exact h.imp operWp_last (fun h => ⟨h.1, h.2⟩)
    · next hw =>
      simp only [hw] at h
      exact h
theorem setL_getD {listed : Array Bool} {L j : Nat} {d : Bool} (h : j ≠ L) : (listed.setIfInBounds L true).getD j d = listed.getD j d := by
  simp [Array.getD_eq_getD_getElem?, Ne.symm h]
theorem wpAny_last {P : Program} {md : Region.Mode} {ops : Array Oper} {Q : Exit → Act → World → Prop} {S : World → Prop} {L : Nat} {oL : Oper} (hL : ops[L]? = some oL) (hn : L + 1 = ops.size) (hg : oL.guard = none)
    (hw : ∀ j, j < L → ∃ e ∈ oL.after, Region.binds md e = true ∧ e.on = j) (hb : ∀ (i : Nat) (o : Oper), ops[i]? = some o → ∀ e ∈ o.after, e.on < i) :
    ∀ (fuel : Nat) (listed : Array Bool) (a : Act) (w : World), listed.size = ops.size → listed.getD L true = false → wpAnyH P md ops (lastQ P oL Q) S fuel (listed.setIfInBounds L true) a w → wpAny P md ops Q (fuel + 1) listed a w := by
  have least : ∀ (n : Nat) (listed : Array Bool), listed.size = ops.size → n ≤ L → (∀ j, j < n → listed.getD j true = true) → listed.getD L true = false → ∃ j, j ∈ Region.ready md ops listed ∧ n ≤ j ∧ (j = L → ∀ i, i < L → listed.getD i true = true) := by
    intro n listed hs hn' hall hLf
    generalize hm : L - n = m
    induction m generalizing n with
    | zero =>
      have : n = L := by omega
      subst this
      refine ⟨n, mem_ready.2 ⟨hLf, oL, hL, fun e he _ => ?_⟩, Nat.le_refl _, fun _ => hall⟩
      have hlt := hb n oL hL e he
      have h1 := hall e.on hlt
      have hsz : e.on < listed.size := by omega
      simp [Array.getD_eq_getD_getElem?, Array.getElem?_eq_getElem hsz] at h1 ⊢
      exact h1
    | succ m ih =>
      cases hnl : listed.getD n true with
      | true =>
        obtain ⟨j, h1, h2, h3⟩ := ih (n + 1) (by omega) (fun j hj => by
          rcases Nat.lt_or_ge j n with h | h
          · exact hall j h
          · have : j = n := by omega
            rw [this]; exact hnl) (by omega)
        exact ⟨j, h1, by omega, h3⟩
      | false =>
        obtain ⟨o, ho⟩ : ∃ o, ops[n]? = some o := ⟨_, Array.getElem?_eq_getElem (by omega)⟩
        refine ⟨n, mem_ready.2 ⟨hnl, o, ho, fun e he _ => ?_⟩, Nat.le_refl _, fun e => by omega⟩
        have hlt := hb n o ho e he
        have h1 := hall e.on hlt
        have hsz : e.on < listed.size := by omega
        simp [Array.getD_eq_getD_getElem?, Array.getElem?_eq_getElem hsz] at h1 ⊢
        exact h1
  have fin : ∀ (fuel : Nat) (listed : Array Bool) (a : Act) (w : World), listed.size = ops.size → listed.getD L true = false → L ∈ Region.ready md ops listed → (Region.ready md ops (listed.setIfInBounds L true) = [] → lastQ P oL Q .normal a w) → wpOp P ops Q L (wpAny P md ops Q fuel (listed.setIfInBounds L true)) a w := by
    intro fuel listed a w hs hLf hr h
    obtain ⟨-, o, ho, hall⟩ := mem_ready.1 hr
    rw [hL] at ho
    cases ho
    have hemp : Region.ready md ops (listed.setIfInBounds L true) = [] := by
      refine List.eq_nil_iff_forall_not_mem.2 fun j hj => ?_
      obtain ⟨h1, o, ho, -⟩ := mem_ready.1 hj
      have hlt : j < ops.size := (Array.getElem?_eq_some_iff.1 ho).1
      by_cases hjL : j = L
      · subst hjL
        have hsz : j < listed.size := by omega
        simp [Array.getD_eq_getD_getElem?, hsz] at h1
      · rw [setL_getD hjL] at h1
        obtain ⟨e, he, hbi, rfl⟩ := hw j (by omega)
        have h2 := hall e he hbi
        have hsz : e.on < listed.size := by omega
        simp [Array.getD_eq_getD_getElem?, Array.getElem?_eq_getElem hsz] at h1 h2
        rw [h1] at h2
        cases h2
    have hq := h hemp
    unfold wpOp
    simp only [hL]
    have hwa : Region.wanted oL (yielded ops a.tmps) = true := by simp [Region.wanted, hg]
    rw [if_pos hwa]
    refine .inl (Oper.wp_mono (fun a w hq => ?_) hq)
    cases fuel with
    | zero => exact ⟨hemp, hq⟩
    | succ n => exact ⟨fun _ => hq, fun i hi => by rw [hemp] at hi; cases hi⟩
  have other : ∀ (i : Nat) (listed : Array Bool), i ≠ L → i ∈ Region.ready md ops listed → i ∈ Region.ready md ops (listed.setIfInBounds L true) := by
    intro i listed hne hi
    obtain ⟨h1, o, ho, hall⟩ := mem_ready.1 hi
    have hlt : i < ops.size := (Array.getElem?_eq_some_iff.1 ho).1
    refine mem_ready.2 ⟨by rw [setL_getD hne]; exact h1, o, ho, fun e he hbi => ?_⟩
    have := hb i o ho e he
    rw [setL_getD (by omega)]
    exact hall e he hbi
  intro fuel
  induction fuel with
  | zero =>
    intro listed a w hs hLf h
    obtain ⟨j0, hj0, -, -⟩ := least 0 listed hs (by omega) (fun j hj => by omega) hLf
    refine ⟨fun e => (by rw [e] at hj0; cases hj0), fun i hi => ?_⟩
    by_cases hiL : i = L
    · subst hiL
      exact fin 0 listed a w hs hLf hi (fun _ => h.2)
    · have := other i listed hiL hi
      rw [h.1] at this
      cases this
  | succ fuel ih =>
    intro listed a w hs hLf h
    obtain ⟨j0, hj0, -, -⟩ := least 0 listed hs (by omega) (fun j hj => by omega) hLf
    refine ⟨fun e => (by rw [e] at hj0; cases hj0), fun i hi => ?_⟩
    by_cases hiL : i = L
    · subst hiL
      exact fin _ listed a w hs hLf hi h.1
    · refine wpOp_mono (fun a' w' h' => ?_) (wpOp_last (h.2 i (other i listed hiL hi)))
      refine ih (listed.setIfInBounds i true) a' w' (by simpa using hs) (by rw [setL_getD (Ne.symm hiL)]; exact hLf) ?_
      rw [Array.setIfInBounds_comm _ _ hiL]
      exact h'.2
/-- The beginning of such a region: number L, its last operation, is told apart. -/
theorem wp_region_last {P : Program} {ops : Array Oper} {Q : Exit → Act → World → Prop} {id : Nat} {a : Act} {w : World} (S : World → Prop) (L : Nat) (oL : Oper) (hm : P.follows .mixedOrders = true) (hL : ops[L]? = some oL) (hn : L + 1 = ops.size) (hg : oL.guard = none)
    (hw : ((List.range L).all fun j => oL.after.any fun e => Region.binds .any e && e.on == j) = true) (hb : ((List.range ops.size).all fun i => ((ops[i]?).map fun o => o.after.all fun e => decide (e.on < i)).getD true) = true) (hS : S w.drew)
    (h : S w.drew → wpAnyH P .any ops (lastQ P oL Q) S L ((Array.replicate ops.size false).setIfInBounds L true) a w.drew) : (Code.region id ops true).wp P Q a w := by
  refine wp_region_any hm ?_
  have hw' : ∀ j, j < L → ∃ e ∈ oL.after, Region.binds .any e = true ∧ e.on = j := fun j hj => by
    have h1 := List.all_eq_true.1 hw j (List.mem_range.2 hj)
    obtain ⟨e, he, h2⟩ := Array.any_eq_true'.1 h1
    simp at h2
    exact ⟨e, he, h2⟩
  have hb' : ∀ (i : Nat) (o : Oper), ops[i]? = some o → ∀ e ∈ o.after, e.on < i := fun i o ho e he => by
    have h1 := List.all_eq_true.1 hb i (List.mem_range.2 (Array.getElem?_eq_some_iff.1 ho).1)
    rw [ho] at h1
    simp only [Option.map_some, Option.getD_some] at h1
    have h2 := Array.all_eq_true'.1 h1 e he
    simpa using h2
  have := wpAny_last (S := S) hL hn hg hw' hb' L (Array.replicate ops.size false) a w.drew (by simp) (by
    have hlt : L < ops.size := by omega
    simp [Array.getD_eq_getD_getElem?, hlt]) (h hS)
  rw [hn] at this
  exact this
end Go.Proofs.YtffnfjkjlmlonaaGreatDoor
namespace Go.Proofs.YtffnfjkjlmlonaaGreatDoor
open Go.RowKit
/-- Entries that lie readable whatever becomes of the block L. -/
def EntsBut (L : Nat → Prop) (w : World) (css : List (List Value)) (l : List EntD) : Prop := css.length = l.length ∧ ∀ (i : Nat) (cs : List Value) (x : EntD), css[i]? = some cs → l[i]? = some x → cs.length = 5 ∧ ∀ W : World, (∀ b, b < w.heap.size → ¬ L b → W.heap[b]? = w.heap[b]?) → RdEnt W cs x
theorem EntsBut.same {L L' : Nat → Prop} {w w' : World} {css : List (List Value)} {l : List EntD} (h : EntsBut L w css l) (hs : ∀ b, b < w.heap.size → ¬ L b → b < w'.heap.size ∧ ¬ L' b ∧ w'.heap[b]? = w.heap[b]?) : EntsBut L' w' css l :=
  ⟨h.1, fun i cs x h1 h2 => ⟨(h.2 i cs x h1 h2).1, fun W hW => (h.2 i cs x h1 h2).2 W (fun b hb hne => (hW b (hs b hb hne).1 (hs b hb hne).2.1).trans (hs b hb hne).2.2)⟩⟩
theorem EntsBut.snoc {L : Nat → Prop} {w : World} {css : List (List Value)} {l : List EntD} {cs : List Value} {x : EntD} (h : EntsBut L w css l) (h5 : cs.length = 5) (hx : ∀ W : World, (∀ b, b < w.heap.size → ¬ L b → W.heap[b]? = w.heap[b]?) → RdEnt W cs x) : EntsBut L w (css ++ [cs]) (l ++ [x]) := by
  refine ⟨by simp [h.1], fun i c y h1 h2 => ?_⟩
  rcases Nat.lt_or_ge i css.length with hi | hi
  · rw [List.getElem?_append_left hi] at h1
    rw [List.getElem?_append_left (by rw [← h.1]; exact hi)] at h2
    exact h.2 i c y h1 h2
  · rw [List.getElem?_append_right hi] at h1
    rw [List.getElem?_append_right (by rw [← h.1]; exact hi), ← h.1] at h2
    cases hj : i - css.length with
    | zero => rw [hj] at h1 h2; simp at h1 h2; subst h1; subst h2; exact ⟨h5, hx⟩
    | succ j => rw [hj] at h1; simp at h1
theorem EntsBut.five {L : Nat → Prop} {w : World} {css : List (List Value)} {l : List EntD} (h : EntsBut L w css l) : ∀ c ∈ css, c.length = 5 := by
  intro c hc
  obtain ⟨i, hi, rfl⟩ := List.getElem_of_mem hc
  have hil : i < l.length := by rw [← h.1]; exact hi
  exact (h.2 i _ l[i] (List.getElem?_eq_getElem hi) (List.getElem?_eq_getElem hil)).1
theorem EntsBut.rd {L : Nat → Prop} {w : World} {base : Nat} {fv : Value} {css : List (List Value)} {l : List EntD} (he : EntsBut L w css l) (h : w.ownsRow base 115 5 fv l.length css.flatten) : ∃ a cap, fv = .slice a l.length cap ∧ RdI w a l.length cap l := by
  have h5 := he.five
  rcases h.2 with ⟨rfl, h0⟩ | ⟨g, cap, cur, rfl, hg, hh, h1, h2, h3, h4⟩
  · refine ⟨none, 0, by rw [h0], rfl, by omega, by unfold maxLen; omega, fun i x hx => ?_⟩
    have : l = [] := List.length_eq_zero_iff.1 h0
    rw [this] at hx; simp at hx
  · refine ⟨some ⟨g, 0, none⟩, cap, rfl, rfl, h1, h2, fun i x hx => ?_⟩
    have hi : i < l.length := (List.getElem?_eq_some_iff.1 hx).1
    obtain ⟨cs, hcs⟩ : ∃ cs, css[i]? = some cs := ⟨_, List.getElem?_eq_getElem (by rw [he.1]; exact hi)⟩
    have hE := he.2 i cs x hcs hx
    refine ⟨g, 0, cs, rfl, h5 cs (List.mem_of_getElem? hcs), fun j v hj => ?_, hE.2 w (fun _ _ _ => rfl)⟩
    have hw : w.ownsRow base 115 5 (.slice (some ⟨g, 0, none⟩) l.length cap) l.length css.flatten := ⟨h.1, .inr ⟨g, cap, cur, rfl, hg, hh, h1, h2, h3, h4⟩⟩
    have hjl : j < 5 := by have := (List.getElem?_eq_some_iff.1 hj).1; rw [h5 cs (List.mem_of_getElem? hcs)] at this; exact this
    rw [Nat.zero_add, hw.cellAt (i * 5 + j) (by omega)]
    exact flatten_at h5 i j cs v hcs hj
end Go.Proofs.YtffnfjkjlmlonaaGreatDoor
namespace Go.Proofs.YtffnfjkjlmlonaaGreatDoor
open Go.RowKit
/-- A word of one letter. -/
def letterD (i : Nat) : ByteArray := strOfNums [97 + (i : Int)]
end Go.Proofs.YtffnfjkjlmlonaaGreatDoor
