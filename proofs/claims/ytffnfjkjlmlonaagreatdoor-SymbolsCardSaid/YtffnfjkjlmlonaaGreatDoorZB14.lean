/- The contract of the statement's own function programStill: at a program as it was handed in it returns true; nothing that was there is written. Contracts of the statement's own functions write, marked and looks where no list has come out yet: nothing is done, and the look answers true. Contracts of the statement's own functions write, source and step at a Check and at the caller's writing, where no list has come out, out of a contract of unfold.Check that is taken as a premise. Contracts of unfoldref.but and unfoldref.fresh: a frame written anew. Contract of unfoldref.under: frames written anew. Contract of unfoldref.Begun. Contract of the statement's own sameFrames. A run of a program as plain data: one step, what holds behind each step, and that a step keeps it; nothing is claimed of the program here. How a run of the reference lies in memory, and which blocks it lies in; nothing is claimed of the program here. The statement's world where lists of frames have come out, each written full of its number; contracts of marked and looks there: the look answers true. Contracts of unfoldref.Told and unfoldref.Given: the frames that are told; whether a run may begin. The code of functions, with Calls inlined, as plain data (laid as the developers lay it); nothing is claimed of the program here. -/
import Derived.Test.YtffnfjkjlmlonaaGreatDoorZB13
import Derived.Test.YtffnfjkjlmlonaaGreatDoorZB3
import Derived.Deep.RegionWith
import Derived.Deep.RegionLaw
import Derived.Deep.AppendLies
namespace Go.Proofs.YtffnfjkjlmlonaaGreatDoor
open Go.RowKit
theorem HdP.below {w w' : World} {base : Nat} {w0 : World} {a : Option Addr} {p : List FnD} {g : Nat} (h : HdP w base w0 a p g) (hb : Below w.heap.size w w') : HdP w' base w0 a p g := by
  obtain ⟨done, h1, h2, h3, h4⟩ := h
  exact ⟨done, h1, h2, h3.mono (fun _ _ _ h => h.below hb), owns_below h4 hb⟩
/-- The cells of one function that was handed in. -/
theorem HdP.at {w : World} {base : Nat} {w0 : World} {a : Option Addr} {p : List FnD} {g : Nat} (h : HdP w base w0 a p g) (i : Nat) (x : FnD) (hx : p[i]? = some x) :
    ∃ b off ba bcap gi, a = some ⟨b, off, none⟩ ∧ w0.cell? ⟨b, off + i * 5 + 4, none⟩ = some (.slice ba x.body.length bcap) ∧ HdB w base (fun j => ba.bind fun c => w0.cell? ⟨c.block, c.off + j * 6 + 5, none⟩) x.body gi ∧
      ∀ j v, (fnCells x gi)[j]? = some v → w.cell? ⟨g, i * 5 + j, none⟩ = some v := by
  obtain ⟨done, h1, h2, h3, h4⟩ := h
  have hi := (List.getElem?_eq_some_iff.1 hx).1
  obtain ⟨b, off, ba, bcap, gi, e1, e2, e3, e4⟩ := h3 i x (by omega) hx
  refine ⟨b, off, ba, bcap, gi, e1, e2, e4, fun j v hj => ?_⟩
  have hj5 : j < 5 := by
    rcases Nat.lt_or_ge j 5 with h | h
    · exact h
    · rw [List.getElem?_eq_none (by simpa [fnCells] using h)] at hj; cases hj
  have hall : ∀ e ∈ done ++ List.replicate 8 markFn, e.length = 5 := by
    intro e he
    rcases List.mem_append.1 he with h | h
    · exact h2 e h
    · rw [List.eq_of_mem_replicate h]; rfl
  have := h4.cellAt (i * 5 + j) (by omega)
  rw [flatten_get 5 _ i j hall (by simp; omega) hj5] at this
  have hd : (done ++ List.replicate 8 markFn).getD i [] = fnCells x gi := by
    simp only [List.getD]
    rw [List.getElem?_append_left (by omega), e3]
    rfl
  rw [hd, hj] at this
  exact this
/-- A program that was handed in reads as the program that it was made of. -/
theorem HdP.read {w : World} {base : Nat} {w0 : World} {a : Option Addr} {p : List FnD} {g : Nat} (h : HdP w base w0 a p g) (hs : ∀ x ∈ p, x.name.size ≤ maxLen ∧ x.file.size ≤ maxLen) : RdP w (some ⟨g, 0, none⟩) p.length (p.length + 8) p := by
  have hm : p.length + 8 ≤ maxLen := by
    obtain ⟨done, _, _, _, h4⟩ := h
    rcases h4.2 with ⟨h', _⟩ | ⟨g', cap', cur, h', _, _, _, hcm, _⟩
    · cases h'
    · cases h'; exact hcm
  refine ⟨rfl, by omega, hm, fun i x hx => ?_⟩
  obtain ⟨_, _, _, _, gi, _, _, hh, hc⟩ := h.at i x hx
  have hsz := hs x (List.mem_of_getElem? hx)
  exact ⟨g, 0, fnCells x gi, rfl, rfl, fun j v hj => by rw [Nat.zero_add]; exact hc j v hj, some ⟨gi, 0, none⟩, x.body.length + 8, rfl, hh.read, hsz.1, hsz.2⟩
end Go.Proofs.YtffnfjkjlmlonaaGreatDoor
namespace Go.Proofs.YtffnfjkjlmlonaaGreatDoor
open Go.RowKit
def nils : Array Value := #[.slice none 0 0, .slice none 0 0, .slice none 0 0, .slice none 0 0, .slice none 0 0, .slice none 0 0, .slice none 0 0, .slice none 0 0, .slice none 0 0]
/-- The statement's world, with nothing in it. -/
def Bare (w : World) (g : Nat) : Prop := w.heap[g]? = some (.cells nils 34 (0, 0))
theorem Bare.cell {w : World} {g : Nat} (h : Bare w g) (j : Nat) (hj : j < 9) : w.cell? ⟨g, j, none⟩ = some (.slice none 0 0) := by
  unfold Bare at h
  simp only [World.cell?, h, Option.isSome_none]
  match j, hj with
  | 0, _ => rfl
  | 1, _ => rfl
  | 2, _ => rfl
  | 3, _ => rfl
  | 4, _ => rfl
  | 5, _ => rfl
  | 6, _ => rfl
  | 7, _ => rfl
  | 8, _ => rfl
end Go.Proofs.YtffnfjkjlmlonaaGreatDoor
namespace Go.Proofs.YtffnfjkjlmlonaaGreatDoor
open Go.RowKit
theorem Bare.below {w w' : World} {g : Nat} (h : Bare w g) (hb : Below w.heap.size w w') : Bare w' g := by
  unfold Bare at h ⊢
  exact (hb.block g (Array.getElem?_eq_some_iff.1 h).1).trans h
end Go.Proofs.YtffnfjkjlmlonaaGreatDoor
namespace Go.Proofs.YtffnfjkjlmlonaaGreatDoor
open Go.RowKit
/-- A frame. -/
structure LiveD where
  fn : Int
  next : Int
  locals : List Int
def RdLive (w : World) (cs : List Value) (x : LiveD) : Prop :=
  ∃ a cap, cs = [.int .i64 x.fn, .int .i64 x.next, .slice a x.locals.length cap] ∧ Rd .i64 w a x.locals.length cap x.locals
theorem RdLive.below {w w' : World} {cs : List Value} {x : LiveD} (h : RdLive w cs x) (hb : Below w.heap.size w w') : RdLive w' cs x := by
  obtain ⟨a, cap, e, hr⟩ := h
  exact ⟨a, cap, e, hr.below hb (Nat.le_refl _)⟩
theorem Rd.setOther {w : World} {g off len cap : Nat} {l : List Int} (h : Rd .i64 w (some ⟨g, off, none⟩) len cap l) {b : Nat} (hb : g ≠ b) (j : Nat) (u : Value) : Rd .i64 (w.setCell ⟨b, j, none⟩ u) (some ⟨g, off, none⟩) len cap l := by
  refine ⟨h.hlen, h.hcap, h.hmax, fun i hi => ?_⟩
  obtain ⟨b', o', e, hc⟩ := h.cell i hi
  cases e
  refine ⟨g, off, rfl, ?_⟩
  rw [← hc]
  simp only [World.cell?]
  rw [Below.heap_setCell _ _ _ _ (by exact hb)]
end Go.Proofs.YtffnfjkjlmlonaaGreatDoor
namespace Go.Proofs.YtffnfjkjlmlonaaGreatDoor
open Go.RowKit
theorem add0' (g j : Nat) : (⟨g, 0, none⟩ : Addr).add j = ⟨g, 0 + j, none⟩ := by unfold Addr.add; split <;> simp_all
theorem RdL_of_owns {α : Type} {size : Nat} {R : World → List Value → α → Prop} {w : World} {base : Nat} {e : TypeId} {v : Value} {n : Nat} {css : List (List Value)} {ls : List α} (h : w.ownsRow base e size v n css.flatten) (hk : ∀ c ∈ css, c.length = size) (hl : css.length = n) (hls : ls.length = n)
    (hR : ∀ (i : Nat) (x : α) (cs : List Value), ls[i]? = some x → css[i]? = some cs → R w cs x) : ∃ a cap, v = .slice a n cap ∧ RdL size R w a n cap ls := by
  have hc := fun g hg => h.cells (g := g) hg
  rcases h.2 with ⟨rfl, rfl⟩ | ⟨g, cap, cur, rfl, _, hh, h1, h2, _⟩
  · exact ⟨none, 0, rfl, hls, Nat.le_refl _, by unfold maxLen; omega, fun i x hx => by
      have := (List.getElem?_eq_some_iff.1 hx).1
      omega⟩
  · refine ⟨_, cap, rfl, hls, h1, h2, fun i x hx => ?_⟩
    have hi : i < css.length := by
      have := (List.getElem?_eq_some_iff.1 hx).1
      omega
    have hcs : css[i]? = some (css.getD i []) := by simp [List.getD, hi]
    have hlen := hk _ (List.mem_of_getElem? hcs)
    refine ⟨g, 0, css.getD i [], rfl, hlen, fun j v hj => ?_, hR i x _ hx hcs⟩
    have hj' : j < size := by
      have := (List.getElem?_eq_some_iff.1 hj).1
      omega
    have := hc g rfl (i * size + j) v (by rw [flatten_get size css i j hk hi hj']; exact hj)
    rw [add0'] at this
    rw [Nat.add_assoc]
    exact this
end Go.Proofs.YtffnfjkjlmlonaaGreatDoor
namespace Go.Proofs.YtffnfjkjlmlonaaGreatDoor
open Go.RowKit
/-- How a run stands. -/
structure StandD where
  status : Int
  value : Int
  live : List LiveD
def RdStand (w : World) (cs : List Value) (s : StandD) : Prop :=
  ∃ a cap, cs = [.int .i64 s.status, .int .i64 s.value, .slice a s.live.length cap] ∧ RdL 3 RdLive w a s.live.length cap s.live
theorem RdStand.below {w w' : World} {cs : List Value} {s : StandD} (h : RdStand w cs s) (hb : Below w.heap.size w w') : RdStand w' cs s := by
  obtain ⟨a, cap, e, hr⟩ := h
  exact ⟨a, cap, e, hr.below hb (fun _ _ h => h.below hb)⟩
end Go.Proofs.YtffnfjkjlmlonaaGreatDoor
namespace Go.Proofs.YtffnfjkjlmlonaaGreatDoor
open Go.RowKit
/-- A frame that is told. -/
structure FrameD where
  func : ByteArray
  file : ByteArray
  line : Int
def frCells (x : FrameD) : List Value := [.string x.func, .string x.file, .int .i64 x.line]
def RdFrame (_ : World) (cs : List Value) (x : FrameD) : Prop := cs = frCells x
theorem RdL.frameAt {w : World} {a : Option Addr} {n cap : Nat} {l : List FrameD} (h : RdL 3 RdFrame w a n cap l) (i : Nat) (x : FrameD) (hx : l[i]? = some x) :
    ∃ b off, a = some ⟨b, off, none⟩ ∧ w.cell? ⟨b, off + i * 3, none⟩ = some (.string x.func) ∧ w.cell? ⟨b, off + i * 3 + 1, none⟩ = some (.string x.file) ∧ w.cell? ⟨b, off + i * 3 + 2, none⟩ = some (.int .i64 x.line) := by
  obtain ⟨b, off, cs, e, _, hc, rfl⟩ := h.2.2.2 i x hx
  exact ⟨b, off, e, hc 0 _ rfl, hc 1 _ rfl, hc 2 _ rfl⟩
set_option maxHeartbeats 2000000 in
set_option maxRecDepth 100000 in
theorem sameFrames_any (a : Option Addr) (n cap : Nat) (l : List FrameD) (a2 : Option Addr) (cap2 : Nat) (w : World) (hr : RdL 3 RdFrame w a n cap l) (hr2 : RdL 3 RdFrame w a2 n cap2 l) :
    Calls Tryz.prog 47 #[.slice a n cap, .slice a2 n cap2] w fun e w' => e = .returned (.bool true) ∧ Below w.heap.size w w' := by
  have HL := hid hr.1
  have h1 := hr.2.1
  have h2 := hr.2.2.1
  have h3 := hr2.2.1
  have h4 := hr2.2.2.1
  unfold maxLen at h2 h4
  have HR := hid hr
  have HR2 := hid hr2
  clear hr hr2
  go_enter Tryz.func47, Tryz.ntmps47
  go_wp2
  go_loopw [5] (fun i wr => ∃ j : Nat, i = .int .i64 j ∧ j ≤ n ∧ Below w.heap.size w wr) (fun i _ => n - (intOf i).toNat)
  case atStart => exact ⟨0, rfl, by omega, Below.refl _ _⟩
  case round =>
    obtain ⟨j, rfl, hj, hb2⟩ := hrel
    by_cases hlt2 : j < n
    · obtain ⟨x, hx⟩ : ∃ x, l[j]? = some x := ⟨_, List.getElem?_eq_getElem (by rw [HL.out]; exact hlt2)⟩
      obtain ⟨xb, xoff, rfl, c0, c1, c2⟩ := (HR.out.below hb2 (fun _ _ h => h)).frameAt j x hx
      obtain ⟨yb, yoff, rfl, d0, d1, d2⟩ := (HR2.out.below hb2 (fun _ _ h => h)).frameAt j x hx
      have hjn : (j : Int) < (n : Int) := by omega
      clear hx
      obtain ⟨s1, s2, i3⟩ := x
      simp only at c0 c1 c2 d0 d1 d2
      go_wp2
      go_quiet (fail)
      go_wp2
      go_roundw
      case rel => exact ⟨j + 1, by go_num, by omega, below_drawn hb2 nq⟩
      case measure => simp [intOf]; omega
    · go_wp2
      go_ret
      exact ⟨rfl, hb2⟩
end Go.Proofs.YtffnfjkjlmlonaaGreatDoor
namespace Go.Proofs.YtffnfjkjlmlonaaGreatDoor
open Go.RowKit
def noFn : FnD := ⟨⟨#[]⟩, ⟨#[]⟩, 0, 0, []⟩
def noOp : OpD := ⟨0, 0, 0, 0, 0, []⟩
def fnAt (p : List FnD) (n : Int) : FnD := (p[n.toNat]?).getD noFn
def fnOf (p : List FnD) (x : LiveD) : FnD := fnAt p x.fn
def opOf (p : List FnD) (x : LiveD) : OpD := ((fnOf p x).body[x.next.toNat]?).getD noOp
/-- What Check asks of an op, said one by one. -/
structure OpOk (p : List FnD) (x : FnD) (s : Nat) (o : OpD) : Prop where
  line : 1 ≤ o.line ∧ o.line ≤ 9999
  a : 0 ≤ o.a ∧ o.a < x.locals
  code : 0 ≤ o.code ∧ o.code ≤ 6
  last : o.code ≠ 6 → s + 1 < x.body.length
  set : o.code = 0 → 0 ≤ o.b ∧ o.b < 1000
  three : o.code = 1 ∨ o.code = 2 ∨ o.code = 3 → (0 ≤ o.b ∧ o.b < x.locals) ∧ (0 ≤ o.c ∧ o.c < x.locals)
  jump : o.code = 4 → 0 ≤ o.b ∧ o.b < x.body.length
  call : o.code = 5 → 0 ≤ o.b ∧ o.b < p.length ∧ (fnAt p o.b).params = o.args.length ∧ ∀ n ∈ o.args, 0 ≤ n ∧ n < x.locals
structure FnOk (p : List FnD) (x : FnD) : Prop where
  locals : 1 ≤ x.locals ∧ x.locals ≤ 8
  params : 0 ≤ x.params ∧ x.params ≤ x.locals
  body : 1 ≤ x.body.length ∧ x.body.length ≤ 30
  ops : ∀ (s : Nat) (o : OpD), x.body[s]? = some o → OpOk p x s o
structure Good (p : List FnD) : Prop where
  len : 1 ≤ p.length ∧ p.length ≤ 12
  fns : ∀ (f : Nat) (x : FnD), p[f]? = some x → FnOk p x
theorem withB_true {n e : Int} (h : withB n e = true) : 0 ≤ n ∧ n < e := by simpa [withB] using h
/-- A frame that a run may have. -/
structure WfLive (p : List FnD) (x : LiveD) : Prop where
  fn : 0 ≤ x.fn ∧ x.fn < p.length
  next : 0 ≤ x.next ∧ x.next < (fnOf p x).body.length
  locals : (x.locals.length : Int) = (fnOf p x).locals
  vals : ∀ v ∈ x.locals, 0 ≤ v ∧ v < 1000
structure Wf (p : List FnD) (s : StandD) : Prop where
  len : s.live.length ≤ 20
  runs : s.status = 0 → s.live ≠ [] ∧ s.value = 0
  live : ∀ x ∈ s.live, WfLive p x
  calls : ∀ x ∈ s.live.dropLast, (opOf p x).code = 5
end Go.Proofs.YtffnfjkjlmlonaaGreatDoor
namespace Go.Proofs.YtffnfjkjlmlonaaGreatDoor
open Go.RowKit
theorem heap_new_at {w : World} {a : Array Value} {t : TypeId} {n : Nat} (h : w.heap.size = n) : (w.alloc (.cells a t)).heap[n]? = some (.cells a t (0, 0)) := by subst h; exact heap_alloc_new _ _
theorem heap_at1 {w : World} {o : Obj} {n : Nat} {v : Option Obj} (h : n < w.heap.size) (e : w.heap[n]? = v) : (w.alloc o).heap[n]? = v := (heap_alloc_old _ _ h).trans e
theorem ownsRow_below {w w' : World} {base : Nat} {e : TypeId} {size : Nat} {v : Value} {n : Nat} {xs : List Value} (h : w.ownsRow base e size v n xs) (hb : Below w.heap.size w w') : w'.ownsRow base e size v n xs := by
  refine ⟨h.1, ?_⟩
  rcases h.2 with h2 | ⟨g, cap, cur, h1, h2, h3, h4⟩
  · exact .inl h2
  · exact .inr ⟨g, cap, cur, h1, h2, (hb.block g (Array.getElem?_eq_some_iff.1 h3).1).trans h3, h4⟩
/-- A fact that is found out on the way: one goal for all orders of evaluation. -/
structure Kept (P : Prop) : Prop where
  out : P
theorem cutB {P G : Prop} (h : P) (k : Kept P → G) : G := k ⟨h⟩
def InU (U : Nat → Prop) (a : Option Addr) (n : Nat) : Prop := 0 < n → ∀ q, a = some q → U q.block
/-- The worlds agree on the blocks of U that the first one has. -/
def Keeps (U : Nat → Prop) (w w' : World) : Prop := ∀ b, U b → b < w.heap.size → w'.heap[b]? = w.heap[b]?
theorem Keeps.below {U : Nat → Prop} {w w' : World} (h : Below w.heap.size w w') : Keeps U w w' := fun b _ hb => h.block b hb
theorem Keeps.setCell {U : Nat → Prop} {w : World} {p : Addr} (h : ¬ U p.block) (v : Value) : Keeps U w (w.setCell p v) := fun b hb _ => Below.heap_setCell _ _ _ _ (by rintro rfl; exact h hb)
theorem keeps_cell {U : Nat → Prop} {w w' : World} (h : Keeps U w w') {p : Addr} (hU : U p.block) {v : Value} (hc : w.cell? p = some v) : w'.cell? p = some v := by
  have hb := World.block_lt_of_cell? w _ hc
  rw [← hc]
  unfold World.cell?
  rw [h p.block hU hb]
theorem Rd.keeps {k : IntKind} {U : Nat → Prop} {w w' : World} {a : Option Addr} {len cap : Nat} {l : List Int} (h : Rd k w a len cap l) (hU : InU U a len) (hk : Keeps U w w') : Rd k w' a len cap l := by
  refine ⟨h.hlen, h.hcap, h.hmax, fun i hi => ?_⟩
  obtain ⟨b, off, rfl, hc⟩ := h.cell i hi
  exact ⟨b, off, rfl, keeps_cell hk (p := ⟨b, off + i, none⟩) (hU (by omega) ⟨b, off, none⟩ rfl) hc⟩
theorem RdL.keeps {α : Type} {size : Nat} {R R' : World → List Value → α → Prop} {U : Nat → Prop} {w w' : World} {a : Option Addr} {len cap : Nat} {l : List α} (h : RdL size R w a len cap l) (hU : InU U a len) (hk : Keeps U w w')
    (hR : ∀ cs x, R w cs x → R' w' cs x) : RdL size R' w' a len cap l := by
  obtain ⟨h1, h2, h3, h4⟩ := h
  refine ⟨h1, h2, h3, fun i x hx => ?_⟩
  obtain ⟨b, off, cs, e, hl, hc, hr⟩ := h4 i x hx
  refine ⟨b, off, cs, e, hl, fun j v hj => keeps_cell hk (p := ⟨b, off + i * size + j, none⟩) (hU (by have := (List.getElem?_eq_some_iff.1 hx).1; omega) ⟨b, off, none⟩ e) (hc j v hj), hR cs x hr⟩
def RdLiveU (U : Nat → Prop) (w : World) (cs : List Value) (x : LiveD) : Prop :=
  ∃ a cap, cs = [.int .i64 x.fn, .int .i64 x.next, .slice a x.locals.length cap] ∧ Rd .i64 w a x.locals.length cap x.locals ∧ InU U a x.locals.length
def RdStandU (U : Nat → Prop) (w : World) (cs : List Value) (s : StandD) : Prop :=
  ∃ a cap, cs = [.int .i64 s.status, .int .i64 s.value, .slice a s.live.length cap] ∧ RdL 3 (RdLiveU U) w a s.live.length cap s.live ∧ InU U a s.live.length
theorem RdLiveU.shape {U : Nat → Prop} {w : World} (cs : List Value) (x : LiveD) (h : RdLiveU U w cs x) : ∃ la lcap, cs = [.int .i64 x.fn, .int .i64 x.next, .slice la x.locals.length lcap] := by
  obtain ⟨a, cap, e, _⟩ := h
  exact ⟨a, cap, e⟩
theorem RdLiveU.keeps {U V : Nat → Prop} {w w' : World} {cs : List Value} {x : LiveD} (h : RdLiveU U w cs x) (hk : Keeps U w w') (hV : ∀ b, U b → V b) : RdLiveU V w' cs x := by
  obtain ⟨a, cap, e, hr, hU⟩ := h
  exact ⟨a, cap, e, hr.keeps hU hk, fun h0 q hq => hV _ (hU h0 q hq)⟩
theorem RdStandU.keeps {U V : Nat → Prop} {w w' : World} {cs : List Value} {s : StandD} (h : RdStandU U w cs s) (hk : Keeps U w w') (hV : ∀ b, U b → V b) : RdStandU V w' cs s := by
  obtain ⟨a, cap, e, hr, hU⟩ := h
  exact ⟨a, cap, e, hr.keeps hU hk (fun _ _ h => h.keeps hk hV), fun h0 q hq => hV _ (hU h0 q hq)⟩
theorem RdStandU.below {U : Nat → Prop} {w w' : World} {cs : List Value} {s : StandD} (h : RdStandU U w cs s) (hb : Below w.heap.size w w') : RdStandU U w' cs s := h.keeps (Keeps.below hb) (fun _ h => h)
theorem RdLiveU.below {U : Nat → Prop} {w w' : World} {cs : List Value} {x : LiveD} (h : RdLiveU U w cs x) (hb : Below w.heap.size w w') : RdLiveU U w' cs x := h.keeps (Keeps.below hb) (fun _ h => h)
/-- What lies there lies in blocks that are there. -/
def Old (U : Nat → Prop) (w : World) (b : Nat) : Prop := U b ∧ b < w.heap.size
theorem RdLiveU.old {U : Nat → Prop} {w : World} {cs : List Value} {x : LiveD} (h : RdLiveU U w cs x) : RdLiveU (Old U w) w cs x := by
  obtain ⟨a, cap, e, hr, hU⟩ := h
  refine ⟨a, cap, e, hr, fun h0 q hq => ⟨hU h0 q hq, ?_⟩⟩
  obtain ⟨b, off, e2, hc⟩ := hr.cell 0 h0
  rw [hq] at e2
  cases e2
  exact World.block_lt_of_cell? w _ hc
theorem rdI_of_owns {w : World} {base n : Nat} {v : Value} {l : List Int} (h : w.ownsRow base 3 1 v n (ints l)) (hl : l.length = n) : ∃ a cap, v = .slice a n cap ∧ Rd .i64 w a n cap l := by
  have hc := fun g hg => h.cells (g := g) hg
  rcases h.2 with ⟨rfl, rfl⟩ | ⟨g, cap, cur, rfl, _, hh, h1, h2, _⟩
  · exact ⟨none, 0, rfl, hl, Nat.le_refl _, by unfold maxLen; omega, fun i hi => by omega⟩
  · refine ⟨_, cap, rfl, hl, h1, h2, fun i hi => ⟨g, 0, rfl, ?_⟩⟩
    have := hc g rfl i (.int .i64 (l.getD i 0)) (by simp [ints, List.getD, hl, hi])
    rw [add0'] at this
    exact this
end Go.Proofs.YtffnfjkjlmlonaaGreatDoor
namespace Go.Proofs.YtffnfjkjlmlonaaGreatDoor
open Go.RowKit
def mkB : ByteArray := ⟨#[109, 97, 114, 107]⟩
def markD (i : Nat) : FrameD := ⟨mkB, mkB, (i : Int)⟩
def fsW (v : Value) : Array Value := #[.slice none 0 0, .slice none 0 0, .slice none 0 0, .slice none 0 0, .slice none 0 0, v, .slice none 0 0, .slice none 0 0, .slice none 0 0]
/-- n lists of frames have come out; each is full of its number; they lie apart from the statement's own cells. -/
def FsV (g : Nat) (v : Value) (w : World) (n : Nat) : Prop :=
  ∃ rows, w.heap[g]? = some (.cells (fsW v) 34 (0, 0)) ∧ w.ownsRow (g + 1) 38 1 v n rows ∧
    ∀ (i : Nat) (u : Value), rows[i]? = some u → ∃ a len, u = .slice a len len ∧ RdL 3 RdFrame w a len len (List.replicate len (markD i)) ∧ InU (fun b => b ≠ g ∧ v.ownBlock ≠ some b) a len
def FsInv (g : Nat) (w : World) (n : Nat) : Prop := ∃ v, FsV g v w n
theorem FsV.below {g : Nat} {v : Value} {w w' : World} {n : Nat} (h : FsV g v w n) (hb : Below w.heap.size w w') : FsV g v w' n := by
  obtain ⟨rows, h1, h2, h3⟩ := h
  refine ⟨rows, (hb.block g (Array.getElem?_eq_some_iff.1 h1).1).trans h1, ownsRow_below h2 hb, fun i u hu => ?_⟩
  obtain ⟨a, len, e, hr, hU⟩ := h3 i u hu
  exact ⟨a, len, e, hr.below hb (fun _ _ h => h), hU⟩
theorem FsInv.below {g : Nat} {w w' : World} {n : Nat} (h : FsInv g w n) (hb : Below w.heap.size w w') : FsInv g w' n := by
  obtain ⟨v, h⟩ := h
  exact ⟨v, h.below hb⟩
theorem FsInv.lt {g : Nat} {w : World} {n : Nat} (h : FsInv g w n) : g < w.heap.size := by
  obtain ⟨v, rows, h1, _⟩ := h
  exact (Array.getElem?_eq_some_iff.1 h1).1
theorem Bare.fs {g : Nat} {w : World} (h : Bare w g) : FsInv g w 0 :=
  ⟨.slice none 0 0, [], h, World.ownsRow_nil _ _ _ _, fun i u hu => by simp at hu⟩
theorem fsCell {w : World} {g : Nat} {v : Value} (h : w.heap[g]? = some (.cells (fsW v) 34 (0, 0))) : w.cell? ⟨g, 5, none⟩ = some v ∧ w.cell? ⟨g, 1, none⟩ = some (.slice none 0 0) ∧ w.cell? ⟨g, 3, none⟩ = some (.slice none 0 0) ∧ w.cell? ⟨g, 6, none⟩ = some (.slice none 0 0) ∧ w.cell? ⟨g, 7, none⟩ = some (.slice none 0 0) ∧ w.cell? ⟨g, 8, none⟩ = some (.slice none 0 0) := by
  simp [World.cell?, h, fsW]
theorem ownsRow_form {w : World} {base : Nat} {e : TypeId} {size : Nat} {v : Value} {n : Nat} {xs : List Value} (h : w.ownsRow base e size v n xs) : ∃ a cap, v = .slice a n cap ∧ n ≤ cap ∧ cap ≤ maxLen ∧ (0 < n → ∃ gv, a = some ⟨gv, 0, none⟩) := by
  rcases h.2 with ⟨rfl, rfl⟩ | ⟨g, cap, cur, rfl, _, _, h1, h2, _⟩
  · exact ⟨none, 0, rfl, Nat.le_refl _, by unfold maxLen; omega, fun h => by omega⟩
  · exact ⟨_, cap, rfl, h1, h2, fun _ => ⟨g, rfl⟩⟩
set_option maxHeartbeats 4000000 in
set_option maxRecDepth 100000 in
theorem marked_fs (g : Nat) (w : World) (n : Nat) (h : FsInv g w n) :
    Calls Tryz.prog 21 #[.pointer (some ⟨g, 0, none⟩)] w fun e w' => e = .returned (.bool true) ∧ Below w.heap.size w w' := by
  have hg := h.lt
  obtain ⟨v, rows, h1, h2, h3⟩ := h
  have hrl : rows.length = n := by have := h2.1; omega
  obtain ⟨va, vcap, rfl, hvc, hvm, hva⟩ := ownsRow_form h2
  obtain ⟨c5, -, -, c6, c7, c8⟩ := fsCell h1
  unfold maxLen at hvm
  have HC := hid (fun gv hg => h2.cells (g := gv) hg)
  have H3 := hid h3
  have HRL := hid hrl
  clear h1 h2 h3 hrl
  go_enter Tryz.func21, Tryz.ntmps21
  go_wp2
  go_loopw [3, 4] (fun ok i wr => ∃ j : Nat, ok = .bool true ∧ i = .int .i64 j ∧ j ≤ n ∧ Below w.heap.size w wr) (fun _ i _ => n - (intOf i).toNat)
  case atStart => exact ⟨0, rfl, rfl, by omega, Below.refl _ _⟩
  case round =>
    obtain ⟨j, rfl, rfl, hj, hbel⟩ := hrel
    have up : ∀ (q : Addr) (u : Value), w.cell? q = some u → ∀ wr, Below w.heap.size w wr → wr.cell? q = some u := fun q u h wr hb => (hb.cell (World.block_lt_of_cell? w _ h)).trans h
    have d5 := up _ _ c5 wr hbel
    by_cases hjn : j < n
    · obtain ⟨gv, rfl⟩ := hva (by omega)
      obtain ⟨u, hu⟩ : ∃ u, rows[j]? = some u := ⟨_, List.getElem?_eq_getElem (by rw [HRL.out]; exact hjn)⟩
      obtain ⟨a, len, rfl, hr, -⟩ := H3.out j u hu
      have cu := HC.out gv rfl j _ hu
      rw [add0'] at cu
      rw [Nat.zero_add] at cu
      have hjn' : (j : Int) < (n : Int) := by omega
      have hlc := hr.2.2.1
      unfold maxLen at hlc
      have HR := hid hr
      have HUP := hid up
      have C5 := hid c5
      have CU := hid cu
      clear hr up hu
      go_wp2
      go_loopw [3, 5] (fun ok i wr => ∃ k : Nat, ok = .bool true ∧ i = .int .i64 k ∧ k ≤ len ∧ Below w.heap.size w wr) (fun _ i _ => len - (intOf i).toNat)
      case atStart => exact ⟨0, rfl, rfl, by omega, hbel⟩
      case round =>
        clear hbel d5
        obtain ⟨k, rfl, rfl, hk, hbel⟩ := hrel
        have d5 := HUP.out _ _ C5.out wr hbel
        have du := HUP.out _ _ CU.out wr hbel
        by_cases hkl : k < len
        · obtain ⟨b, off, rfl, e0, e1, e2⟩ := (HR.out.below hbel (fun _ _ h => h)).frameAt k (markD j) (by rw [List.getElem?_replicate, if_pos hkl])
          simp only [markD] at e0 e1 e2
          have hkl' : (k : Int) < (len : Int) := by omega
          unfold mkB at e0 e1
          go_wp2
          go_roundw
          case rel => exact ⟨k + 1, by rfl, by go_num, by omega, hbel⟩
          case measure => simp [intOf]; omega
        · have hkl' : decide ((k : Int) < (len : Int)) = false := by simp; omega
          go_wp2
          go_roundw
          case rel => exact ⟨j + 1, by rfl, by go_num, by omega, hbel⟩
          case measure => simp [intOf]; omega
    · have hjn' : decide ((j : Int) < (n : Int)) = false := by simp; omega
      have d6 := up _ _ c6 wr hbel
      have d7 := up _ _ c7 wr hbel
      have d8 := up _ _ c8 wr hbel
      go_wp2
      refine wp_loop_rounds 1 ?_
      rw [rounds_succ]
      go_wp2
      refine wp_loop_rounds 1 ?_
      rw [rounds_succ]
      go_wp2
      refine wp_loop_rounds 1 ?_
      rw [rounds_succ]
      go_wp2
      go_ret
      exact ⟨rfl, hbel⟩
set_option maxHeartbeats 1000000 in
set_option maxRecDepth 100000 in
theorem looks_fs (g : Nat) (w : World) (n : Nat) (h : FsInv g w n) :
    Calls Tryz.prog 10 #[.pointer (some ⟨g, 0, none⟩)] w fun e w' => e = .returned (.bool true) ∧ Below w.heap.size w w' := by
  have HM := hid (marked_fs g w n h)
  obtain ⟨v, rows, h1, -, -⟩ := h
  obtain ⟨-, c1, c3, -, -, -⟩ := fsCell h1
  clear h1
  go_enter Tryz.func10, Tryz.ntmps10
  go_wp2
  refine wp_loop_rounds 1 ?_
  rw [rounds_succ]
  go_wp2
  refine wp_loop_rounds 1 ?_
  rw [rounds_succ]
  go_wp2_with fail
  refine HM.out.mono ?_
  rintro e w2 ⟨rfl, hb⟩
  go_wp2
  go_ret
  exact ⟨rfl, hb⟩
end Go.Proofs.YtffnfjkjlmlonaaGreatDoor
namespace Go.Proofs.YtffnfjkjlmlonaaGreatDoor
open Go.RowKit
theorem three_new (w : World) (a b c : Value) (t : TypeId) : ∀ j u, [a, b, c][j]? = some u → (w.alloc (.cells #[a, b, c] t)).cell? ((⟨w.heap.size, 0, none⟩ : Addr).add j) = some u := by
  intro i u hu
  match i, hu with
  | 0, hu => simp at hu; subst hu; simp [Addr.add]
  | 1, hu => simp at hu; subst hu; simp [Addr.add]
  | 2, hu => simp at hu; subst hu; simp [Addr.add]
theorem three_one_sf (a b : ByteArray) (n : Int) : ∀ u ∈ [Value.string a, .string b, .int .i64 n], u.oneCell' = true := by
  intro u hu; simp at hu; rcases hu with rfl | rfl | rfl <;> rfl
theorem Tryz.infoFrame : (Tryz.prog.info? 107).map (fun i => (i.zero, i.size, i.bytes)) = some (some (.agg #[.string ⟨#[]⟩, .string ⟨#[]⟩, .int .i64 0]), 3, 40) := by kernel_rfl
end Go.Proofs.YtffnfjkjlmlonaaGreatDoor
namespace Go.Proofs.YtffnfjkjlmlonaaGreatDoor
open Go.RowKit
structure PlD where
  fn : Int
  op : Int
  inst : Int
structure LyD where
  room : Int
  places : List PlD
  tree : List (Int × Int)
structure CodeD where
  first : Int
  places : List PlD
  tree : List (Int × Int)
/-- Is an op a Call that is inlined, within these functions? -/
def inlB (p : List FnD) (bud : Int) (ar : List Int) (o : OpD) : Bool := o.code == 5 && (!(ar.contains o.b) && decide (((fnAt p o.b).body.length : Int) ≤ bud))
def layB (rec : Int → List Int → LyD → LyD) (p : List FnD) (bud fn : Int) (ar : List Int) (k : Int) : List OpD → Nat → LyD → LyD
  | [], _, s => s
  | o :: r, i, s =>
    if s.room - 1 < 0 then ⟨s.room - 1, s.places, s.tree⟩ else
    if inlB p bud ar o = true then layB rec p bud fn ar k r (i + 1) (rec o.b ar ⟨s.room - 1, s.places ++ [⟨fn, i, k⟩], s.tree ++ [(o.b, (s.places.length : Int))]⟩)
    else layB rec p bud fn ar k r (i + 1) ⟨s.room - 1, s.places ++ [⟨fn, i, k⟩], s.tree⟩
/-- An instance of a function, laid behind what is laid. -/
def layI (p : List FnD) (bud : Int) : Nat → Int → List Int → LyD → LyD
  | 0, _, _, s => s
  | f + 1, fn, ar, s => layB (layI p bud f) p bud fn (fn :: ar) s.tree.length (fnAt p fn).body 0 s
def layAll (p : List FnD) (bud : Int) : Nat → Nat → Int → List CodeD → Option (List CodeD)
  | 0, _, _, l => some l
  | n + 1, fn, room, l => if (layI p bud 12 fn [] ⟨room, [], []⟩).room < 0 then none else layAll p bud n (fn + 1) (layI p bud 12 fn [] ⟨room, [], []⟩).room (l ++ [⟨1000 - room, (layI p bud 12 fn [] ⟨room, [], []⟩).places, (layI p bud 12 fn [] ⟨room, [], []⟩).tree⟩])
def codesD (p : List FnD) (bud : Int) : Option (List CodeD) := layAll p bud p.length 0 1000 []
end Go.Proofs.YtffnfjkjlmlonaaGreatDoor
