/- How a run of the reference lies in memory, and which blocks it lies in; nothing is claimed of the program here. Contract of the developers' (*run.Run).op: the op at which a frame is. Contract of the developers' (*code.writer).isInlined: is an op a Call that is inlined? -/
import Derived.Test.YtebjndcokkefhaaDoorZ4
import Derived.Test.YtebjndcokkefhaaDoorZ18
import Derived.Deep.RegionHeld
import Derived.Test.YtebjndcokkefhaaDoorZ5
namespace Go.Proofs.YtebjndcokkefhaaDoor
open Go.RowKit

theorem heap_new_at {w : World} {a : Array Value} {t : TypeId} {n : Nat} (h : w.heap.size = n) : (w.alloc (.cells a t)).heap[n]? = some (.cells a t (0, 0)) := by subst h; exact heap_alloc_new _ _
theorem heap_at1 {w : World} {o : Obj} {n : Nat} {v : Option Obj} (h : n < w.heap.size) (e : w.heap[n]? = v) : (w.alloc o).heap[n]? = v := (heap_alloc_old _ _ h).trans e

theorem lt_alloc_drew (w : World) (o : Obj) : w.heap.size < (w.alloc o).drew.heap.size := by
  have h : (w.alloc o).heap.size = w.heap.size + 1 := by simp
  show w.heap.size < (w.alloc o).heap.size
  rw [h]
  exact Nat.lt_succ_self _
theorem alloc_drew_new (w : World) (a : Array Value) (t : TypeId) : (w.alloc (.cells a t)).drew.heap[w.heap.size]? = some (.cells a t (0, 0)) := heap_new_at (w := w) rfl

theorem ownsRow_below {w w' : World} {base : Nat} {e : TypeId} {size : Nat} {v : Value} {n : Nat} {xs : List Value} (h : w.ownsRow base e size v n xs) (hb : Below w.heap.size w w') : w'.ownsRow base e size v n xs := by
  refine ⟨h.1, ?_⟩
  rcases h.2 with h2 | ⟨g, cap, cur, h1, h2, h3, h4⟩
  · exact .inl h2
  · exact .inr ⟨g, cap, cur, h1, h2, (hb.block g (Array.getElem?_eq_some_iff.1 h3).1).trans h3, h4⟩

/-- A fact that is found out on the way: one goal for all orders of evaluation. -/
structure Kept (P : Prop) : Prop where
  out : P
theorem cutB {P G : Prop} (h : P) (k : Kept P → G) : G := k ⟨h⟩

/-- Blocks of the one kind, or new ones. -/
def OrNew (U : Nat → Prop) (n : Nat) (b : Nat) : Prop := U b ∨ n ≤ b
def InU (U : Nat → Prop) (a : Option Addr) (n : Nat) : Prop := 0 < n → ∀ q, a = some q → U q.block
/-- The worlds agree on the blocks of U that the first one has. -/
def Keeps (U : Nat → Prop) (w w' : World) : Prop := ∀ b, U b → b < w.heap.size → w'.heap[b]? = w.heap[b]?

theorem Keeps.below {U : Nat → Prop} {w w' : World} (h : Below w.heap.size w w') : Keeps U w w' := fun b _ hb => h.block b hb
theorem Keeps.setCell {U : Nat → Prop} {w : World} {p : Addr} (h : ¬ U p.block) (v : Value) : Keeps U w (w.setCell p v) := fun b hb _ => Below.heap_setCell _ _ _ _ (by rintro rfl; exact h hb)

theorem keeps_cell {U : Nat → Prop} {w w' : World} (h : Keeps U w w') {p : Addr} (hU : U p.block) {v : Value} (hc : w.cell? p = some v) : w'.cell? p = some v := by
  have hb := World.block_lt_of_cell? w _ hc
  rw [← hc]
  unfold World.cell?
  rw [h p.block hU hb]

theorem Rd.keeps {k : IntKind} {U : Nat → Prop} {w w' : World} {a : Option Addr} {len cap : Nat} {l : List Int} (h : Rd k w a len cap l) (hU : InU U a len) (hk : Keeps U w w') : Rd k w' a len cap l := by
  refine ⟨h.hlen, h.hcap, h.hmax, fun i hi => ?_⟩
  obtain ⟨b, off, rfl, hc⟩ := h.cell i hi
  exact ⟨b, off, rfl, keeps_cell hk (p := ⟨b, off + i, none⟩) (hU (by omega) ⟨b, off, none⟩ rfl) hc⟩
theorem RdL.keeps {α : Type} {size : Nat} {R R' : World → List Value → α → Prop} {U : Nat → Prop} {w w' : World} {a : Option Addr} {len cap : Nat} {l : List α} (h : RdL size R w a len cap l) (hU : InU U a len) (hk : Keeps U w w')
    (hR : ∀ cs x, R w cs x → R' w' cs x) : RdL size R' w' a len cap l := by
  obtain ⟨h1, h2, h3, h4⟩ := h
  refine ⟨h1, h2, h3, fun i x hx => ?_⟩
  obtain ⟨b, off, cs, e, hl, hc, hr⟩ := h4 i x hx
  refine ⟨b, off, cs, e, hl, fun j v hj => keeps_cell hk (p := ⟨b, off + i * size + j, none⟩) (hU (by have := (List.getElem?_eq_some_iff.1 hx).1; omega) ⟨b, off, none⟩ e) (hc j v hj), hR cs x hr⟩

def RdLiveU (U : Nat → Prop) (w : World) (cs : List Value) (x : LiveD) : Prop :=
  ∃ a cap, cs = [.int .i64 x.fn, .int .i64 x.next, .slice a x.locals.length cap] ∧ Rd .i64 w a x.locals.length cap x.locals ∧ InU U a x.locals.length
def RdStandU (U : Nat → Prop) (w : World) (cs : List Value) (s : StandD) : Prop :=
  ∃ a cap, cs = [.int .i64 s.status, .int .i64 s.value, .slice a s.live.length cap] ∧ RdL 3 (RdLiveU U) w a s.live.length cap s.live ∧ InU U a s.live.length

theorem RdLiveU.shape {U : Nat → Prop} {w : World} (cs : List Value) (x : LiveD) (h : RdLiveU U w cs x) : ∃ la lcap, cs = [.int .i64 x.fn, .int .i64 x.next, .slice la x.locals.length lcap] := by
  obtain ⟨a, cap, e, _⟩ := h
  exact ⟨a, cap, e⟩
theorem RdLiveU.keeps {U V : Nat → Prop} {w w' : World} {cs : List Value} {x : LiveD} (h : RdLiveU U w cs x) (hk : Keeps U w w') (hV : ∀ b, U b → V b) : RdLiveU V w' cs x := by
  obtain ⟨a, cap, e, hr, hU⟩ := h
  exact ⟨a, cap, e, hr.keeps hU hk, fun h0 q hq => hV _ (hU h0 q hq)⟩
theorem RdStandU.keeps {U V : Nat → Prop} {w w' : World} {cs : List Value} {s : StandD} (h : RdStandU U w cs s) (hk : Keeps U w w') (hV : ∀ b, U b → V b) : RdStandU V w' cs s := by
  obtain ⟨a, cap, e, hr, hU⟩ := h
  exact ⟨a, cap, e, hr.keeps hU hk (fun _ _ h => h.keeps hk hV), fun h0 q hq => hV _ (hU h0 q hq)⟩
theorem RdStandU.below {U : Nat → Prop} {w w' : World} {cs : List Value} {s : StandD} (h : RdStandU U w cs s) (hb : Below w.heap.size w w') : RdStandU U w' cs s := h.keeps (Keeps.below hb) (fun _ h => h)
theorem RdLiveU.below {U : Nat → Prop} {w w' : World} {cs : List Value} {x : LiveD} (h : RdLiveU U w cs x) (hb : Below w.heap.size w w') : RdLiveU U w' cs x := h.keeps (Keeps.below hb) (fun _ h => h)

/-- What lies there lies in blocks that are there. -/
def Old (U : Nat → Prop) (w : World) (b : Nat) : Prop := U b ∧ b < w.heap.size
theorem RdLiveU.old {U : Nat → Prop} {w : World} {cs : List Value} {x : LiveD} (h : RdLiveU U w cs x) : RdLiveU (Old U w) w cs x := by
  obtain ⟨a, cap, e, hr, hU⟩ := h
  refine ⟨a, cap, e, hr, fun h0 q hq => ⟨hU h0 q hq, ?_⟩⟩
  obtain ⟨b, off, e2, hc⟩ := hr.cell 0 h0
  rw [hq] at e2
  cases e2
  exact World.block_lt_of_cell? w _ hc
theorem rdL_old {U : Nat → Prop} {w : World} {a : Option Addr} {n cap : Nat} {l : List LiveD} (h : RdL 3 (RdLiveU U) w a n cap l) (hU : InU U a n) : RdL 3 (RdLiveU (Old U w)) w a n cap l ∧ InU (Old U w) a n := by
  refine ⟨⟨h.1, h.2.1, h.2.2.1, fun i x hx => ?_⟩, fun h0 q hq => ⟨hU h0 q hq, ?_⟩⟩
  · obtain ⟨b, off, cs, e, hl, hc, hr⟩ := h.2.2.2 i x hx
    exact ⟨b, off, cs, e, hl, hc, hr.old⟩
  · obtain ⟨x, hx⟩ : ∃ x, l[0]? = some x := ⟨_, List.getElem?_eq_getElem (by rw [h.1]; exact h0)⟩
    obtain ⟨b, off, cs, e, hl, hc, hr⟩ := h.2.2.2 0 x hx
    rw [hq] at e
    cases e
    have hc0 := hc 0 _ (List.getElem?_eq_getElem (by omega))
    exact World.block_lt_of_cell? w _ hc0

theorem rdI_of_owns {w : World} {base n : Nat} {v : Value} {l : List Int} (h : w.ownsRow base 3 1 v n (ints l)) (hl : l.length = n) : ∃ a cap, v = .slice a n cap ∧ Rd .i64 w a n cap l := by
  have hc := fun g hg => h.cells (g := g) hg
  rcases h.2 with ⟨rfl, rfl⟩ | ⟨g, cap, cur, rfl, _, hh, h1, h2, _⟩
  · exact ⟨none, 0, rfl, hl, Nat.le_refl _, by unfold maxLen; omega, fun i hi => by omega⟩
  · refine ⟨_, cap, rfl, hl, h1, h2, fun i hi => ⟨g, 0, rfl, ?_⟩⟩
    have := hc g rfl i (.int .i64 (l.getD i 0)) (by simp [ints, List.getD, hl, hi])
    rw [add0'] at this
    exact this

/-- A frame that was made anew. -/
theorem liveU_new {w : World} {B : Nat} {cs : List Value} {x : LiveD} (h : RdLive w cs x) (hn : ∃ g n c, B ≤ g ∧ cs[2]? = some (.slice (some ⟨g, 0, none⟩) n c)) : RdLiveU (fun b => B ≤ b) w cs x := by
  obtain ⟨a, cap, rfl, hr⟩ := h
  obtain ⟨g, n, c, hg, e⟩ := hn
  simp at e
  obtain ⟨rfl, _, _⟩ := e
  exact ⟨_, cap, rfl, hr, fun _ q hq => by cases hq; exact hg⟩

/-- A run that is laid into the box of a result. -/
theorem stand_boxed {U : Nat → Prop} {w w3 : World} {n2 bx : Nat} {cs : List Value} {s : StandD} (h : RdStandU (OrNew (Old U w) n2) w3 cs s) (h1 : w.heap.size ≤ bx) (h2 : bx < n2) (u0 u1 u2 : Value) :
    RdStandU (OrNew U w.heap.size) (((w3.setCell ⟨bx, 0, none⟩ u0).setCell ⟨bx, 1, none⟩ u1).setCell ⟨bx, 2, none⟩ u2) cs s := by
  have hnb : ∀ j : Nat, ¬ OrNew (Old U w) n2 (⟨bx, j, none⟩ : Addr).block := fun j h => by
    rcases h with h | h
    · have h' : bx < w.heap.size := h.2
      omega
    · have h' : n2 ≤ bx := h
      omega
  exact ((h.keeps (Keeps.setCell (hnb 0) _) (fun _ h => h)).keeps (Keeps.setCell (hnb 1) _) (fun _ h => h)).keeps (Keeps.setCell (hnb 2) _) (fun b h => by
    rcases h with h | h
    · exact .inl h.1
    · exact .inr (by omega))
theorem below_boxed {w w3 : World} {B bx : Nat} (h : Below B w w3) (h1 : B ≤ bx) (u0 u1 u2 : Value) : Below B w (((w3.setCell ⟨bx, 0, none⟩ u0).setCell ⟨bx, 1, none⟩ u1).setCell ⟨bx, 2, none⟩ u2) :=
  ((h.setCell (p := ⟨bx, 0, none⟩) h1 u0).setCell (p := ⟨bx, 1, none⟩) h1 u1).setCell (p := ⟨bx, 2, none⟩) h1 u2
end Go.Proofs.YtebjndcokkefhaaDoor
namespace Go.Proofs.YtebjndcokkefhaaDoor
open Go.RowKit

set_option maxHeartbeats 4000000 in
set_option maxRecDepth 100000 in
theorem op_any (rb : Nat) (p : List FnD) (pa : Option Addr) (pcap : Nat) (x : LiveD) (w : World) (hc : w.cell? ⟨rb, 0, none⟩ = some (.slice pa p.length pcap)) (hp : RdP w pa p.length pcap p) (hx : WfLive p x) (hl : x.locals.length ≤ 8) :
    Calls Tryd.prog 86 #[.pointer (some ⟨rb, 0, none⟩), .agg (frmCells x).toArray] w fun e w' =>
      ∃ oa ocap, e = .returned (.agg #[.int .i64 (opOf p x).code, .int .i64 (opOf p x).line, .int .i64 (opOf p x).a, .int .i64 (opOf p x).b, .int .i64 (opOf p x).c, .slice oa (opOf p x).args.length ocap]) ∧ Rd .i64 w' oa (opOf p x).args.length ocap (opOf p x).args ∧ Below w.heap.size w w' := by
  have hcn := hx.next
  have hcf := hx.fn
  obtain ⟨pb, poff, ba, bcap, rfl, -, -, -, -, -, c4, hrb, -, -⟩ := hp.at x.fn.toNat _ (fnOf_some hx)
  obtain ⟨qb, qoff, oa, ocap, rfl, -, q0, q1, q2, q3, q4, q5, hro⟩ := hrb.opAt x.next.toNat _ (opOf_some hx)
  have hbl1 := hrb.2.1
  have hbl2 := hrb.2.2.1
  have hpc1 := hp.2.1
  have hpc2 := hp.2.2.1
  unfold maxLen at hbl2 hpc2
  have hlr := World.block_lt_of_cell? w _ hc
  have lt1 := World.block_lt_of_cell? w _ c4
  have lt2 := World.block_lt_of_cell? w _ q0
  simp only at hlr lt1 lt2
  obtain ⟨fN, hfN⟩ : ∃ n : Nat, x.fn = n := ⟨x.fn.toNat, by omega⟩
  obtain ⟨sN, hsN⟩ : ∃ n : Nat, x.next = n := ⟨x.next.toNat, by omega⟩
  have hfp : fN < p.length := by omega
  have hsb : sN < (fnOf p x).body.length := by omega
  rw [hfN] at c4
  rw [hsN] at q0 q1 q2 q3 q4 q5
  simp only [Int.toNat_natCast] at c4 q0 q1 q2 q3 q4 q5
  have HRO := hid hro
  generalize opOf p x = o at *
  obtain ⟨oc, ol, oaa, ob, od, args⟩ := o
  simp only at *
  generalize (fnOf p x).body.length = bl at *
  generalize p.length = pl at *
  have hpl8 := pad8_len hl
  unfold frmCells
  rw [hfN, hsN]
  obtain ⟨xf, xn, xl⟩ := x
  simp only at *
  generalize pad8 xl = q at *
  obtain ⟨l0, l1, l2, l3, l4, l5, l6, l7, rfl⟩ := eight hpl8
  obtain ⟨na, hna⟩ : ∃ v, v = args.length := ⟨_, rfl⟩
  rw [← hna] at q5 HRO ⊢
  clear hro hrb hp hx hcn hcf hpl8 hl hfN hsN hna
  simp only [List.map_cons, List.map_nil]
  obtain ⟨wb, hwb⟩ : ∃ wb, wb = (w.alloc (Obj.cells #[.int .i64 fN, .int .i64 sN, .int .i64 l0, .int .i64 l1, .int .i64 l2, .int .i64 l3, .int .i64 l4, .int .i64 l5, .int .i64 l6, .int .i64 l7] 153)).alloc (Obj.cells #[.int .i64 0, .int .i64 0, .int .i64 0, .int .i64 0, .int .i64 0, .slice none 0 0] 77) := ⟨_, rfl⟩
  have hbb : Below w.heap.size w wb := by rw [hwb]; exact ((Below.refl _ _).alloc (Nat.le_refl _) _).alloc (by simp) _
  have hbs : wb.heap.size = w.heap.size + 2 := by rw [hwb]; simp
  have k0 : wb.heap[w.heap.size]? = some (.cells #[.int .i64 fN, .int .i64 sN, .int .i64 l0, .int .i64 l1, .int .i64 l2, .int .i64 l3, .int .i64 l4, .int .i64 l5, .int .i64 l6, .int .i64 l7] 153 (0, 0)) := by rw [hwb]; exact heap_at1 (by simp <;> omega) (heap_new_at (by simp))
  have k1 : wb.heap[w.heap.size + 1]? = some (.cells #[.int .i64 0, .int .i64 0, .int .i64 0, .int .i64 0, .int .i64 0, .slice none 0 0] 77 (0, 0)) := by rw [hwb]; exact heap_new_at (by simp)
  go_enter Tryd.func86, Tryd.ntmps86
  go_wp2
  rw [← hwb]
  clear hwb
  have up : ∀ (q : Addr) (u : Value), w.cell? q = some u → wb.cell? q = some u := fun q u h => (hbb.cell (World.block_lt_of_cell? w _ h)).trans h
  have s0 := up _ _ hc
  have s3 := up _ _ c4
  have p0 := up _ _ q0
  have p1 := up _ _ q1
  have p2 := up _ _ q2
  have p3 := up _ _ q3
  have p4 := up _ _ q4
  have p5 := up _ _ q5
  have s1 : wb.cell? ⟨w.heap.size, 0, none⟩ = some (.int .i64 fN) := by simp [World.cell?, k0]
  have s2 : wb.cell? ⟨w.heap.size, 1, none⟩ = some (.int .i64 sN) := by simp [World.cell?, k0]
  have z0 : wb.cell? ⟨w.heap.size + 1, 0, none⟩ = some (.int .i64 0) := by simp [World.cell?, k1]
  have z1 : wb.cell? ⟨w.heap.size + 1, 1, none⟩ = some (.int .i64 0) := by simp [World.cell?, k1]
  have z2 : wb.cell? ⟨w.heap.size + 1, 2, none⟩ = some (.int .i64 0) := by simp [World.cell?, k1]
  have z3 : wb.cell? ⟨w.heap.size + 1, 3, none⟩ = some (.int .i64 0) := by simp [World.cell?, k1]
  have z4 : wb.cell? ⟨w.heap.size + 1, 4, none⟩ = some (.int .i64 0) := by simp [World.cell?, k1]
  have z5 : wb.cell? ⟨w.heap.size + 1, 5, none⟩ = some (.slice none 0 0) := by simp [World.cell?, k1]
  have f0 : wb.frozen? ⟨w.heap.size + 1, 0, none⟩ = false := by simp [World.frozen?, k1]
  have f1 : wb.frozen? ⟨w.heap.size + 1, 1, none⟩ = false := by simp [World.frozen?, k1]
  have f2 : wb.frozen? ⟨w.heap.size + 1, 2, none⟩ = false := by simp [World.frozen?, k1]
  have f3 : wb.frozen? ⟨w.heap.size + 1, 3, none⟩ = false := by simp [World.frozen?, k1]
  have f4 : wb.frozen? ⟨w.heap.size + 1, 4, none⟩ = false := by simp [World.frozen?, k1]
  have f5 : wb.frozen? ⟨w.heap.size + 1, 5, none⟩ = false := by simp [World.frozen?, k1]
  have HU := hid (fun (W : World) (h : Below (w.heap.size + 1) wb W) (q : Addr) (u : Value) (hq : q.block < w.heap.size + 1) (hc : wb.cell? q = some u) => (h.cell hq).trans hc)
  have KS := hid (fun (W : World) (h : Below (w.heap.size + 1) wb W) => (⟨h, HU.out W h _ _ (by simp; omega) s0, HU.out W h _ _ (by simp) s1, HU.out W h _ _ (by simp) s2, HU.out W h _ _ (by simp; omega) s3, HU.out W h _ _ (by simp; omega) p0, HU.out W h _ _ (by simp; omega) p1, HU.out W h _ _ (by simp; omega) p2, HU.out W h _ _ (by simp; omega) p3, HU.out W h _ _ (by simp; omega) p4, HU.out W h _ _ (by simp; omega) p5⟩ : Below (w.heap.size + 1) wb W ∧ W.cell? ⟨rb, 0, none⟩ = some (.slice (some ⟨pb, poff, none⟩) pl pcap) ∧ W.cell? ⟨w.heap.size, 0, none⟩ = some (.int .i64 fN) ∧ W.cell? ⟨w.heap.size, 1, none⟩ = some (.int .i64 sN) ∧ W.cell? ⟨pb, poff + fN * 5 + 4, none⟩ = some (.slice (some ⟨qb, qoff, none⟩) bl bcap) ∧ W.cell? ⟨qb, qoff + sN * 6, none⟩ = some (.int .i64 oc) ∧ W.cell? ⟨qb, qoff + sN * 6 + 1, none⟩ = some (.int .i64 ol) ∧ W.cell? ⟨qb, qoff + sN * 6 + 2, none⟩ = some (.int .i64 oaa) ∧ W.cell? ⟨qb, qoff + sN * 6 + 3, none⟩ = some (.int .i64 ob) ∧ W.cell? ⟨qb, qoff + sN * 6 + 4, none⟩ = some (.int .i64 od) ∧ W.cell? ⟨qb, qoff + sN * 6 + 5, none⟩ = some (.slice oa na ocap)))
  clear s0 s1 s2 s3 p0 p1 p2 p3 p4 p5 hc c4 q0 q1 q2 q3 q4 q5 up k0 k1
  go_region_held (fun W => Below (w.heap.size + 1) wb W ∧ W.cell? ⟨rb, 0, none⟩ = some (.slice (some ⟨pb, poff, none⟩) pl pcap) ∧ W.cell? ⟨w.heap.size, 0, none⟩ = some (.int .i64 fN) ∧ W.cell? ⟨w.heap.size, 1, none⟩ = some (.int .i64 sN) ∧ W.cell? ⟨pb, poff + fN * 5 + 4, none⟩ = some (.slice (some ⟨qb, qoff, none⟩) bl bcap) ∧ W.cell? ⟨qb, qoff + sN * 6, none⟩ = some (.int .i64 oc) ∧ W.cell? ⟨qb, qoff + sN * 6 + 1, none⟩ = some (.int .i64 ol) ∧ W.cell? ⟨qb, qoff + sN * 6 + 2, none⟩ = some (.int .i64 oaa) ∧ W.cell? ⟨qb, qoff + sN * 6 + 3, none⟩ = some (.int .i64 ob) ∧ W.cell? ⟨qb, qoff + sN * 6 + 4, none⟩ = some (.int .i64 od) ∧ W.cell? ⟨qb, qoff + sN * 6 + 5, none⟩ = some (.slice oa na ocap))
    ((refine KS.out _ ?_; first | with_reducible exact (Below.refl _ _).drew | with_reducible exact (((((((Below.refl _ _).setCell (p := ⟨w.heap.size + 1, 0, none⟩) (Nat.le_refl _) _).setCell (p := ⟨w.heap.size + 1, 1, none⟩) (Nat.le_refl _) _).setCell (p := ⟨w.heap.size + 1, 2, none⟩) (Nat.le_refl _) _).setCell (p := ⟨w.heap.size + 1, 3, none⟩) (Nat.le_refl _) _).setCell (p := ⟨w.heap.size + 1, 4, none⟩) (Nat.le_refl _) _).setCell (p := ⟨w.heap.size + 1, 5, none⟩) (Nat.le_refl _) _).drew))
    (fail)
  have HBE := hid ((((((hbb.setCell (p := ⟨w.heap.size + 1, 0, none⟩) (Nat.le_succ _) (.int .i64 oc)).setCell (p := ⟨w.heap.size + 1, 1, none⟩) (Nat.le_succ _) (.int .i64 ol)).setCell (p := ⟨w.heap.size + 1, 2, none⟩) (Nat.le_succ _) (.int .i64 oaa)).setCell (p := ⟨w.heap.size + 1, 3, none⟩) (Nat.le_succ _) (.int .i64 ob)).setCell (p := ⟨w.heap.size + 1, 4, none⟩) (Nat.le_succ _) (.int .i64 od)).setCell (p := ⟨w.heap.size + 1, 5, none⟩) (Nat.le_succ _) (.slice oa na ocap)).drew
  obtain ⟨w2, hw2⟩ : ∃ w2, w2 = ((((((wb.setCell ⟨w.heap.size + 1, 0, none⟩ (.int .i64 oc)).setCell ⟨w.heap.size + 1, 1, none⟩ (.int .i64 ol)).setCell ⟨w.heap.size + 1, 2, none⟩ (.int .i64 oaa)).setCell ⟨w.heap.size + 1, 3, none⟩ (.int .i64 ob)).setCell ⟨w.heap.size + 1, 4, none⟩ (.int .i64 od)).setCell ⟨w.heap.size + 1, 5, none⟩ (.slice oa na ocap)).drew := ⟨_, rfl⟩
  have y0 : w2.cell? ⟨w.heap.size + 1, 0, none⟩ = some (.int .i64 oc) := by rw [hw2]; simp [go_sem, z0]
  have y1 : w2.cell? ⟨w.heap.size + 1, 1, none⟩ = some (.int .i64 ol) := by rw [hw2]; simp [go_sem, z1]
  have y2 : w2.cell? ⟨w.heap.size + 1, 2, none⟩ = some (.int .i64 oaa) := by rw [hw2]; simp [go_sem, z2]
  have y3 : w2.cell? ⟨w.heap.size + 1, 3, none⟩ = some (.int .i64 ob) := by rw [hw2]; simp [go_sem, z3]
  have y4 : w2.cell? ⟨w.heap.size + 1, 4, none⟩ = some (.int .i64 od) := by rw [hw2]; simp [go_sem, z4]
  have y5 : w2.cell? ⟨w.heap.size + 1, 5, none⟩ = some (.slice oa na ocap) := by rw [hw2]; simp [go_sem, z5]
  rw [← hw2] at HBE ⊢
  clear hw2 KS HU z0 z1 z2 z3 z4 z5 f0 f1 f2 f3 f4 f5
  go_wp2
  exact bodyPost_ret (v := .agg #[.int .i64 oc, .int .i64 ol, .int .i64 oaa, .int .i64 ob, .int .i64 od, .slice oa na ocap]) (by simp [results, Tryd.results86, go_sem, y0, y1, y2, y3, y4, y5]) rfl ⟨oa, ocap, rfl, HRO.out.below HBE.out (Nat.le_refl _), HBE.out⟩
end Go.Proofs.YtebjndcokkefhaaDoor
namespace Go.Proofs.YtebjndcokkefhaaDoor
open Go.RowKit

def arB (ar : List Int) (i : Nat) : Bool := ar.contains (i : Int)
/-- The functions around an instance, as an array of truths. -/
def arCells (ar : List Int) : List Value := [.bool (arB ar 0), .bool (arB ar 1), .bool (arB ar 2), .bool (arB ar 3), .bool (arB ar 4), .bool (arB ar 5), .bool (arB ar 6), .bool (arB ar 7), .bool (arB ar 8), .bool (arB ar 9), .bool (arB ar 10), .bool (arB ar 11)]
theorem arCells_get (ar : List Int) (i : Nat) (h : i < 12) : (arCells ar)[i]? = some (.bool (arB ar i)) := by
  match i, h with
  | 0, _ => rfl
  | 1, _ => rfl
  | 2, _ => rfl
  | 3, _ => rfl
  | 4, _ => rfl
  | 5, _ => rfl
  | 6, _ => rfl
  | 7, _ => rfl
  | 8, _ => rfl
  | 9, _ => rfl
  | 10, _ => rfl
  | 11, _ => rfl
theorem arB_cons (ar : List Int) (n i : Nat) : arB ((n : Int) :: ar) i = (decide (i = n) || arB ar i) := by
  unfold arB
  rw [List.contains_cons]
  congr 1
  by_cases h : i = n
  · simp [h]
  · simp [h]; omega
theorem arCells_len (ar : List Int) : (arCells ar).length = 12 := rfl
theorem arCells_set (ar : List Int) (n : Nat) : (arCells ar).set n (.bool true) = arCells ((n : Int) :: ar) := by
  refine List.ext_getElem? fun i => ?_
  by_cases hi : i < 12
  · rw [arCells_get _ i hi, List.getElem?_set, arB_cons]
    by_cases hn : n = i
    · subst hn
      rw [if_pos rfl, if_pos (by rw [arCells_len]; exact hi)]
      simp
    · rw [if_neg hn, arCells_get _ i hi]
      have : decide (i = n) = false := by simp; omega
      rw [this]
      simp
  · rw [List.getElem?_eq_none (by rw [List.length_set, arCells_len]; omega), List.getElem?_eq_none (by rw [arCells_len]; omega)]

set_option maxHeartbeats 4000000 in
set_option maxRecDepth 100000 in
theorem isInl_any (wb : Nat) (p : List FnD) (pa : Option Addr) (pcap : Nat) (bud : Int) (ar : List Int) (o : OpD) (oa : Option Addr) (na ocap : Nat) (w : World) (h0 : w.cell? ⟨wb, 0, none⟩ = some (.slice pa p.length pcap)) (h1 : w.cell? ⟨wb, 1, none⟩ = some (.int .i64 bud)) (hp : RdP w pa p.length pcap p) (hl : p.length ≤ 12) (hok : o.code = 5 → 0 ≤ o.b ∧ o.b < p.length) :
    Calls Tryd.prog 104 #[.pointer (some ⟨wb, 0, none⟩), .agg #[.int .i64 o.code, .int .i64 o.line, .int .i64 o.a, .int .i64 o.b, .int .i64 o.c, .slice oa na ocap], .agg (arCells ar).toArray] w fun e w' => e = .returned (.bool (inlB p bud ar o)) ∧ Below w.heap.size w w' := by
  obtain ⟨oc, ol, oA, ob, od, oargs⟩ := o
  dsimp only at hok ⊢
  by_cases hc : oc = 5
  · subst hc
    obtain ⟨hb1, hb2⟩ := hok rfl
    obtain ⟨bN, rfl⟩ : ∃ n : Nat, ob = n := ⟨ob.toNat, by omega⟩
    have hg := arCells_get ar bN (by omega)
    have hb12 : (bN : Int) < 12 := by omega
    by_cases ha : arB ar bN = true
    · have hin : inlB p bud ar ⟨5, ol, oA, bN, od, oargs⟩ = false := by unfold inlB; unfold arB at ha; simp; intro h; exact absurd (List.contains_iff_mem.1 ha) h
      rw [hin]
      rw [ha] at hg
      unfold arCells at hg ⊢
      generalize arB ar 0 = a0 at *
      generalize arB ar 1 = a1 at *
      generalize arB ar 2 = a2 at *
      generalize arB ar 3 = a3 at *
      generalize arB ar 4 = a4 at *
      generalize arB ar 5 = a5 at *
      generalize arB ar 6 = a6 at *
      generalize arB ar 7 = a7 at *
      generalize arB ar 8 = a8 at *
      generalize arB ar 9 = a9 at *
      generalize arB ar 10 = a10 at *
      generalize arB ar 11 = a11 at *
      have hg2 : (#[Value.bool a0, .bool a1, .bool a2, .bool a3, .bool a4, .bool a5, .bool a6, .bool a7, .bool a8, .bool a9, .bool a10, .bool a11] : Array Value)[bN]? = some (.bool true) := by simpa using hg
      clear hin ha hg
      go_enter Tryd.func104, Tryd.ntmps104
      go_wp2
      exact bodyPost_ret (v := .bool false) (by simp [results, Tryd.results104, go_sem]) rfl ⟨rfl, ((Below.refl _ _).alloc (Nat.le_refl _) _).alloc (by simp) _⟩
    · have hfs : p[bN]? = some (fnAt p bN) := by
        have := fnAt_some (p := p) (n := (bN : Int)) ⟨by omega, hb2⟩
        simpa using this
      obtain ⟨pb, poff, ba, bcap, rfl, -, -, -, -, -, c4, hrb, -, -⟩ := hp.at bN _ hfs
      have hbl1 := hrb.2.1
      have hbl2 := hrb.2.2.1
      have hpc1 := hp.2.1
      have hpc2 := hp.2.2.1
      unfold maxLen at hbl2 hpc2
      have lt0 := World.block_lt_of_cell? w _ h0
      have lt1 := World.block_lt_of_cell? w _ c4
      simp only at lt0 lt1
      have hin : inlB p bud ar ⟨5, ol, oA, bN, od, oargs⟩ = decide (((fnAt p bN).body.length : Int) ≤ bud) := by
        unfold inlB
        unfold arB at ha
        have : ar.contains (bN : Int) = false := by simpa using ha
        simp only [this]
        rfl
      rw [hin]
      have ha' : arB ar bN = false := by simpa using ha
      rw [ha'] at hg
      unfold arCells at hg ⊢
      generalize arB ar 0 = a0 at *
      generalize arB ar 1 = a1 at *
      generalize arB ar 2 = a2 at *
      generalize arB ar 3 = a3 at *
      generalize arB ar 4 = a4 at *
      generalize arB ar 5 = a5 at *
      generalize arB ar 6 = a6 at *
      generalize arB ar 7 = a7 at *
      generalize arB ar 8 = a8 at *
      generalize arB ar 9 = a9 at *
      generalize arB ar 10 = a10 at *
      generalize arB ar 11 = a11 at *
      have hg2 : (#[Value.bool a0, .bool a1, .bool a2, .bool a3, .bool a4, .bool a5, .bool a6, .bool a7, .bool a8, .bool a9, .bool a10, .bool a11] : Array Value)[bN]? = some (.bool false) := by simpa using hg
      generalize (fnAt p bN).body.length = bl at *
      have hbp : bN < p.length := by omega
      generalize p.length = pl at *
      obtain ⟨wc, hwc⟩ : ∃ wc, wc = (w.alloc (Obj.cells #[.int .i64 5, .int .i64 ol, .int .i64 oA, .int .i64 bN, .int .i64 od, .slice oa na ocap] 77)).alloc (Obj.cells #[.bool a0, .bool a1, .bool a2, .bool a3, .bool a4, .bool a5, .bool a6, .bool a7, .bool a8, .bool a9, .bool a10, .bool a11] 150) := ⟨_, rfl⟩
      have hbc : Below w.heap.size w wc := by rw [hwc]; exact ((Below.refl _ _).alloc (Nat.le_refl _) _).alloc (by simp) _
      have k0 : wc.heap[w.heap.size]? = some (.cells #[.int .i64 5, .int .i64 ol, .int .i64 oA, .int .i64 bN, .int .i64 od, .slice oa na ocap] 77 (0, 0)) := by rw [hwc]; exact heap_at1 (by simp) (heap_new_at rfl)
      have s0 : wc.cell? ⟨wb, 0, none⟩ = _ := (hbc.cell (p := ⟨wb, 0, none⟩) lt0).trans h0
      have s1 : wc.cell? ⟨wb, 1, none⟩ = _ := (hbc.cell (p := ⟨wb, 1, none⟩) lt0).trans h1
      have s4 : wc.cell? ⟨pb, poff + bN * 5 + 4, none⟩ = _ := (hbc.cell (p := ⟨pb, poff + bN * 5 + 4, none⟩) lt1).trans c4
      have s3 : wc.cell? ⟨w.heap.size, 3, none⟩ = some (.int .i64 bN) := by simp [World.cell?, k0]
      clear hin ha ha' hg hp hrb hfs h0 h1 c4
      go_enter Tryd.func104, Tryd.ntmps104
      go_wp2
      rw [← hwc]
      clear hwc k0
      go_region
      go_wp2
      exact bodyPost_ret (v := .bool (decide ((bl : Int) ≤ bud))) (by simp [results, Tryd.results104, go_sem]) rfl ⟨rfl, hbc.drew⟩
  · have hc' : (oc != 5) = true := by simpa using hc
    have hin : inlB p bud ar ⟨oc, ol, oA, ob, od, oargs⟩ = false := by unfold inlB; simp [hc]
    rw [hin]
    unfold arCells
    clear hin hok
    go_enter Tryd.func104, Tryd.ntmps104
    go_wp2
    exact bodyPost_ret (v := .bool false) (by simp [results, Tryd.results104, go_sem]) rfl ⟨rfl, ((Below.refl _ _).alloc (Nat.le_refl _) _).alloc (by simp) _⟩
end Go.Proofs.YtebjndcokkefhaaDoor
