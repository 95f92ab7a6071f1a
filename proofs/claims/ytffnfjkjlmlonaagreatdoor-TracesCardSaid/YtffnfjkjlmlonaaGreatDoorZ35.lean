/- Contract of the developers' (*run.Run).ret where there is a caller. Contract of the developers' (*run.Run).step at a Jump. -/
import Derived.Test.YtffnfjkjlmlonaaGreatDoorZ34
namespace Go.Proofs.YtffnfjkjlmlonaaGreatDoor
open Go.RowKit

/-- Some cells stored one behind the other. -/
def storeAll (w : World) (g : Nat) : Nat → List Value → World
  | _, [] => w
  | off, v :: r => storeAll (w.setCell ⟨g, off, none⟩ v) g (off + 1) r

theorem stored_run {base g n cap size : Nat} {e : TypeId} : ∀ (cs : List Value) (w : World) (xs : List Value) (off : Nat), w.ownsRow base e size (.slice (some ⟨g, 0, none⟩) n cap) n xs → off + cs.length ≤ xs.length →
    (storeAll w g off cs).ownsRow base e size (.slice (some ⟨g, 0, none⟩) n cap) n (xs.take off ++ (cs ++ xs.drop (off + cs.length)))
  | [], w, xs, off, h, hl => by simpa [storeAll] using h
  | v :: r, w, xs, off, h, hl => by
    have h1 := (h.stored off v).1
    have hl' : off < xs.length := by simp at hl; omega
    have h2 := stored_run r _ (xs.set off v) (off + 1) h1 (by simp at hl ⊢; omega)
    have e1 : (xs.set off v).take (off + 1) = xs.take off ++ [v] := by
      rw [List.take_succ_eq_append_getElem (by simpa using hl'), List.take_set_of_le (Nat.le_refl _)]
      simp
    have e2 : (xs.set off v).drop (off + 1 + r.length) = xs.drop (off + (v :: r).length) := by
      rw [List.drop_set_of_lt (by omega)]
      congr 1
      simp; omega
    rw [e1, e2] at h2
    show (storeAll (w.setCell ⟨g, off, none⟩ v) g (off + 1) r).ownsRow _ _ _ _ _ _
    simpa [List.append_assoc] using h2

/-- Every block but g is as it was. -/
def ButG (g : Nat) (w W : World) : Prop := w.heap.size ≤ W.heap.size ∧ ∀ b, b < w.heap.size → b ≠ g → W.heap[b]? = w.heap[b]?
theorem ButG.refl (g : Nat) (w : World) : ButG g w w := ⟨Nat.le_refl _, fun _ _ _ => rfl⟩
theorem ButG.drew {g : Nat} {w W : World} (h : ButG g w W) : ButG g w W.drew := h
theorem ButG.below {g : Nat} {w W W' : World} (h : ButG g w W) (hb : Below W.heap.size W W') : ButG g w W' :=
  ⟨Nat.le_trans h.1 hb.size, fun b hlt hne => (hb.block b (Nat.lt_of_lt_of_le hlt h.1)).trans (h.2 b hlt hne)⟩
theorem ButG.setCell {g : Nat} {w W : World} (h : ButG g w W) (j : Nat) (u : Value) : ButG g w (W.setCell ⟨g, j, none⟩ u) :=
  ⟨by rw [World.size_setCell]; exact h.1, fun b hlt hne => (heap_setCell_other W ⟨g, j, none⟩ b u hne).trans (h.2 b hlt hne)⟩
theorem ButG.cell {g : Nat} {w W : World} (h : ButG g w W) {q : Addr} {u : Value} (hq : q.block ≠ g) (hc : w.cell? q = some u) : W.cell? q = some u := by
  have hlt := World.block_lt_of_cell? w _ hc
  have := h.2 q.block hlt hq
  unfold World.cell? at hc ⊢
  rw [this]; exact hc

theorem rows_last (ini : List LiveD) (c : LiveD) (h : ∀ y ∈ ini, y.locals.length ≤ 8) : ((ini ++ [c]).map frmCells).flatten = (ini.map frmCells).flatten ++ frmCells c ∧ (ini.map frmCells).flatten.length = ini.length * 10 := by
  refine ⟨by simp, ?_⟩
  rw [flatten_len 10 _ (fun e he => ?_), List.length_map]
  obtain ⟨y, hy, rfl⟩ := List.mem_map.1 he
  simp [frmCells, pad8_len (h y hy)]

theorem storeAll_other {g : Nat} : ∀ (cs : List Value) (w : World) (off b : Nat), b ≠ g → (storeAll w g off cs).heap[b]? = w.heap[b]?
  | [], _, _, _, _ => rfl
  | v :: r, w, off, b, h => (storeAll_other r _ _ b h).trans (heap_setCell_other w ⟨g, off, none⟩ b v h)
theorem storeAll_below {base g : Nat} {w0 : World} (hg : base ≤ g) : ∀ (cs : List Value) (w : World) (off : Nat), Below base w0 w → Below base w0 (storeAll w g off cs)
  | [], _, _, h => h
  | v :: r, _, off, h => storeAll_below hg r _ _ (h.setCell (p := ⟨g, off, none⟩) hg v)

/-- The run behind the store of a whole frame into its last row. -/
theorem runAt_stored {X : RX} {w0 w : World} {P : List FnD} {rb g m vcap pcap : Nat} {pa : Option Addr} {st vl : Int} {ini : List LiveD} {c c' : LiveD}
    (hk : w.heap[rb]? = some (.cells (Value.slice pa P.length pcap :: .slice (some ⟨g, 0, none⟩) (m + 1) vcap :: .int .i64 st :: .int .i64 vl :: X.ex).toArray X.T (0, 0))) (hp : RdP w0 pa P.length pcap P) (hb : Below w0.heap.size w0 w) (hrb : w0.heap.size ≤ rb) (hg : w0.heap.size ≤ g) (hne : rb ≠ g)
    (hown : w.ownsRow w0.heap.size 248 10 (.slice (some ⟨g, 0, none⟩) (m + 1) vcap) (m + 1) ((ini ++ [c]).map frmCells).flatten) (h8 : ∀ y ∈ ini, y.locals.length ≤ 8) (hm : m = ini.length) (hc : c.locals.length ≤ 8) (hc' : c'.locals.length ≤ 8) (hkx : KeptX X rb w (.slice (some ⟨g, 0, none⟩) (m + 1) vcap)) {cs : List Value} (hcs : frmCells c' = cs) :
    RunAt X w0 P rb (storeAll w g (m * 10) cs) ⟨st, vl, ini ++ [c']⟩ := by
  subst hcs
  obtain ⟨h1, h2⟩ := rows_last ini c h8
  obtain ⟨h3, -⟩ := rows_last ini c' h8
  rw [← hm] at h2
  have hl : (frmCells c).length = 10 := by simp [frmCells, pad8_len hc]
  have hl' : (frmCells c').length = 10 := by simp [frmCells, pad8_len hc']
  rw [h1] at hown
  have hst := stored_run (frmCells c') w _ (m * 10) hown (by rw [List.length_append, h2, hl, hl']; exact Nat.le_refl _)
  rw [List.take_left' h2, hl', List.drop_of_length_le (by rw [List.length_append, h2, hl]; exact Nat.le_refl _), List.append_nil, ← h3] at hst
  refine ⟨pa, pcap, .slice (some ⟨g, 0, none⟩) (m + 1) vcap, (storeAll_other _ _ _ _ hne).trans hk, hp, storeAll_below hg _ _ _ hb, hrb, ?_, by simp [Value.ownBlock]; exact fun e => hne e.symm, fun b o h => ⟨(storeAll_other _ _ _ _ (fun e => (hkx b o h).2.2 (by simp [Value.ownBlock, e]))).trans (hkx b o h).1, (hkx b o h).2⟩⟩
  have hln : (ini ++ [c']).length = m + 1 := by simp [hm]
  show World.ownsRow _ _ _ _ _ (ini ++ [c']).length ((ini ++ [c']).map frmCells).flatten
  rw [hln]
  exact hst

set_option maxHeartbeats 4000000 in
set_option maxRecDepth 100000 in
theorem ret_back (X : RX) (w0 : World) (P : List FnD) (rb : Nat) (st vl : Int) (ini : List LiveD) (c x : LiveD) (v : Int) (w : World) (hgd : Good P) (hR : RunAt X w0 P rb w ⟨st, vl, ini ++ [c] ++ [x]⟩) (hc : WfLive P c) (h8 : ∀ y ∈ ini, y.locals.length ≤ 8) (hlen : ini.length ≤ 100) :
    Calls Tryz.prog 220 #[.pointer (some ⟨rb, 0, none⟩), .int .i64 v] w fun e w' => e = .returned (.tuple #[]) ∧ RunAt X w0 P rb w' ⟨st, vl, ini ++ [setL c (opOf P c).a v (c.next + 1)]⟩ := by
  obtain ⟨pa, pcap, fv, hk, hp, hb, hrb, hown, hvr, hkx⟩ := hR
  replace hkx := hid hkx
  obtain ⟨m, hm⟩ : ∃ m, m = ini.length := ⟨_, rfl⟩
  have hll : (ini ++ [c] ++ [x]).length = m + 2 := by simp [hm]
  dsimp only at hown hk
  rw [hll] at hown
  obtain ⟨g, vcap, rfl, hgb, hvc, hvm⟩ : ∃ g vcap, fv = .slice (some ⟨g, 0, none⟩) (m + 2) vcap ∧ w0.heap.size ≤ g ∧ m + 2 ≤ vcap ∧ vcap ≤ maxLen := by
    rcases hown.2 with ⟨h1, h2⟩ | ⟨g, c', cur, h1, h2, _, h3, h4, _⟩
    · omega
    · exact ⟨g, c', h1, h2, h3, h4⟩
  have hgr : g ≠ rb := fun e => hvr (by simp [Value.ownBlock, e])
  have hgr' : rb ≠ g := fun e => hgr e.symm
  have hcl := hc.locals
  have hcf := (hc.fnOk hgd).locals
  have hcn := hc.next
  have hcb := (hc.fnOk hgd).body
  have hca := (hc.opOk hgd).a
  have hc8 : c.locals.length ≤ 8 := by omega
  have h8c : ∀ y ∈ ini ++ [c], y.locals.length ≤ 8 := fun y hy => by
    rcases List.mem_append.1 hy with h | h
    · exact h8 y h
    · rw [List.mem_singleton.1 h]; exact hc8
  obtain ⟨hr1, hr2⟩ := rows_last ini c h8
  rw [← hm] at hr2
  obtain ⟨hx1, hx2⟩ := rows_last (ini ++ [c]) x h8c
  have hpop : w.ownsRow w0.heap.size 248 10 (.slice (some ⟨g, 0, none⟩) (m + 1) vcap) (m + 1) ((ini ++ [c]).map frmCells).flatten :=
    ownsRow_pop (ys := frmCells x) (by rw [← hx1]; exact hown) (by rw [hx2]; simp [hm])
  obtain ⟨W1, hW1⟩ : ∃ W1, W1 = w.setCell ⟨rb, 1, none⟩ (.slice (some ⟨g, 0, none⟩) (m + 1) vcap) := ⟨_, rfl⟩
  have hown1 : W1.ownsRow w0.heap.size 248 10 (.slice (some ⟨g, 0, none⟩) (m + 1) vcap) (m + 1) ((ini ++ [c]).map frmCells).flatten := by
    rw [hW1]; exact ownsRow_setCell_other hpop (by simp [Value.ownBlock]; exact hgr) _
  have k1 : W1.heap[rb]? = some (.cells (Value.slice pa P.length pcap :: .slice (some ⟨g, 0, none⟩) (m + 1) vcap :: .int .i64 st :: .int .i64 vl :: X.ex).toArray X.T (0, 0)) := by
    rw [hW1, heap_setCell_same w rb 1 _ _ _ hk]; rfl
  have hb1 : Below w0.heap.size w0 W1 := by rw [hW1]; exact hb.setCell (p := ⟨rb, 1, none⟩) hrb _
  have hs1 : W1.heap.size = w.heap.size := by rw [hW1]; simp
  have HKX1 : Hid (KeptX X rb W1 (.slice (some ⟨g, 0, none⟩) (m + 1) vcap)) := by rw [hW1]; exact (hkx.out.like (fun b e => by simpa [Value.ownBlock] using e)).set _ _
  have hcell : ∀ i u, (frmCells c)[i]? = some u → w.cell? ⟨g, m * 10 + i, none⟩ = some u := fun i u hu => by
    have hi : i < 10 := by
      have := (List.getElem?_eq_some_iff.1 hu).1
      simp [frmCells, pad8_len hc8] at this; omega
    rw [hpop.cellAt (m * 10 + i) (by omega), hr1, List.getElem?_append_right (by omega), hr2, Nat.add_sub_cancel_left]; exact hu
  obtain ⟨l0, l1, l2, l3, l4, l5, l6, l7, hpad⟩ := frm_array c hc8
  obtain ⟨x0, hx0⟩ : ∃ v, v = c.fn := ⟨_, rfl⟩
  obtain ⟨x1, hx1'⟩ : ∃ v, v = c.next := ⟨_, rfl⟩
  have hfc : frmCells c = [.int .i64 x0, .int .i64 x1, .int .i64 l0, .int .i64 l1, .int .i64 l2, .int .i64 l3, .int .i64 l4, .int .i64 l5, .int .i64 l6, .int .i64 l7] := by unfold frmCells; rw [hpad, hx0, hx1']; rfl
  rw [hfc] at hcell
  have t0 : w.cell? ⟨g, m * 10, none⟩ = some (.int .i64 x0) := hcell 0 _ rfl
  have t1 : w.cell? ⟨g, m * 10 + 1, none⟩ = some (.int .i64 x1) := hcell 1 _ rfl
  have t2 : w.cell? ⟨g, m * 10 + 2, none⟩ = some (.int .i64 l0) := hcell 2 _ rfl
  have t3 : w.cell? ⟨g, m * 10 + 3, none⟩ = some (.int .i64 l1) := hcell 3 _ rfl
  have t4 : w.cell? ⟨g, m * 10 + 4, none⟩ = some (.int .i64 l2) := hcell 4 _ rfl
  have t5 : w.cell? ⟨g, m * 10 + 5, none⟩ = some (.int .i64 l3) := hcell 5 _ rfl
  have t6 : w.cell? ⟨g, m * 10 + 6, none⟩ = some (.int .i64 l4) := hcell 6 _ rfl
  have t7 : w.cell? ⟨g, m * 10 + 7, none⟩ = some (.int .i64 l5) := hcell 7 _ rfl
  have t8 : w.cell? ⟨g, m * 10 + 8, none⟩ = some (.int .i64 l6) := hcell 8 _ rfl
  have t9 : w.cell? ⟨g, m * 10 + 9, none⟩ = some (.int .i64 l7) := hcell 9 _ rfl
  have r1 : w.cell? ⟨rb, 1, none⟩ = some (.slice (some ⟨g, 0, none⟩) (m + 2) vcap) := by simp [World.cell?, hk]
  have f1 : w.frozen? ⟨rb, 1, none⟩ = false := by simp [World.frozen?, hk]
  have s1 : W1.cell? ⟨rb, 1, none⟩ = some (.slice (some ⟨g, 0, none⟩) (m + 1) vcap) := by simp [World.cell?, k1]
  unfold maxLen at hvm
  have HOP := hid (fun (W : World) (h : Below W1.heap.size W1 W) => op_any rb P pa pcap c W ((h.cell (World.block_lt_of_cell? W1 _ (show W1.cell? ⟨rb, 0, none⟩ = some (.slice pa P.length pcap) by simp [World.cell?, k1]))).trans (by simp [World.cell?, k1])) (hp.below (hb1.trans (h.mono hb1.size))) hc hc8)
  obtain ⟨n2, hn2⟩ : ∃ n, n = m + 2 := ⟨_, rfl⟩
  obtain ⟨n1, hn1⟩ : ∃ n, n = m + 1 := ⟨_, rfl⟩
  rw [← hn2] at r1 hvc
  rw [← hn1] at s1 hown1 k1 hW1
  have e1 : IntKind.i64.wrap ((n2 : Int) - 1) = (n1 : Int) := by rw [IntKind.wrap_i64]; omega
  have e2 : IntKind.i64.wrap ((n1 : Int) - 1) = (m : Int) := by rw [IntKind.wrap_i64]; omega
  have e3 : ((n1 : Int) == 0) = false := by simp; omega
  have hv1 : n1 ≤ vcap := by omega
  have hmn : m < n1 := by omega
  have HN := hid (⟨hn1, hn2, hm⟩ : n1 = m + 1 ∧ n2 = m + 2 ∧ m = ini.length)
  have HK1 := hid k1
  have HO1 := hid hown1
  have HB1 := hid hb1
  obtain ⟨o, ho⟩ : ∃ o, o = opOf P c := ⟨_, rfl⟩
  rw [← ho] at HOP hca ⊢
  rw [hfc] at HOP
  obtain ⟨oc, ol, oA, ob, od, oargs⟩ := o
  dsimp only at *
  obtain ⟨aN, rfl⟩ : ∃ aN : Nat, oA = (aN : Int) := ⟨oA.toNat, by omega⟩
  obtain ⟨na, hna⟩ : ∃ v, v = oargs.length := ⟨_, rfl⟩
  rw [← hna] at HOP
  have hset : setL c aN v (c.next + 1) = ⟨c.fn, c.next + 1, c.locals.set aN v⟩ := by unfold setL; simp
  rw [hset]
  have HGO := hid (fun (W : World) => goOn_any c aN v W hc8 (by omega) (by omega))
  obtain ⟨q0, q1, q2, q3, q4, q5, q6, q7, hq⟩ := frm_array ⟨c.fn, c.next + 1, c.locals.set aN v⟩ (by simpa using hc8)
  obtain ⟨nx, hnx⟩ : ∃ v, v = c.next + 1 := ⟨_, rfl⟩
  rw [← hnx] at HGO hq ⊢
  have hfc' : frmCells ⟨c.fn, nx, c.locals.set aN v⟩ = [.int .i64 x0, .int .i64 nx, .int .i64 q0, .int .i64 q1, .int .i64 q2, .int .i64 q3, .int .i64 q4, .int .i64 q5, .int .i64 q6, .int .i64 q7] := by unfold frmCells; dsimp only at hq ⊢; rw [hq, hx0]; rfl
  rw [hfc', hfc] at HGO
  have HFIN := hid (fun (W : World) (hW : Below W1.heap.size W1 W) => runAt_stored (c := c) (c' := ⟨c.fn, nx, c.locals.set aN v⟩) (w := W) (m := m) (ini := ini) (by rw [← hn1]; exact (hW.block rb (World.block_lt_of_cell? W1 _ s1)).trans HK1.out) hp (HB1.out.trans (hW.mono HB1.out.size)) hrb hgb hgr' (by rw [← hn1]; exact ownsRow_below HO1.out hW) h8 hm hc8 (by simpa using hc8) (HKX1.out.below hW) hfc')
  have hrlt : rb < W1.heap.size := World.block_lt_of_cell? W1 _ s1
  have hglt : g < w.heap.size := World.block_lt_of_cell? w _ t0
  have HG1 : Hid (∀ W, Below W1.heap.size W1 W → W.cell? ⟨g, m * 10, none⟩ = some (.int .i64 x0) ∧ W.cell? ⟨g, m * 10 + 1, none⟩ = some (.int .i64 x1) ∧ W.cell? ⟨g, m * 10 + 2, none⟩ = some (.int .i64 l0) ∧ W.cell? ⟨g, m * 10 + 3, none⟩ = some (.int .i64 l1) ∧ W.cell? ⟨g, m * 10 + 4, none⟩ = some (.int .i64 l2) ∧ W.cell? ⟨g, m * 10 + 5, none⟩ = some (.int .i64 l3) ∧ W.cell? ⟨g, m * 10 + 6, none⟩ = some (.int .i64 l4) ∧ W.cell? ⟨g, m * 10 + 7, none⟩ = some (.int .i64 l5) ∧ W.cell? ⟨g, m * 10 + 8, none⟩ = some (.int .i64 l6) ∧ W.cell? ⟨g, m * 10 + 9, none⟩ = some (.int .i64 l7) ∧ W.frozen? ⟨g, m * 10, none⟩ = false ∧ W.frozen? ⟨g, m * 10 + 1, none⟩ = false ∧ W.frozen? ⟨g, m * 10 + 2, none⟩ = false ∧ W.frozen? ⟨g, m * 10 + 3, none⟩ = false ∧ W.frozen? ⟨g, m * 10 + 4, none⟩ = false ∧ W.frozen? ⟨g, m * 10 + 5, none⟩ = false ∧ W.frozen? ⟨g, m * 10 + 6, none⟩ = false ∧ W.frozen? ⟨g, m * 10 + 7, none⟩ = false ∧ W.frozen? ⟨g, m * 10 + 8, none⟩ = false ∧ W.frozen? ⟨g, m * 10 + 9, none⟩ = false) := fun W hW => by
    have h := ownsRow_below HO1.out hW
    have hc : ∀ i u, (frmCells c)[i]? = some u → W.cell? ⟨g, m * 10 + i, none⟩ = some u := fun i u hu => by
      have hi : i < 10 := by
        have := (List.getElem?_eq_some_iff.1 hu).1
        simp [frmCells, pad8_len hc8] at this; omega
      rw [h.cellAt (m * 10 + i) (by omega), hr1, List.getElem?_append_right (by omega), hr2, Nat.add_sub_cancel_left]; exact hu
    rw [hfc] at hc
    exact ⟨hc 0 _ rfl, hc 1 _ rfl, hc 2 _ rfl, hc 3 _ rfl, hc 4 _ rfl, hc 5 _ rfl, hc 6 _ rfl, hc 7 _ rfl, hc 8 _ rfl, hc 9 _ rfl, h.frozenAt _, h.frozenAt _, h.frozenAt _, h.frozenAt _, h.frozenAt _, h.frozenAt _, h.frozenAt _, h.frozenAt _, h.frozenAt _, h.frozenAt _⟩
  obtain ⟨wa, hwa⟩ : ∃ wa, wa = W1.alloc (Obj.cells #[.int .i64 x0, .int .i64 x1, .int .i64 l0, .int .i64 l1, .int .i64 l2, .int .i64 l3, .int .i64 l4, .int .i64 l5, .int .i64 l6, .int .i64 l7] 248) := ⟨_, rfl⟩
  have hba : Below W1.heap.size W1 wa := by rw [hwa]; exact (Below.refl _ _).alloc (Nat.le_refl _) _
  have hsa : wa.heap.size = W1.heap.size + 1 := by rw [hwa]; simp
  have kf : wa.heap[w.heap.size]? = some (.cells #[.int .i64 x0, .int .i64 x1, .int .i64 l0, .int .i64 l1, .int .i64 l2, .int .i64 l3, .int .i64 l4, .int .i64 l5, .int .i64 l6, .int .i64 l7] 248 (0, 0)) := by rw [hwa]; exact heap_new_at hs1
  clear HKX1 hkx hn1 hn2 hm k1 hown1 hb1 hfc hfc' hpad hq hcell hr1 hr2 hx1 hx2 hpop hown hk hvr hll hc h8c hnx hna ho hset hx0 hx1' HN HO1 HB1
  go_enter Tryz.func220, Tryz.ntmps220
  go_wp2_with fail
  rw [← hW1, ← hwa]
  clear hwa hW1 t0 t1 t2 t3 t4 t5 t6 t7 t8 t9 r1 s1 f1
  refine (HOP.out _ hba).mono ?_
  rintro e w2 ⟨oa, ocap, rfl, hro, hb2⟩
  have hw2 := hba.trans (hb2.mono hba.size)
  have hs2 := hb2.size
  have ltf2 : w.heap.size < w2.heap.size := by omega
  have kf2 := (hb2.block w.heap.size (by omega)).trans kf
  have kr2 : w2.heap[rb]? = _ := (hw2.block rb (by omega)).trans HK1.out
  obtain ⟨wb, hwb⟩ : ∃ wb, wb = w2.alloc (Obj.cells #[.int .i64 oc, .int .i64 ol, .int .i64 aN, .int .i64 ob, .int .i64 od, .slice oa na ocap] 183) := ⟨_, rfl⟩
  have hb2b : Below w2.heap.size w2 wb := by rw [hwb]; exact (Below.refl _ _).alloc (Nat.le_refl _) _
  have hsb : wb.heap.size = w2.heap.size + 1 := by rw [hwb]; simp
  have kfb := (hb2b.block w.heap.size (by omega)).trans kf2
  have krb := (hb2b.block rb (by omega)).trans kr2
  have kob : wb.heap[w2.heap.size]? = some (.cells #[.int .i64 oc, .int .i64 ol, .int .i64 aN, .int .i64 ob, .int .i64 od, .slice oa na ocap] 183 (0, 0)) := by rw [hwb]; exact heap_new_at rfl
  go_wp2
  rw [← hwb]
  have y0 : wb.cell? ⟨rb, 1, none⟩ = some (.slice (some ⟨g, 0, none⟩) n1 vcap) := by simp [World.cell?, krb]
  have hgf : w.heap.size ≠ g := by omega
  have hgo : w2.heap.size ≠ g := by omega
  have KS : Hid (∀ W, ButG g wb W → ButG g wb W ∧ W.cell? ⟨rb, 1, none⟩ = some (.slice (some ⟨g, 0, none⟩) n1 vcap) ∧ W.cell? ⟨w.heap.size, 0, none⟩ = some (.int .i64 x0) ∧ W.cell? ⟨w.heap.size, 1, none⟩ = some (.int .i64 x1) ∧ W.cell? ⟨w.heap.size, 2, none⟩ = some (.int .i64 l0) ∧ W.cell? ⟨w.heap.size, 3, none⟩ = some (.int .i64 l1) ∧ W.cell? ⟨w.heap.size, 4, none⟩ = some (.int .i64 l2) ∧ W.cell? ⟨w.heap.size, 5, none⟩ = some (.int .i64 l3) ∧ W.cell? ⟨w.heap.size, 6, none⟩ = some (.int .i64 l4) ∧ W.cell? ⟨w.heap.size, 7, none⟩ = some (.int .i64 l5) ∧ W.cell? ⟨w.heap.size, 8, none⟩ = some (.int .i64 l6) ∧ W.cell? ⟨w.heap.size, 9, none⟩ = some (.int .i64 l7) ∧ W.cell? ⟨w2.heap.size, 2, none⟩ = some (.int .i64 aN)) := fun W h => ⟨h, h.cell hgr' y0, h.cell hgf (by simp [World.cell?, kfb]), h.cell hgf (by simp [World.cell?, kfb]), h.cell hgf (by simp [World.cell?, kfb]), h.cell hgf (by simp [World.cell?, kfb]), h.cell hgf (by simp [World.cell?, kfb]), h.cell hgf (by simp [World.cell?, kfb]), h.cell hgf (by simp [World.cell?, kfb]), h.cell hgf (by simp [World.cell?, kfb]), h.cell hgf (by simp [World.cell?, kfb]), h.cell hgf (by simp [World.cell?, kfb]), h.cell hgo (by simp [World.cell?, kob])⟩
  have hbw : Below W1.heap.size W1 wb := hw2.trans (hb2b.mono hw2.size)
  have HGB : Hid (∀ W, Below wb.drew.heap.size wb.drew W → W.cell? ⟨g, m * 10, none⟩ = some (.int .i64 x0) ∧ W.cell? ⟨g, m * 10 + 1, none⟩ = some (.int .i64 x1) ∧ W.cell? ⟨g, m * 10 + 2, none⟩ = some (.int .i64 l0) ∧ W.cell? ⟨g, m * 10 + 3, none⟩ = some (.int .i64 l1) ∧ W.cell? ⟨g, m * 10 + 4, none⟩ = some (.int .i64 l2) ∧ W.cell? ⟨g, m * 10 + 5, none⟩ = some (.int .i64 l3) ∧ W.cell? ⟨g, m * 10 + 6, none⟩ = some (.int .i64 l4) ∧ W.cell? ⟨g, m * 10 + 7, none⟩ = some (.int .i64 l5) ∧ W.cell? ⟨g, m * 10 + 8, none⟩ = some (.int .i64 l6) ∧ W.cell? ⟨g, m * 10 + 9, none⟩ = some (.int .i64 l7) ∧ W.frozen? ⟨g, m * 10, none⟩ = false ∧ W.frozen? ⟨g, m * 10 + 1, none⟩ = false ∧ W.frozen? ⟨g, m * 10 + 2, none⟩ = false ∧ W.frozen? ⟨g, m * 10 + 3, none⟩ = false ∧ W.frozen? ⟨g, m * 10 + 4, none⟩ = false ∧ W.frozen? ⟨g, m * 10 + 5, none⟩ = false ∧ W.frozen? ⟨g, m * 10 + 6, none⟩ = false ∧ W.frozen? ⟨g, m * 10 + 7, none⟩ = false ∧ W.frozen? ⟨g, m * 10 + 8, none⟩ = false ∧ W.frozen? ⟨g, m * 10 + 9, none⟩ = false) := fun W hW => HG1.out W (hbw.trans ((Below.refl _ _).drew.trans hW |>.mono hbw.size))
  have HFB : Hid (∀ W, Below wb.drew.heap.size wb.drew W → _) := fun W hW => HFIN.out W (hbw.trans ((Below.refl _ _).drew.trans hW |>.mono hbw.size))
  clear hwb y0 krb kfb kob kf2 kr2 kf hro HG1 HFIN HOP HK1 hbw hb2b hw2 hb2 hba
  go_region_held (fun W => ButG g wb W ∧ W.cell? ⟨rb, 1, none⟩ = some (.slice (some ⟨g, 0, none⟩) n1 vcap) ∧ W.cell? ⟨w.heap.size, 0, none⟩ = some (.int .i64 x0) ∧ W.cell? ⟨w.heap.size, 1, none⟩ = some (.int .i64 x1) ∧ W.cell? ⟨w.heap.size, 2, none⟩ = some (.int .i64 l0) ∧ W.cell? ⟨w.heap.size, 3, none⟩ = some (.int .i64 l1) ∧ W.cell? ⟨w.heap.size, 4, none⟩ = some (.int .i64 l2) ∧ W.cell? ⟨w.heap.size, 5, none⟩ = some (.int .i64 l3) ∧ W.cell? ⟨w.heap.size, 6, none⟩ = some (.int .i64 l4) ∧ W.cell? ⟨w.heap.size, 7, none⟩ = some (.int .i64 l5) ∧ W.cell? ⟨w.heap.size, 8, none⟩ = some (.int .i64 l6) ∧ W.cell? ⟨w.heap.size, 9, none⟩ = some (.int .i64 l7) ∧ W.cell? ⟨w2.heap.size, 2, none⟩ = some (.int .i64 aN))
    ((refine KS.out _ ?_; first | with_reducible exact (ButG.refl _ _).drew | with_reducible exact (ButG.refl _ _).drew.below hb4 | with_reducible exact ((((((((((((ButG.refl _ _).drew.below hb4).setCell _ _).setCell _ _).setCell _ _).setCell _ _).setCell _ _).setCell _ _).setCell _ _).setCell _ _).setCell _ _).setCell _ _)))
    ((go_at_call 222; refine (HGO.out _).mono ?_; rintro e w4 ⟨rfl, hb4⟩; obtain ⟨g0, g1, g2, g3, g4, g5, g6, g7, g8, g9, z0, z1, z2, z3, z4, z5, z6, z7, z8, z9⟩ := HGB.out _ hb4))
  go_end0
  exact ⟨rfl, HFB.out _ hb4⟩
end Go.Proofs.YtffnfjkjlmlonaaGreatDoor
namespace Go.Proofs.YtffnfjkjlmlonaaGreatDoor
open Go.RowKit

set_option maxHeartbeats 4000000 in
set_option maxRecDepth 100000 in
theorem step_jump (X : RX) (w0 : World) (P : List FnD) (rb : Nat) (ini : List LiveD) (x : LiveD) (w : World) (hgd : Good P) (hR : RunAt X w0 P rb w ⟨0, 0, ini ++ [x]⟩) (hx : WfLive P x) (h8 : ∀ y ∈ ini, y.locals.length ≤ 8) (hlen : ini.length ≤ 100) (hcode : (opOf P x).code = 4) :
    Calls Tryz.prog 195 #[.pointer (some ⟨rb, 0, none⟩)] w fun e w' => e = .returned (.tuple #[]) ∧ RunAt X w0 P rb w' ⟨0, 0, ini ++ [⟨x.fn, if locOf x (opOf P x).a = 0 then x.next + 1 else (opOf P x).b, x.locals⟩]⟩ := by
  obtain ⟨pa, pcap, fv, hk, hp, hb, hrb, hown, hvr, hkx⟩ := hR
  replace hkx := hid hkx
  obtain ⟨m, hm⟩ : ∃ m, m = ini.length := ⟨_, rfl⟩
  have hll : (ini ++ [x]).length = m + 1 := by simp [hm]
  dsimp only at hown hk
  rw [hll] at hown
  obtain ⟨g, vcap, rfl, hgb, hvc, hvm⟩ : ∃ g vcap, fv = .slice (some ⟨g, 0, none⟩) (m + 1) vcap ∧ w0.heap.size ≤ g ∧ m + 1 ≤ vcap ∧ vcap ≤ maxLen := by
    rcases hown.2 with ⟨h1, h2⟩ | ⟨g, c', cur, h1, h2, _, h3, h4, _⟩
    · omega
    · exact ⟨g, c', h1, h2, h3, h4⟩
  have hgr : rb ≠ g := fun e => hvr (by simp [Value.ownBlock, e])
  have hxl := hx.locals
  have hxf := (hx.fnOk hgd).locals
  have hxn := hx.next
  have hxb := (hx.fnOk hgd).body
  have hxa := (hx.opOk hgd).a
  have hx8 : x.locals.length ≤ 8 := by omega
  obtain ⟨hr1, hr2⟩ := rows_last ini x h8
  rw [← hm] at hr2
  have hcell : ∀ i u, (frmCells x)[i]? = some u → w.cell? ⟨g, m * 10 + i, none⟩ = some u := fun i u hu => by
    have hi : i < 10 := by
      have := (List.getElem?_eq_some_iff.1 hu).1
      simp [frmCells, pad8_len hx8] at this; omega
    rw [hown.cellAt (m * 10 + i) (by omega), hr1, List.getElem?_append_right (by omega), hr2, Nat.add_sub_cancel_left]; exact hu
  obtain ⟨l0, l1, l2, l3, l4, l5, l6, l7, hpad⟩ := frm_array x hx8
  obtain ⟨x0, hx0⟩ : ∃ v, v = x.fn := ⟨_, rfl⟩
  obtain ⟨x1, hx1⟩ : ∃ v, v = x.next := ⟨_, rfl⟩
  have hfc : frmCells x = [.int .i64 x0, .int .i64 x1, .int .i64 l0, .int .i64 l1, .int .i64 l2, .int .i64 l3, .int .i64 l4, .int .i64 l5, .int .i64 l6, .int .i64 l7] := by unfold frmCells; rw [hpad, hx0, hx1]; rfl
  rw [hfc] at hcell
  have t0 : w.cell? ⟨g, m * 10, none⟩ = some (.int .i64 x0) := hcell 0 _ rfl
  have t1 : w.cell? ⟨g, m * 10 + 1, none⟩ = some (.int .i64 x1) := hcell 1 _ rfl
  have t2 : w.cell? ⟨g, m * 10 + 2, none⟩ = some (.int .i64 l0) := hcell 2 _ rfl
  have t3 : w.cell? ⟨g, m * 10 + 3, none⟩ = some (.int .i64 l1) := hcell 3 _ rfl
  have t4 : w.cell? ⟨g, m * 10 + 4, none⟩ = some (.int .i64 l2) := hcell 4 _ rfl
  have t5 : w.cell? ⟨g, m * 10 + 5, none⟩ = some (.int .i64 l3) := hcell 5 _ rfl
  have t6 : w.cell? ⟨g, m * 10 + 6, none⟩ = some (.int .i64 l4) := hcell 6 _ rfl
  have t7 : w.cell? ⟨g, m * 10 + 7, none⟩ = some (.int .i64 l5) := hcell 7 _ rfl
  have t8 : w.cell? ⟨g, m * 10 + 8, none⟩ = some (.int .i64 l6) := hcell 8 _ rfl
  have t9 : w.cell? ⟨g, m * 10 + 9, none⟩ = some (.int .i64 l7) := hcell 9 _ rfl
  have hfz : ∀ j, w.frozen? ⟨g, j, none⟩ = false := fun j => hown.frozenAt j
  have r1 : w.cell? ⟨rb, 1, none⟩ = some (.slice (some ⟨g, 0, none⟩) (m + 1) vcap) := by simp [World.cell?, hk]
  have ltg : g < w.heap.size := World.block_lt_of_cell? w _ t0
  have ltr : rb < w.heap.size := World.block_lt_of_cell? w _ r1
  unfold maxLen at hvm
  have HOP := hid (fun (W : World) (h : Below w.heap.size w W) => op_any rb P pa pcap x W ((h.cell (p := ⟨rb, 0, none⟩) ltr).trans (by simp [World.cell?, hk])) (hp.below (hb.trans (h.mono hb.size))) hx hx8)
  obtain ⟨o, ho⟩ : ∃ o, o = opOf P x := ⟨_, rfl⟩
  rw [← ho] at HOP hxa
  rw [hfc] at HOP
  obtain ⟨n1, hn1⟩ : ∃ n, n = m + 1 := ⟨_, rfl⟩
  rw [← hn1] at r1 hvc
  have e2 : IntKind.i64.wrap ((n1 : Int) - 1) = (m : Int) := by rw [IntKind.wrap_i64]; omega
  have hmn : m < n1 := by omega
  rw [← ho] at hcode ⊢
  obtain ⟨oc, ol, oA, ob, od, oargs⟩ := o
  dsimp only at *
  subst hcode
  obtain ⟨aN, rfl⟩ : ∃ aN : Nat, oA = (aN : Int) := ⟨oA.toNat, by omega⟩
  obtain ⟨nx, hnx⟩ : ∃ v, v = (if locOf x aN = 0 then x.next + 1 else ob) := ⟨_, rfl⟩
  obtain ⟨na, hna⟩ : ∃ v, v = oargs.length := ⟨_, rfl⟩
  have HJ := hid (fun (W : World) (oa : Option Addr) (ocap : Nat) => jump_any x aN 4 ol ob od (.slice oa na ocap) W hx8 (by omega) (by omega) oa na ocap rfl)
  have hfc' : frmCells ⟨x.fn, nx, x.locals⟩ = [.int .i64 x0, .int .i64 nx, .int .i64 l0, .int .i64 l1, .int .i64 l2, .int .i64 l3, .int .i64 l4, .int .i64 l5, .int .i64 l6, .int .i64 l7] := by unfold frmCells; dsimp only; rw [hpad, hx0]; rfl
  rw [← hnx] at HJ ⊢
  rw [hfc', hfc] at HJ
  rw [← hna] at HOP
  have HFIN := hid (fun (W : World) (hW : Below w.heap.size w W) => runAt_stored (c := x) (c' := ⟨x.fn, nx, x.locals⟩) (w := W) (m := m) (ini := ini) ((hW.block rb ltr).trans hk) hp (hb.trans (hW.mono hb.size)) hrb hgb hgr (ownsRow_below hown hW) h8 hm hx8 hx8 (hkx.out.below hW) hfc')
  have HG1 : Hid (∀ W, Below w.heap.size w W → W.cell? ⟨g, m * 10, none⟩ = some (.int .i64 x0) ∧ W.cell? ⟨g, m * 10 + 1, none⟩ = some (.int .i64 x1) ∧ W.cell? ⟨g, m * 10 + 2, none⟩ = some (.int .i64 l0) ∧ W.cell? ⟨g, m * 10 + 3, none⟩ = some (.int .i64 l1) ∧ W.cell? ⟨g, m * 10 + 4, none⟩ = some (.int .i64 l2) ∧ W.cell? ⟨g, m * 10 + 5, none⟩ = some (.int .i64 l3) ∧ W.cell? ⟨g, m * 10 + 6, none⟩ = some (.int .i64 l4) ∧ W.cell? ⟨g, m * 10 + 7, none⟩ = some (.int .i64 l5) ∧ W.cell? ⟨g, m * 10 + 8, none⟩ = some (.int .i64 l6) ∧ W.cell? ⟨g, m * 10 + 9, none⟩ = some (.int .i64 l7) ∧ W.frozen? ⟨g, m * 10, none⟩ = false ∧ W.frozen? ⟨g, m * 10 + 1, none⟩ = false ∧ W.frozen? ⟨g, m * 10 + 2, none⟩ = false ∧ W.frozen? ⟨g, m * 10 + 3, none⟩ = false ∧ W.frozen? ⟨g, m * 10 + 4, none⟩ = false ∧ W.frozen? ⟨g, m * 10 + 5, none⟩ = false ∧ W.frozen? ⟨g, m * 10 + 6, none⟩ = false ∧ W.frozen? ⟨g, m * 10 + 7, none⟩ = false ∧ W.frozen? ⟨g, m * 10 + 8, none⟩ = false ∧ W.frozen? ⟨g, m * 10 + 9, none⟩ = false) := fun W hW => by
    have h := ownsRow_below hown hW
    have hc : ∀ i u, (frmCells x)[i]? = some u → W.cell? ⟨g, m * 10 + i, none⟩ = some u := fun i u hu => by
      have hi : i < 10 := by
        have := (List.getElem?_eq_some_iff.1 hu).1
        simp [frmCells, pad8_len hx8] at this; omega
      rw [h.cellAt (m * 10 + i) (by omega), hr1, List.getElem?_append_right (by omega), hr2, Nat.add_sub_cancel_left]; exact hu
    rw [hfc] at hc
    exact ⟨hc 0 _ rfl, hc 1 _ rfl, hc 2 _ rfl, hc 3 _ rfl, hc 4 _ rfl, hc 5 _ rfl, hc 6 _ rfl, hc 7 _ rfl, hc 8 _ rfl, hc 9 _ rfl, h.frozenAt _, h.frozenAt _, h.frozenAt _, h.frozenAt _, h.frozenAt _, h.frozenAt _, h.frozenAt _, h.frozenAt _, h.frozenAt _, h.frozenAt _⟩
  clear hp hown hvr hm hll hr1 hr2 hcell hfc hfc' hpad hnx hna ho hx hfz hx0 hx1
  obtain ⟨wa, hwa⟩ : ∃ wa, wa = w.alloc (Obj.cells #[.int .i64 x0, .int .i64 x1, .int .i64 l0, .int .i64 l1, .int .i64 l2, .int .i64 l3, .int .i64 l4, .int .i64 l5, .int .i64 l6, .int .i64 l7] 248) := ⟨_, rfl⟩
  have hba : Below w.heap.size w wa := by rw [hwa]; exact (Below.refl _ _).alloc (Nat.le_refl _) _
  have hsa : wa.heap.size = w.heap.size + 1 := by rw [hwa]; simp
  have kf : wa.heap[w.heap.size]? = some (.cells #[.int .i64 x0, .int .i64 x1, .int .i64 l0, .int .i64 l1, .int .i64 l2, .int .i64 l3, .int .i64 l4, .int .i64 l5, .int .i64 l6, .int .i64 l7] 248 (0, 0)) := by rw [hwa]; exact heap_new_at rfl
  go_enter Tryz.func195, Tryz.ntmps195
  go_wp2_with fail
  rw [← hwa]
  clear hwa t0 t1 t2 t3 t4 t5 t6 t7 t8 t9 r1
  refine (HOP.out _ hba).mono ?_
  rintro e w2 ⟨oa, ocap, rfl, hro, hb2⟩
  have hw2 := hba.trans (hb2.mono hba.size)
  have hs2 := hb2.size
  have kf2 := (hb2.block w.heap.size (by omega)).trans kf
  have ltf2 : w.heap.size < w2.heap.size := by omega
  have ltg2 : g < w2.heap.size := by omega
  have ltr2 : rb < w2.heap.size := by omega
  have kr2 := (hw2.block rb ltr).trans hk
  obtain ⟨wb, hwb⟩ : ∃ wb, wb = w2.alloc (Obj.cells #[.int .i64 4, .int .i64 ol, .int .i64 aN, .int .i64 ob, .int .i64 od, .slice oa na ocap] 183) := ⟨_, rfl⟩
  have hb2b : Below w2.heap.size w2 wb := by rw [hwb]; exact (Below.refl _ _).alloc (Nat.le_refl _) _
  have kfb := (hb2b.block w.heap.size (by omega)).trans kf2
  have krb := (hb2b.block rb (by omega)).trans kr2
  have kob : wb.heap[w2.heap.size]? = some (.cells #[.int .i64 4, .int .i64 ol, .int .i64 aN, .int .i64 ob, .int .i64 od, .slice oa na ocap] 183 (0, 0)) := by rw [hwb]; exact heap_new_at rfl
  clear hk kr2
  go_wp2
  rw [← hwb]
  have y0 : wb.cell? ⟨rb, 1, none⟩ = some (.slice (some ⟨g, 0, none⟩) n1 vcap) := by simp [World.cell?, krb, hn1]
  have hgf : w.heap.size ≠ g := by omega
  have hgo : w2.heap.size ≠ g := by omega
  have KS : Hid (∀ W, ButG g wb W → ButG g wb W ∧ W.cell? ⟨rb, 1, none⟩ = some (.slice (some ⟨g, 0, none⟩) n1 vcap) ∧ W.cell? ⟨w.heap.size, 0, none⟩ = some (.int .i64 x0) ∧ W.cell? ⟨w.heap.size, 1, none⟩ = some (.int .i64 x1) ∧ W.cell? ⟨w.heap.size, 2, none⟩ = some (.int .i64 l0) ∧ W.cell? ⟨w.heap.size, 3, none⟩ = some (.int .i64 l1) ∧ W.cell? ⟨w.heap.size, 4, none⟩ = some (.int .i64 l2) ∧ W.cell? ⟨w.heap.size, 5, none⟩ = some (.int .i64 l3) ∧ W.cell? ⟨w.heap.size, 6, none⟩ = some (.int .i64 l4) ∧ W.cell? ⟨w.heap.size, 7, none⟩ = some (.int .i64 l5) ∧ W.cell? ⟨w.heap.size, 8, none⟩ = some (.int .i64 l6) ∧ W.cell? ⟨w.heap.size, 9, none⟩ = some (.int .i64 l7) ∧ W.cell? ⟨w2.heap.size, 0, none⟩ = some (.int .i64 4) ∧ W.cell? ⟨w2.heap.size, 1, none⟩ = some (.int .i64 ol) ∧ W.cell? ⟨w2.heap.size, 2, none⟩ = some (.int .i64 aN) ∧ W.cell? ⟨w2.heap.size, 3, none⟩ = some (.int .i64 ob) ∧ W.cell? ⟨w2.heap.size, 4, none⟩ = some (.int .i64 od) ∧ W.cell? ⟨w2.heap.size, 5, none⟩ = some (.slice oa na ocap)) := fun W h => ⟨h, h.cell hgr y0, h.cell hgf (by simp [World.cell?, kfb]), h.cell hgf (by simp [World.cell?, kfb]), h.cell hgf (by simp [World.cell?, kfb]), h.cell hgf (by simp [World.cell?, kfb]), h.cell hgf (by simp [World.cell?, kfb]), h.cell hgf (by simp [World.cell?, kfb]), h.cell hgf (by simp [World.cell?, kfb]), h.cell hgf (by simp [World.cell?, kfb]), h.cell hgf (by simp [World.cell?, kfb]), h.cell hgf (by simp [World.cell?, kfb]), h.cell hgo (by simp [World.cell?, kob]), h.cell hgo (by simp [World.cell?, kob]), h.cell hgo (by simp [World.cell?, kob]), h.cell hgo (by simp [World.cell?, kob]), h.cell hgo (by simp [World.cell?, kob]), h.cell hgo (by simp [World.cell?, kob])⟩
  have hbw : Below w.heap.size w wb := hw2.trans (hb2b.mono hw2.size)
  have HGB : Hid (∀ W, Below wb.drew.heap.size wb.drew W → W.cell? ⟨g, m * 10, none⟩ = some (.int .i64 x0) ∧ W.cell? ⟨g, m * 10 + 1, none⟩ = some (.int .i64 x1) ∧ W.cell? ⟨g, m * 10 + 2, none⟩ = some (.int .i64 l0) ∧ W.cell? ⟨g, m * 10 + 3, none⟩ = some (.int .i64 l1) ∧ W.cell? ⟨g, m * 10 + 4, none⟩ = some (.int .i64 l2) ∧ W.cell? ⟨g, m * 10 + 5, none⟩ = some (.int .i64 l3) ∧ W.cell? ⟨g, m * 10 + 6, none⟩ = some (.int .i64 l4) ∧ W.cell? ⟨g, m * 10 + 7, none⟩ = some (.int .i64 l5) ∧ W.cell? ⟨g, m * 10 + 8, none⟩ = some (.int .i64 l6) ∧ W.cell? ⟨g, m * 10 + 9, none⟩ = some (.int .i64 l7) ∧ W.frozen? ⟨g, m * 10, none⟩ = false ∧ W.frozen? ⟨g, m * 10 + 1, none⟩ = false ∧ W.frozen? ⟨g, m * 10 + 2, none⟩ = false ∧ W.frozen? ⟨g, m * 10 + 3, none⟩ = false ∧ W.frozen? ⟨g, m * 10 + 4, none⟩ = false ∧ W.frozen? ⟨g, m * 10 + 5, none⟩ = false ∧ W.frozen? ⟨g, m * 10 + 6, none⟩ = false ∧ W.frozen? ⟨g, m * 10 + 7, none⟩ = false ∧ W.frozen? ⟨g, m * 10 + 8, none⟩ = false ∧ W.frozen? ⟨g, m * 10 + 9, none⟩ = false) := fun W hW => HG1.out W (hbw.trans ((Below.refl _ _).drew.trans hW |>.mono hbw.size))
  have HFB : Hid (∀ W, Below wb.drew.heap.size wb.drew W → _) := fun W hW => HFIN.out W (hbw.trans ((Below.refl _ _).drew.trans hW |>.mono hbw.size))
  clear hwb y0 krb kfb kob kf2 kf hro HG1 HFIN HOP hbw hb2b hw2 hb2 hba hn1
  go_region_held (fun W => ButG g wb W ∧ W.cell? ⟨rb, 1, none⟩ = some (.slice (some ⟨g, 0, none⟩) n1 vcap) ∧ W.cell? ⟨w.heap.size, 0, none⟩ = some (.int .i64 x0) ∧ W.cell? ⟨w.heap.size, 1, none⟩ = some (.int .i64 x1) ∧ W.cell? ⟨w.heap.size, 2, none⟩ = some (.int .i64 l0) ∧ W.cell? ⟨w.heap.size, 3, none⟩ = some (.int .i64 l1) ∧ W.cell? ⟨w.heap.size, 4, none⟩ = some (.int .i64 l2) ∧ W.cell? ⟨w.heap.size, 5, none⟩ = some (.int .i64 l3) ∧ W.cell? ⟨w.heap.size, 6, none⟩ = some (.int .i64 l4) ∧ W.cell? ⟨w.heap.size, 7, none⟩ = some (.int .i64 l5) ∧ W.cell? ⟨w.heap.size, 8, none⟩ = some (.int .i64 l6) ∧ W.cell? ⟨w.heap.size, 9, none⟩ = some (.int .i64 l7) ∧ W.cell? ⟨w2.heap.size, 0, none⟩ = some (.int .i64 4) ∧ W.cell? ⟨w2.heap.size, 1, none⟩ = some (.int .i64 ol) ∧ W.cell? ⟨w2.heap.size, 2, none⟩ = some (.int .i64 aN) ∧ W.cell? ⟨w2.heap.size, 3, none⟩ = some (.int .i64 ob) ∧ W.cell? ⟨w2.heap.size, 4, none⟩ = some (.int .i64 od) ∧ W.cell? ⟨w2.heap.size, 5, none⟩ = some (.slice oa na ocap))
    ((refine KS.out _ ?_; first | with_reducible exact (ButG.refl _ _).drew | with_reducible exact (ButG.refl _ _).drew.below hb4 | with_reducible exact ((((((((((((ButG.refl _ _).drew.below hb4).setCell _ _).setCell _ _).setCell _ _).setCell _ _).setCell _ _).setCell _ _).setCell _ _).setCell _ _).setCell _ _).setCell _ _)))
    ((go_at_call 218; refine (HJ.out _ _ _).mono ?_; rintro e w4 ⟨rfl, hb4⟩; obtain ⟨g0, g1, g2, g3, g4, g5, g6, g7, g8, g9, z0, z1, z2, z3, z4, z5, z6, z7, z8, z9⟩ := HGB.out _ hb4))
  go_wp2
  go_end0
  exact ⟨rfl, HFB.out _ hb4⟩
end Go.Proofs.YtffnfjkjlmlonaaGreatDoor
