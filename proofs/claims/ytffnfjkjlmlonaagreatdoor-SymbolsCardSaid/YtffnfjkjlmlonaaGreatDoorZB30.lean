/- The contract of the reference's older: is the file of a function none of those ahead; nothing that was there is written. What holds of the memory of the reference's Decode between its appends. -/
import Derived.Test.YtffnfjkjlmlonaaGreatDoorY13m
import Derived.Test.YtffnfjkjlmlonaaGreatDoorZB12
import Derived.Test.YtffnfjkjlmlonaaGreatDoorZB15
namespace Go.Proofs.YtffnfjkjlmlonaaGreatDoor
open Go.RowKit
set_option maxHeartbeats 2000000 in
set_option maxRecDepth 100000 in
theorem older_any (a : Option Addr) (cap : Nat) (L : List EntD) (f : Nat) (x : EntD) (w : World) (hr : RdI w a L.length cap L) (hx : L[f]? = some x) (h12 : L.length ≤ 12) :
    Calls Tryz.prog 101 #[.slice a L.length cap, .int .i64 f] w fun e w' => ∃ n, e = .returned (.tuple #[.int .i64 n, .bool (anewB (L.take f) x)]) ∧ Below w.heap.size w w' := by
  have hc1 := hr.2.1
  have hc2 := hr.2.2.1
  unfold maxLen at hc2
  have hfl : f < L.length := (List.getElem?_eq_some_iff.1 hx).1
  have HR := hid hr
  have HX := hid hx
  obtain ⟨n, hn⟩ : ∃ v, v = L.length := ⟨_, rfl⟩
  rw [← hn] at HR hc1 h12 hfl ⊢
  have HN := hid hn
  obtain ⟨fb, foff, -, -, -, -, -, -, rfl, -, fc1, -⟩ := hr.at hx
  have hfb : fb < w.heap.size := World.block_lt_of_cell? w _ fc1
  clear hr hx hn
  go_enter Tryz.func101, Tryz.ntmps101
  go_wp2
  go_loopw [6, 7, 8, 9] (fun nv i _ _ wr => ∃ (k : Nat) (c : Int), nv = .int .i64 c ∧ 0 ≤ c ∧ c ≤ k ∧ i = .int .i64 k ∧ k ≤ f ∧ (L.take k).all (fun y => !eqB y.file x.file) = true ∧ Below w.heap.size w wr) (fun _ i _ _ _ => f - (intOf i).toNat)
  case atStart => exact ⟨0, 0, rfl, by omega, by omega, rfl, by omega, rfl, Below.refl _ _⟩
  case round =>
    obtain ⟨k, c, rfl, hc0, hck, rfl, hk, hall, hbel⟩ := hrel
    rename World => wo
    have gc1 := (hbel.cell (p := ⟨fb, foff + f * 5 + 1, none⟩) hfb).trans fc1
    by_cases hkf : k < f
    · have hkf' : (k : Int) < (f : Int) := by omega
      obtain ⟨y, hy⟩ : ∃ y, L[k]? = some y := ⟨_, List.getElem?_eq_getElem (by rw [← HN.out]; omega)⟩
      obtain ⟨yb, yoff, -, -, -, -, -, -, e, -, d1, -⟩ := (HR.out.below hbel).at hy
      cases e
      obtain ⟨q, hq⟩ : ∃ q, q = eqB y.file x.file := ⟨_, rfl⟩
      have hqq : (y.file.toList == x.file.toList) = q := by rw [hq]; rfl
      have HTK : Hid ((L.take (k + 1)).all (fun y => !eqB y.file x.file) = !q) := hid (by
        obtain ⟨hlt, he⟩ := List.getElem?_eq_some_iff.1 hy
        rw [List.take_succ_eq_append_getElem hlt, he, List.all_append, hall]
        simp [hq])
      have HAN : Hid (q = true → anewB (L.take f) x = false) := hid (fun h => by
        unfold anewB
        rw [List.all_eq_false]
        exact ⟨y, List.mem_of_getElem? (i := k) (by rw [List.getElem?_take_of_lt hkf]; exact hy), by rw [← hq, h]; simp⟩)
      have HBEL := hid hbel
      generalize y.file = yf at *
      clear hall hbel hq
      cases q with
      | true =>
        have ha := HAN.out rfl
        generalize x.file = xf at *
        go_wp2
        go_quiet (fail)
        go_wp2
        exact bodyPost_ret (v := .tuple #[.int .i64 c, .bool false]) (by simp [results, Tryz.results101, go_sem]) rfl ⟨c, by rw [ha], below_drawn HBEL.out nq⟩
      | false =>
        have HTK' := HTK
        have hyb : fb < wo.heap.size := World.block_lt_of_cell? wo _ d1
        go_wp2
        go_quiet (fail)
        go_wp2
        go_loopw [8, 9] (fun sv kv wr => ∃ (b : Bool) (j : Nat), sv = .bool b ∧ kv = .int .i64 j ∧ j ≤ k ∧ Below wo.heap.size wo wr) (fun _ kv _ => k - (intOf kv).toNat)
        case atStart => exact ⟨false, 0, rfl, rfl, by omega, below_drawn (Below.refl _ _) nq⟩
        case round =>
          obtain ⟨b, j, rfl, rfl, hj, hbe2⟩ := hrel
          have d1' := (hbe2.cell (p := ⟨fb, foff + k * 5 + 1, none⟩) hyb).trans d1
          have HB2 := hid hbe2
          by_cases hjk : j < k
          · have hjk' : (j : Int) < (k : Int) := by omega
            obtain ⟨z, hz⟩ : ∃ z, L[j]? = some z := ⟨_, List.getElem?_eq_getElem (by rw [← HN.out]; omega)⟩
            obtain ⟨zb, zoff, -, -, -, -, -, -, e, -, z1, -⟩ := (HR.out.below (HBEL.out.trans (hbe2.mono HBEL.out.size))).at hz
            cases e
            generalize z.file = zf at *
            obtain ⟨q2, hq2⟩ : ∃ q2, (zf.toList == yf.toList) = q2 := ⟨_, rfl⟩
            clear hz hbe2
            cases b with
            | true =>
              go_wp2
              go_quiet (fail)
              go_wp2
              go_roundw
              case rel => exact ⟨true, j + 1, rfl, by go_num, by omega, below_drawn HB2.out nq⟩
              case measure => simp [intOf]; omega
            | false =>
              go_wp2
              go_quiet (fail)
              go_wp2
              go_roundw
              case rel => exact ⟨q2, j + 1, rfl, by go_num, by omega, below_drawn HB2.out nq⟩
              case measure => simp [intOf]; omega
          · have hjk' : decide ((j : Int) < (k : Int)) = false := by simp; omega
            have HB3 := hid (HBEL.out.trans (hbe2.mono HBEL.out.size))
            clear hbe2
            cases b with
            | true =>
              go_wp2
              go_roundw
              case rel => exact ⟨k + 1, c, rfl, hc0, by omega, by go_num, by omega, HTK.out, HB3.out⟩
              case measure => simp [intOf]; omega
            | false =>
              go_wp2
              go_roundw
              case rel => exact ⟨k + 1, c + 1, by go_num, by omega, by omega, by go_num, by omega, HTK.out, HB3.out⟩
              case measure => simp [intOf]; omega
    · have hkf' : decide ((k : Int) < (f : Int)) = false := by simp; omega
      have HAN : Hid (anewB (L.take f) x = true) := hid (by
        have : k = f := by omega
        rw [← this]
        exact hall)
      have HBEL := hid hbel
      clear hall hbel
      go_wp2
      exact bodyPost_ret (v := .tuple #[.int .i64 c, .bool true]) (by simp [results, Tryz.results101, go_sem]) rfl ⟨c, by rw [HAN.out], HBEL.out⟩
end Go.Proofs.YtffnfjkjlmlonaaGreatDoor
namespace Go.Proofs.YtffnfjkjlmlonaaGreatDoor
open Go.RowKit
def pE (t : TypeId) : Bool := !(t == 115)
def pT (t : TypeId) : Bool := !(t == 9)
theorem KeepP.toS {p : TypeId → Bool} {w w' : World} (h : KeepP p w w') (hp : ∀ t, kS t = true → p t = true) : KeepP kS w w' := ⟨h.size, fun b cs t fz hb ht => h.block b cs t fz hb (hp t ht)⟩
theorem pE_S : ∀ t, kS t = true → pE t = true := fun t h => by
  unfold kS at h
  unfold pE
  rw [Bool.or_eq_true] at h
  rcases h with h | h
  · rw [eq_of_beq h]; decide
  · rw [eq_of_beq h]; decide
theorem pT_S : ∀ t, kS t = true → pT t = true := fun t h => by
  unfold kS at h
  unfold pT
  rw [Bool.or_eq_true] at h
  rcases h with h | h
  · rw [eq_of_beq h]; decide
  · rw [eq_of_beq h]; decide
structure DB (hb B xb gb : Nat) (w2 : World) (lv nv fv : Value) (css : List (List Value)) (l : List EntD) (names files : List ByteArray) (at_ p3 : Int) (cs : List Value) (x : EntD) (W : World) : Prop where
  ol : W.ownsRow B 115 5 lv l.length css.flatten
  oe : OwnEnts B W css l
  on : W.ownsRow B 9 1 nv names.length (strs names)
  of : W.ownsRow B 9 1 fv files.length (strs files)
  nf : ∀ b, nv.ownBlock = some b → fv.ownBlock ≠ some b
  kh : W.heap[hb]? = some (.cells #[.int .i64 at_, .int .i64 0] 135 (0, 0))
  kx : W.heap[xb]? = some (.cells cs.toArray 115 (0, 0))
  kg : W.heap[gb]? = some (.cells #[.int .i64 p3, .int .i64 0] 135 (0, 0))
  ox : OwnEnt B W cs x
  be : Below hb w2 W
  hB : hb < B
  bw : B ≤ W.heap.size
  lx : some xb ≠ lv.ownBlock
variable {hb B xb gb : Nat} {w2 : World} {lv nv fv : Value} {css : List (List Value)} {l : List EntD} {names files : List ByteArray} {at_ p3 : Int} {cs : List Value} {x : EntD}
theorem DB.lt_h {W : World} (h : DB hb B xb gb w2 lv nv fv css l names files at_ p3 cs x W) : hb < W.heap.size := (Array.getElem?_eq_some_iff.1 h.kh).1
theorem DB.lt_x {W : World} (h : DB hb B xb gb w2 lv nv fv css l names files at_ p3 cs x W) : xb < W.heap.size := (Array.getElem?_eq_some_iff.1 h.kx).1
theorem DB.lt_g {W : World} (h : DB hb B xb gb w2 lv nv fv css l names files at_ p3 cs x W) : gb < W.heap.size := (Array.getElem?_eq_some_iff.1 h.kg).1
theorem DB.below {W W' : World} (h : DB hb B xb gb w2 lv nv fv css l names files at_ p3 cs x W) (hW : Below W.heap.size W W') : DB hb B xb gb w2 lv nv fv css l names files at_ p3 cs x W' :=
  ⟨owns_below h.ol hW, h.oe.keep (KeepP.below hW), owns_below h.on hW, owns_below h.of hW, h.nf, (hW.block hb h.lt_h).trans h.kh, (hW.block xb h.lt_x).trans h.kx, (hW.block gb h.lt_g).trans h.kg, h.ox.keep (KeepP.below hW), h.be.trans (hW.mono (Nat.le_of_lt h.lt_h)), h.hB, Nat.le_trans h.bw hW.size, h.lx⟩
theorem DB.app_l {W W' : World} {g cap : Nat} (h : DB hb B xb gb w2 lv nv fv css l names files at_ p3 cs x W) (hg : W.grownBy W' lv.ownBlock) (ho : W'.ownsRow B 115 5 (.slice (some ⟨g, 0, none⟩) (l.length + 1) cap) (l.length + 1) (css.flatten ++ cs))
    (hgg : lv.ownBlock = some g ∨ g = W.heap.size) : DB hb B xb gb w2 (.slice (some ⟨g, 0, none⟩) (l.length + 1) cap) nv fv (css ++ [cs]) (l ++ [x]) names files at_ p3 cs x W' := by
  have K : KeepP pE W W' := KeepP.grown (KeepP.refl W) hg h.ol (by decide)
  have KS := K.toS pE_S
  refine ⟨?_, (h.oe.keep KS).snoc (h.ox.keep KS), K.owns h.on (by decide), K.owns h.of (by decide), h.nf, K.block _ _ _ _ h.kh (by decide), ?_, K.block _ _ _ _ h.kg (by decide), h.ox.keep KS, h.be.grown hg (Nat.le_of_lt h.lt_h) (fun k hk => ?_), h.hB, Nat.le_trans h.bw hg.size, ?_⟩
  · have e1 : (css ++ [cs]).flatten = css.flatten ++ cs := by simp
    have e2 : (l ++ [x]).length = l.length + 1 := by simp
    rw [e1, e2]
    exact ho
  · exact (hg.block xb h.lt_x h.lx).trans h.kx
  · have := (h.ol.lt k hk).1
    have := h.hB
    omega
  · intro e
    have e' : xb = g := by simpa [Value.ownBlock] using e
    rcases hgg with hgg | hgg
    · exact h.lx (by rw [hgg, e'])
    · have := h.lt_x; omega
theorem DB.app_n {W W' : World} {g cap : Nat} {s : ByteArray} (h : DB hb B xb gb w2 lv nv fv css l names files at_ p3 cs x W) (hg : W.grownBy W' nv.ownBlock) (ho : W'.ownsRow B 9 1 (.slice (some ⟨g, 0, none⟩) (names.length + 1) cap) (names.length + 1) (strs names ++ [.string s]))
    (hgg : nv.ownBlock = some g ∨ g = W.heap.size) : DB hb B xb gb w2 lv (.slice (some ⟨g, 0, none⟩) (names.length + 1) cap) fv css l (names ++ [s]) files at_ p3 cs x W' := by
  have K : KeepP pT W W' := KeepP.grown (KeepP.refl W) hg h.on (by decide)
  have KS := K.toS pT_S
  refine ⟨K.owns h.ol (by decide), h.oe.keep KS, ?_, ownsRow_block h.of (fun q hq1 hq2 => hg.block q hq2 (fun e => h.nf q e.symm hq1)), ?_, K.block _ _ _ _ h.kh (by decide), K.block _ _ _ _ h.kx (by decide), K.block _ _ _ _ h.kg (by decide), h.ox.keep KS, h.be.grown hg (Nat.le_of_lt h.lt_h) (fun k hk => ?_), h.hB, Nat.le_trans h.bw hg.size, h.lx⟩
  · have e1 : strs (names ++ [s]) = strs names ++ [.string s] := by simp [strs]
    have e2 : (names ++ [s]).length = names.length + 1 := by simp
    rw [e1, e2]
    exact ho
  · intro b hb1 hb2
    have e' : g = b := by simpa [Value.ownBlock] using hb1
    subst e'
    rcases hgg with hgg | hgg
    · exact h.nf g hgg hb2
    · have := (h.of.lt g hb2).2; omega
  · have := (h.on.lt k hk).1
    have := h.hB
    omega
theorem DB.app_f {W W' : World} {g cap : Nat} {s : ByteArray} (h : DB hb B xb gb w2 lv nv fv css l names files at_ p3 cs x W) (hg : W.grownBy W' fv.ownBlock) (ho : W'.ownsRow B 9 1 (.slice (some ⟨g, 0, none⟩) (files.length + 1) cap) (files.length + 1) (strs files ++ [.string s]))
    (hgg : fv.ownBlock = some g ∨ g = W.heap.size) : DB hb B xb gb w2 lv nv (.slice (some ⟨g, 0, none⟩) (files.length + 1) cap) css l names (files ++ [s]) at_ p3 cs x W' := by
  have K : KeepP pT W W' := KeepP.grown (KeepP.refl W) hg h.of (by decide)
  have KS := K.toS pT_S
  refine ⟨K.owns h.ol (by decide), h.oe.keep KS, ownsRow_block h.on (fun q hq1 hq2 => hg.block q hq2 (fun e => h.nf q hq1 e.symm)), ?_, ?_, K.block _ _ _ _ h.kh (by decide), K.block _ _ _ _ h.kx (by decide), K.block _ _ _ _ h.kg (by decide), h.ox.keep KS, h.be.grown hg (Nat.le_of_lt h.lt_h) (fun k hk => ?_), h.hB, Nat.le_trans h.bw hg.size, h.lx⟩
  · have e1 : strs (files ++ [s]) = strs files ++ [.string s] := by simp [strs]
    have e2 : (files ++ [s]).length = files.length + 1 := by simp
    rw [e1, e2]
    exact ho
  · intro b hb1 hb2
    have e' : g = b := by simpa [Value.ownBlock] using hb2
    subst e'
    rcases hgg with hgg | hgg
    · exact h.nf g hb1 hgg
    · have := (h.on.lt g hb1).2; omega
  · have := (h.of.lt k hk).1
    have := h.hB
    omega
theorem DB.fin {W : World} (h : DB hb B xb gb w2 lv nv fv css l names files at_ p3 cs x W) : ∀ W', W' = (W.setCell ⟨hb, 0, none⟩ (.int .i64 p3)).setCell ⟨hb, 1, none⟩ (.int .i64 0) →
    W'.ownsRow B 115 5 lv l.length css.flatten ∧ OwnEnts B W' css l ∧ W'.ownsRow B 9 1 nv names.length (strs names) ∧ W'.ownsRow B 9 1 fv files.length (strs files) ∧
    W'.heap[hb]? = some (.cells #[.int .i64 p3, .int .i64 0] 135 (0, 0)) ∧ Below hb w2 W' := by
  intro W' hW'
  have hne : ∀ k, B ≤ k → W'.heap[k]? = W.heap[k]? := fun k hk => by
    rw [hW']
    have := h.hB
    exact (Below.heap_setCell _ _ _ _ (by simp; omega)).trans (Below.heap_setCell _ _ _ _ (by simp; omega))
  have k1 : (W.setCell ⟨hb, 0, none⟩ (.int .i64 p3)).heap[hb]? = some (.cells #[.int .i64 p3, .int .i64 0] 135 (0, 0)) := by
    rw [heap_setCell_same W hb 0 _ _ _ h.kh]; rfl
  have k2 : W'.heap[hb]? = some (.cells #[.int .i64 p3, .int .i64 0] 135 (0, 0)) := by
    rw [hW', heap_setCell_same _ hb 1 _ _ _ k1]; rfl
  refine ⟨ownsRow_block h.ol (fun q hq _ => hne q (h.ol.lt q hq).1), ⟨h.oe.1, fun i cs' y h1 h2 => ?_⟩, ownsRow_block h.on (fun q hq _ => hne q (h.on.lt q hq).1), ownsRow_block h.of (fun q hq _ => hne q (h.of.lt q hq).1), k2, ?_⟩
  · obtain ⟨a, b, c, e, g1, g2, g3, g4⟩ := h.oe.2 i cs' y h1 h2
    exact ⟨a, b, c, e, ownsRow_block g1 (fun q hq _ => hne q (g1.lt q hq).1), ownsRow_block g2 (fun q hq _ => hne q (g2.lt q hq).1), ownsRow_block g3 (fun q hq _ => hne q (g3.lt q hq).1), g4⟩
  · rw [hW']
    exact (h.be.setCell (p := ⟨hb, 0, none⟩) (Nat.le_refl _) _).setCell (p := ⟨hb, 1, none⟩) (Nat.le_refl _) _
theorem DB.lines {W : World} {s1 s2 v2 v3 : Value} {l1 : Option Addr} {ll c1 : Nat} (h : DB hb B xb gb w2 lv nv fv css l names files at_ p3 [s1, s2, .slice l1 ll c1, v2, v3] x W) (hl : ll = x.lines.length) : RdS W l1 ll c1 x.lines := by
  obtain ⟨a, b, c, e, g1, -⟩ := h.ox
  simp only [List.cons.injEq] at e
  obtain ⟨-, -, e3, -⟩ := e
  rw [← e3] at g1
  obtain ⟨a', c', e', hr⟩ := rdsOf g1 rfl
  rw [hl] at e' ⊢
  cases e'
  exact hr
end Go.Proofs.YtffnfjkjlmlonaaGreatDoor
