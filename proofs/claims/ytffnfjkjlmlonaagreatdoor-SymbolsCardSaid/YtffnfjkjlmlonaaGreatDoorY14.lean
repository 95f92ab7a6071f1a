/- The contract of the reference's shape: of each pc its function and the pc within it; nothing that was there is written. -/
import Derived.Test.YtffnfjkjlmlonaaGreatDoorZB32
import Derived.Test.YtffnfjkjlmlonaaGreatDoorZB24
namespace Go.Proofs.YtffnfjkjlmlonaaGreatDoor
open Go.RowKit
/-- The two lists of a shape, apart from each other. -/
structure Sh2 (sb B : Nat) (wb : World) (v1 v2 : Value) (n1 n2 : Nat) (x1 x2 : List Int) (W : World) : Prop where
  ks : W.heap[sb]? = some (.cells #[v1, v2] 148 (0, 0))
  o1 : W.ownsRow B 3 1 v1 n1 (ints x1)
  o2 : W.ownsRow B 3 1 v2 n2 (ints x2)
  nd : ∀ b, v1.ownBlock = some b → v2.ownBlock ≠ some b
  be : Below sb wb W
  hB : sb < B
  bw : B ≤ W.heap.size
variable {sb B : Nat} {wb : World} {v1 v2 : Value} {n1 n2 : Nat} {x1 x2 : List Int}
theorem Sh2.lt {W : World} (h : Sh2 sb B wb v1 v2 n1 n2 x1 x2 W) : sb < W.heap.size := (Array.getElem?_eq_some_iff.1 h.ks).1
theorem Sh2.cells {W : World} (h : Sh2 sb B wb v1 v2 n1 n2 x1 x2 W) : W.cell? ⟨sb, 0, none⟩ = some v1 ∧ W.cell? ⟨sb, 1, none⟩ = some v2 ∧ W.frozen? ⟨sb, 0, none⟩ = false ∧ W.frozen? ⟨sb, 1, none⟩ = false := by
  have k := h.ks
  refine ⟨?_, ?_, ?_, ?_⟩ <;> simp [World.cell?, World.frozen?, k]
theorem Sh2.below {W W' : World} (h : Sh2 sb B wb v1 v2 n1 n2 x1 x2 W) (hW : Below W.heap.size W W') : Sh2 sb B wb v1 v2 n1 n2 x1 x2 W' :=
  ⟨(hW.block sb h.lt).trans h.ks, owns_below h.o1 hW, owns_below h.o2 hW, h.nd, h.be.trans (hW.mono (Nat.le_of_lt h.lt)), h.hB, Nat.le_trans h.bw hW.size⟩
theorem cell_one_at {w : World} {n : Nat} (h : w.heap.size = n) (u : Value) (t : TypeId) : ∀ j v, [u][j]? = some v → (w.alloc (.cells #[u] t)).cell? ((⟨n, 0, none⟩ : Addr).add j) = some v := by
  subst h
  exact cell_one_new w u t
theorem ints_snoc (l : List Int) (y : Int) : ints (l ++ [y]) = ints l ++ [.int .i64 y] := by simp [ints]
theorem Sh2.app1 {W W' : World} {g cap : Nat} {y : Int} (h : Sh2 sb B wb v1 v2 n1 n2 x1 x2 W) (hg : W.grownBy W' v1.ownBlock) (ho : W'.ownsRow B 3 1 (.slice (some ⟨g, 0, none⟩) (n1 + 1) cap) (n1 + 1) (ints x1 ++ [.int .i64 y])) (hgg : v1.ownBlock = some g ∨ g = W.heap.size) :
    (W'.cell? ⟨sb, 0, none⟩ = some v1 ∧ W'.frozen? ⟨sb, 0, none⟩ = false ∧ W'.cell? ⟨sb, 1, none⟩ = some v2) ∧ ∀ W'', W'' = W'.setCell ⟨sb, 0, none⟩ (.slice (some ⟨g, 0, none⟩) (n1 + 1) cap) → Sh2 sb B wb (.slice (some ⟨g, 0, none⟩) (n1 + 1) cap) v2 (n1 + 1) n2 (x1 ++ [y]) x2 W'' := by
  have ks : W'.heap[sb]? = some (.cells #[v1, v2] 148 (0, 0)) := (hg.block sb h.lt (owns_other h.o1 h.ks (by decide))).trans h.ks
  refine ⟨⟨by simp [World.cell?, ks], by simp [World.frozen?, ks], by simp [World.cell?, ks]⟩, ?_⟩
  rintro W'' rfl
  have ho2 : W'.ownsRow B 3 1 v2 n2 (ints x2) := ownsRow_block h.o2 (fun q hq1 hq2 => hg.block q hq2 (fun e => h.nd q e.symm hq1))
  refine ⟨?_, ?_, ownsRow_setCell_other ho2 (fun e => owns_other ho2 ks (by decide) e.symm) _, ?_, (h.be.grown hg (Nat.le_of_lt h.lt) (fun k hk => ?_)).setCell (p := ⟨sb, 0, none⟩) (Nat.le_refl _) _, h.hB, ?_⟩
  · rw [heap_setCell_same W' sb 0 _ _ _ ks]; rfl
  · rw [ints_snoc]
    exact ownsRow_setCell_other ho (fun e => owns_other ho ks (by decide) e.symm) _
  · intro b hb1 hb2
    have e' : g = b := by simpa [Value.ownBlock] using hb1
    subst e'
    rcases hgg with hgg | hgg
    · exact h.nd g hgg hb2
    · have := (h.o2.lt g hb2).2; omega
  · have := (h.o1.lt k hk).1
    have := h.hB
    omega
  · have := h.bw
    have := hg.size
    simp
    omega
theorem Sh2.app2 {W W' : World} {g cap : Nat} {y : Int} (h : Sh2 sb B wb v1 v2 n1 n2 x1 x2 W) (hg : W.grownBy W' v2.ownBlock) (ho : W'.ownsRow B 3 1 (.slice (some ⟨g, 0, none⟩) (n2 + 1) cap) (n2 + 1) (ints x2 ++ [.int .i64 y])) (hgg : v2.ownBlock = some g ∨ g = W.heap.size) :
    (W'.cell? ⟨sb, 1, none⟩ = some v2 ∧ W'.frozen? ⟨sb, 1, none⟩ = false) ∧ ∀ W'', W'' = W'.setCell ⟨sb, 1, none⟩ (.slice (some ⟨g, 0, none⟩) (n2 + 1) cap) → Sh2 sb B wb v1 (.slice (some ⟨g, 0, none⟩) (n2 + 1) cap) n1 (n2 + 1) x1 (x2 ++ [y]) W'' := by
  have ks : W'.heap[sb]? = some (.cells #[v1, v2] 148 (0, 0)) := (hg.block sb h.lt (owns_other h.o2 h.ks (by decide))).trans h.ks
  refine ⟨⟨by simp [World.cell?, ks], by simp [World.frozen?, ks]⟩, ?_⟩
  rintro W'' rfl
  have ho1 : W'.ownsRow B 3 1 v1 n1 (ints x1) := ownsRow_block h.o1 (fun q hq1 hq2 => hg.block q hq2 (fun e => h.nd q hq1 e.symm))
  refine ⟨?_, ownsRow_setCell_other ho1 (fun e => owns_other ho1 ks (by decide) e.symm) _, ?_, ?_, (h.be.grown hg (Nat.le_of_lt h.lt) (fun k hk => ?_)).setCell (p := ⟨sb, 1, none⟩) (Nat.le_refl _) _, h.hB, ?_⟩
  · rw [heap_setCell_same W' sb 1 _ _ _ ks]; rfl
  · rw [ints_snoc]
    exact ownsRow_setCell_other ho (fun e => owns_other ho ks (by decide) e.symm) _
  · intro b hb1 hb2
    have e' : g = b := by simpa [Value.ownBlock] using hb2
    subst e'
    rcases hgg with hgg | hgg
    · exact h.nd g hb1 hgg
    · have := (h.o1.lt g hb1).2; omega
  · have := (h.o2.lt k hk).1
    have := h.hB
    omega
  · have := h.bw
    have := hg.size
    simp
    omega
/-- So far has shape come. -/
def ShAt (sb B : Nat) (wb : World) (l : List (Int × Int)) (W : World) : Prop := ∃ v1 v2, Sh2 sb B wb v1 v2 l.length l.length (l.map (·.1)) (l.map (·.2)) W
theorem shP_le {n : Nat} : ∀ (l : List EntD) (f : Nat), (∀ x ∈ l, EntG n x) → (shP l f).length ≤ 1000 * l.length
  | [], _, _ => by simp [shP]
  | x :: r, f, h => by
    have h1 := (h x (List.mem_cons_self ..)).most
    have h2 := shP_le r (f + 1) (fun y hy => h y (List.mem_cons_of_mem _ hy))
    simp only [shP, List.length_append, List.length_map, List.length_range, List.length_cons]
    omega
set_option maxHeartbeats 4000000 in
set_option maxRecDepth 100000 in
theorem shape_any (ia : Option Addr) (icap : Nat) (L : List EntD) (w : World) (hr : RdI w ia L.length icap L) (hg : ∀ x ∈ L, EntG L.length x) (h12 : L.length ≤ 12) :
    Calls Tryz.prog 109 #[.agg #[.slice ia L.length icap]] w fun e w' => ∃ a1 c1 a2 c2, e = .returned (.agg #[.slice a1 (shP L 0).length c1, .slice a2 (shP L 0).length c2]) ∧
      Rd .i64 w' a1 (shP L 0).length c1 ((shP L 0).map (·.1)) ∧ Rd .i64 w' a2 (shP L 0).length c2 ((shP L 0).map (·.2)) ∧ Below w.heap.size w w' := by
  have HR := hid hr
  have HG := hid hg
  have hc1 := hr.2.1
  have hc2 := hr.2.2.1
  unfold maxLen at hc2
  obtain ⟨n, hn⟩ : ∃ v, v = L.length := ⟨_, rfl⟩
  rw [← hn] at HR HG hc1 h12 ⊢
  have HN := hid hn
  obtain ⟨i0, hif, hz0, hz1, hz2⟩ := info_parts Tryz.infoInt
  obtain ⟨wb, hwb⟩ : ∃ v, v = ((w.alloc (Obj.cells #[.slice ia n icap] 41)).alloc (Obj.cells #[.slice none 0 0, .slice none 0 0] 148)).alloc (Obj.cells #[.slice none 0 0, .slice none 0 0] 148) := ⟨_, rfl⟩
  have hbb : Below w.heap.size w wb := by rw [hwb]; exact (((Below.refl _ _).alloc (Nat.le_refl _) _).alloc (by simp) _).alloc (by simp; omega) _
  have hbs : wb.heap.size = w.heap.size + 3 := by rw [hwb]; simp
  have kI : wb.heap[w.heap.size]? = some (.cells #[.slice ia n icap] 41 (0, 0)) := by
    rw [hwb, heap_alloc_old _ _ (by simp; omega), heap_alloc_old _ _ (by simp)]
    exact heap_alloc_new _ _
  have kR : wb.heap[w.heap.size + 1]? = some (.cells #[.slice none 0 0, .slice none 0 0] 148 (0, 0)) := by
    rw [hwb, heap_alloc_old _ _ (by simp)]
    have := heap_alloc_new (w.alloc (Obj.cells #[.slice ia n icap] 41)) (Obj.cells #[.slice none 0 0, .slice none 0 0] 148)
    simpa using this
  have kS : wb.heap[w.heap.size + 1 + 1]? = some (.cells #[.slice none 0 0, .slice none 0 0] 148 (0, 0)) := by
    rw [hwb]
    have := heap_alloc_new ((w.alloc (Obj.cells #[.slice ia n icap] 41)).alloc (Obj.cells #[.slice none 0 0, .slice none 0 0] 148)) (Obj.cells #[.slice none 0 0, .slice none 0 0] 148)
    simpa using this
  obtain ⟨sb, hsb⟩ : ∃ v, v = w.heap.size + 1 + 1 := ⟨_, rfl⟩
  obtain ⟨B, hBB⟩ : ∃ v, v = wb.heap.size := ⟨_, rfl⟩
  rw [← hsb] at kS
  have HSH : Hid (Sh2 sb B wb (.slice none 0 0) (.slice none 0 0) 0 0 [] [] wb) := hid ⟨kS, World.ownsRow_nil _ _ _ _, World.ownsRow_nil _ _ _ _, fun b hb => by simp [Value.ownBlock] at hb, Below.refl _ _, by omega, by omega⟩
  have HIM : Hid (∀ W, Below sb wb W → W.cell? ⟨w.heap.size, 0, none⟩ = some (.slice ia n icap) ∧ Below w.heap.size w W) := hid (fun W hW => by
    have k := (hW.block w.heap.size (by omega)).trans kI
    exact ⟨by simp [World.cell?, k], hbb.trans (hW.mono (by omega))⟩)
  have HRE : Hid (∀ W, Below sb wb W → W.cell? ⟨w.heap.size + 1, 0, none⟩ = some (.slice none 0 0) ∧ W.cell? ⟨w.heap.size + 1, 1, none⟩ = some (.slice none 0 0) ∧ W.frozen? ⟨w.heap.size + 1, 0, none⟩ = false ∧ W.frozen? ⟨w.heap.size + 1, 1, none⟩ = false) := hid (fun W hW => by
    have k := (hW.block (w.heap.size + 1) (by omega)).trans kR
    refine ⟨?_, ?_, ?_, ?_⟩ <;> simp [World.cell?, World.frozen?, k])
  have hsb1 : w.heap.size + 1 < sb := by omega
  have hsB : sb < B := by omega
  have HBB := hid hBB
  clear hr hg hn kI kR kS hbb hBB hbs
  go_enter Tryz.func109, Tryz.ntmps109
  go_wp2
  rw [← hwb, ← hsb]
  clear hwb hsb
  go_loopw [4, 5, 6] (fun f _ _ wr => ∃ k : Nat, f = .int .i64 k ∧ k ≤ n ∧ ShAt sb B wb (shP (L.take k) 0) wr) (fun f _ _ _ => n - (intOf f).toNat)
  case atStart => exact ⟨0, rfl, by omega, _, _, HSH.out⟩
  case round =>
    rename World => wo
    obtain ⟨k, rfl, hk, v1, v2, hSh⟩ := hrel
    have hbe := hSh.be
    obtain ⟨ci, hbw⟩ := HIM.out wo hbe
    have hslt := hSh.lt
    by_cases hkn : k < n
    · have hkn' : (k : Int) < (n : Int) := by omega
      obtain ⟨x, hx⟩ : ∃ x, L[k]? = some x := ⟨_, List.getElem?_eq_getElem (by rw [← HN.out]; exact hkn)⟩
      have hgx := HG.out x (List.mem_of_getElem? hx)
      obtain ⟨eb, eoff, la, lcap, xa, xcap, ta, tcap, rfl, m0, m1, m2, m3, m4, hrl, hrx, -⟩ := (HR.out.below hbw).at hx
      have heb : eb < wo.heap.size := World.block_lt_of_cell? wo _ m0
      have HUN := hid (runrolled_any la x.lines.length lcap x.lines wo hrl hgx.wl)
      have hpl : (shP (L.take k) 0).length ≤ 12000 := by
        have h := shP_le (n := n) (L.take k) 0 (fun y hy => HG.out y (List.mem_of_mem_take hy))
        rw [List.length_take] at h
        omega
      have HNXT := hid (shP_take hx)
      have hml := hgx.most
      obtain ⟨ACC, hACC⟩ : ∃ v, v = shP (L.take k) 0 := ⟨_, rfl⟩
      rw [← hACC] at hSh hpl HNXT
      obtain ⟨m, hm⟩ : ∃ v, v = (unroll x.lines).length := ⟨_, rfl⟩
      rw [← hm] at HUN hml HNXT
      generalize x.lines.length = ll at *
      have HSh := hid hSh
      clear hSh hACC hm hx hrl hrx m0 m1 m3 m4 hbe hbw hgx
      go_wp2_with fail
      refine HUN.out.mono ?_
      rintro e w3 ⟨v, rfl, ho3, b3⟩
      obtain ⟨va, vc, rfl, hv1, hv2⟩ := owns_form ho3
      unfold maxLen at hv2
      have HS3 := hid (HSh.out.below b3)
      clear ho3 b3 HUN HSh ci m2
      go_wp2
      go_loopw [6] (fun xv wr => ∃ j : Nat, xv = .int .i64 j ∧ j ≤ m ∧ ShAt sb B wb (ACC ++ ((List.range j).map fun (j : Nat) => ((k : Int), (j : Int)))) wr) (fun xv _ => m - (intOf xv).toNat)
      case atStart => exact ⟨0, rfl, by omega, v1, v2, by simpa using HS3.out⟩
      case round =>
        clear HS3
        obtain ⟨j, rfl, hj, u1, u2, hS⟩ := hrel
        by_cases hjm : j < m
        · have hjm' : (j : Int) < (m : Int) := by omega
          obtain ⟨s0, s1, f0, f1⟩ := hS.cells
          have hslt2 := hS.lt
          have hbw2 := hS.bw
          have HN2 : Hid (ACC ++ ((List.range (j + 1)).map fun (j : Nat) => ((k : Int), (j : Int))) = (ACC ++ ((List.range j).map fun (j : Nat) => ((k : Int), (j : Int)))) ++ [((k : Int), (j : Int))]) := hid (by rw [List.range_succ, List.map_append, List.append_assoc]; rfl)
          have hal : (ACC ++ ((List.range j).map fun (j : Nat) => ((k : Int), (j : Int)))).length ≤ 13000 := by
            rw [List.length_append, List.length_map, List.length_range]; omega
          obtain ⟨A, hA⟩ : ∃ v, v = ACC ++ ((List.range j).map fun (j : Nat) => ((k : Int), (j : Int))) := ⟨_, rfl⟩
          rw [← hA] at hS HN2 hal
          obtain ⟨N, hN⟩ : ∃ v, v = A.length := ⟨_, rfl⟩
          rw [← hN] at hS hal
          obtain ⟨a1, c1, rfl, -, hc1'⟩ := owns_form hS.o1
          obtain ⟨a2, c2, rfl, -, hc2'⟩ := owns_form hS.o2
          unfold maxLen at hc1' hc2'
          have HS1 := hid (hS.below ((Below.refl _ _).alloc (Nat.le_refl _) (Obj.cells #[.int .i64 k] 3)))
          clear hS hA
          have HNN := hid hN
          clear hN
          go_wp2_with (at_builtin; refine wpList_append_lies _ rfl (.tmp 28) (.tmp 30) 35 rfl B 3 i0 (.int .i64 0) 1 8 Tryz.underlying35 hif hz0 hz1 hz2 rfl (by decide) _ _ _ rfl HS1.out.o1 ⟨wr.heap.size, 0, none⟩ 1 1 [.int .i64 k] rfl rfl (cell_one_new _ _ _) (fun u hu => by rw [List.mem_singleton.1 hu]; rfl) (by decide) (by unfold maxLen; omega) (by omega) (by simp; omega) _ rfl ?_)
          intro g5 cap5 w5 hown5 hgrow5 hat5 hlt5
          obtain ⟨⟨p0, q0, p1⟩, hS6⟩ := HS1.out.app1 hgrow5 hown5 (hat5.imp id (fun e => by simpa using e))
          obtain ⟨w6, hw6⟩ : ∃ v, v = w5.setCell ⟨sb, 0, none⟩ (.slice (some ⟨g5, 0, none⟩) (N + 1) cap5) := ⟨_, rfl⟩
          have h6 := hS6 w6 hw6
          have HS7 := hid (h6.below ((Below.refl _ _).alloc (Nat.le_refl _) (Obj.cells #[.int .i64 j] 3)))
          have s6 : w6.heap.size = w5.heap.size := by rw [hw6]; simp
          have bw6 := h6.bw
          rw [hw6] at HS7
          clear hown5 hgrow5 hat5 hS6 h6 HS1 hw6
          go_wp2_with (at_builtin; refine wpList_append_lies _ rfl (.tmp 34) (.tmp 36) 35 rfl B 3 i0 (.int .i64 0) 1 8 Tryz.underlying35 hif hz0 hz1 hz2 rfl (by decide) _ _ _ rfl HS7.out.o2 ⟨w5.heap.size, 0, none⟩ 1 1 [.int .i64 j] rfl rfl (cell_one_at (by simp) _ _) (fun u hu => by rw [List.mem_singleton.1 hu]; rfl) (by decide) (by unfold maxLen; omega) (by omega) (by simp; omega) _ rfl ?_)
          intro g9 cap9 w9 hown9 hgrow9 hat9 hlt9
          obtain ⟨⟨p9, q9⟩, hS10⟩ := HS7.out.app2 hgrow9 hown9 (hat9.imp id (fun e => by simpa using e))
          have HREL : Hid (∀ W'', W'' = w9.setCell ⟨sb, 1, none⟩ (.slice (some ⟨g9, 0, none⟩) (N + 1) cap9) → ∃ j' : Nat, Value.int .i64 ((j : Int) + 1) = .int .i64 j' ∧ j' ≤ m ∧ ShAt sb B wb (ACC ++ ((List.range j').map fun (j : Nat) => ((k : Int), (j : Int)))) W'') := hid (fun W'' hW'' => by
            refine ⟨j + 1, by simp, by omega, .slice (some ⟨g5, 0, none⟩) (N + 1) cap5, .slice (some ⟨g9, 0, none⟩) (N + 1) cap9, ?_⟩
            have h := hS10 W'' hW''
            rw [HN2.out, List.length_append, List.length_singleton, ← HNN.out, List.map_append, List.map_append]
            exact h)
          clear hown9 hgrow9 hat9 hlt9 hS10 HS7
          go_wp2
          go_roundw
          case rel => exact HREL.out _ rfl
          case measure => simp [intOf]; omega
        · have hjm' : decide ((j : Int) < (m : Int)) = false := by simp; omega
          have HE : Hid (∃ k' : Nat, Value.int .i64 ((k : Int) + 1) = .int .i64 k' ∧ k' ≤ n ∧ ShAt sb B wb (shP (L.take k') 0) wr) := hid (by
            refine ⟨k + 1, by simp, by omega, u1, u2, ?_⟩
            have e : j = m := by omega
            rw [e] at hS
            rw [HNXT.out]
            exact hS)
          clear hS
          go_wp2
          go_roundw
          case rel => exact HE.out
          case measure => simp [intOf]; omega
    · have hkn' : decide ((k : Int) < (n : Int)) = false := by simp; omega
      have HTK : Hid (L.take k = L) := hid (List.take_of_length_le (by have := HN.out; omega))
      rw [HTK.out] at hSh
      obtain ⟨s0, s1, f0, f1⟩ := hSh.cells
      obtain ⟨r0, r1, r2, r3⟩ := HRE.out wo hbe
      obtain ⟨a1, c1, rfl, hr1⟩ := rdI_owns hSh.o1
      obtain ⟨a2, c2, rfl, hr2⟩ := rdI_owns hSh.o2
      have hk1 := hr1.hcap
      have hk2 := hr2.hcap
      have hk3 := hr1.hmax
      have hk4 := hr2.hmax
      unfold maxLen at hk3 hk4
      generalize hM : (shP L 0).length = M at *
      have HFN : Hid (∀ u1 u2 W, W = (wo.setCell ⟨w.heap.size + 1, 0, none⟩ u1).setCell ⟨w.heap.size + 1, 1, none⟩ u2 → Rd .i64 W a1 M c1 ((shP L 0).map (·.1)) ∧ Rd .i64 W a2 M c2 ((shP L 0).map (·.2)) ∧ Below w.heap.size w W) := hid (by
        rintro u1 u2 W hW
        have hne : ∀ q, B ≤ q → W.heap[q]? = wo.heap[q]? := fun q hq => by
          rw [hW]
          exact (Below.heap_setCell _ _ _ _ (by simp; omega)).trans (Below.heap_setCell _ _ _ _ (by simp; omega))
        have o1 := ownsRow_block hSh.o1 (fun q hq _ => hne q (hSh.o1.lt q hq).1)
        have o2 := ownsRow_block hSh.o2 (fun q hq _ => hne q (hSh.o2.lt q hq).1)
        obtain ⟨a1', c1', e1, g1⟩ := rdI_owns o1
        obtain ⟨a2', c2', e2, g2⟩ := rdI_owns o2
        cases e1
        cases e2
        refine ⟨g1, g2, ?_⟩
        rw [hW]
        exact (hbw.setCell (p := ⟨w.heap.size + 1, 0, none⟩) (by show w.heap.size ≤ w.heap.size + 1; omega) _).setCell (p := ⟨w.heap.size + 1, 1, none⟩) (by show w.heap.size ≤ w.heap.size + 1; omega) _)
      clear hSh hr1 hr2 hbe hbw
      go_wp2
      exact bodyPost_ret (v := .agg #[.slice a1 M c1, .slice a2 M c2]) (by simp [results, Tryz.results109, go_sem, r0, r1]) rfl ⟨a1, c1, a2, c2, by rw [hM], by rw [hM]; exact HFN.out _ _ _ rfl⟩
end Go.Proofs.YtffnfjkjlmlonaaGreatDoor
