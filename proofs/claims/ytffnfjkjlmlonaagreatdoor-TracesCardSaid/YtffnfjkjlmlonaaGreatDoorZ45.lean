/- Contract of the statement's own World.frames: a list of frames that has come out anew is written full of its number, and kept. Contracts of the statement's own write and source at a Run, where lists of frames have come out, out of a contract of unfold.Run that is taken as a premise. -/
import Derived.Test.YtffnfjkjlmlonaaGreatDoorZ44
import Derived.Test.YtffnfjkjlmlonaaGreatDoorZ31
import Derived.Test.YtffnfjkjlmlonaaGreatDoorR13
namespace Go.Proofs.YtffnfjkjlmlonaaGreatDoor
open Go.RowKit

theorem Tryz.infoFrames : (Tryz.prog.info? 38).map (fun i => (i.zero, i.size, i.bytes)) = some (some (.slice none 0 0), 1, 24) := by kernel_rfl

theorem fs_append {g : Nat} {v : Value} {w1 w2 : World} {n : Nat} {rows : List Value} {fa : Option Addr} {c g' cap' : Nat} {o : Obj} (h1 : w1.heap[g]? = some (.cells (fsW v) 34 (0, 0))) (hvg : v.ownBlock ≠ some g) (hrl : rows.length = n)
    (h3 : ∀ (i : Nat) (u : Value), rows[i]? = some u → ∃ a len, u = .slice a len len ∧ RdL 3 RdFrame w1 a len len (List.replicate len (markD i)) ∧ InU (fun b => b ≠ g ∧ v.ownBlock ≠ some b) a len)
    (hn : RdL 3 RdFrame w1 fa c c (List.replicate c (markD n))) (hU : InU (fun b => b ≠ g ∧ v.ownBlock ≠ some b) fa c)
    (hown : w2.ownsRow (g + 1) 38 1 (.slice (some ⟨g', 0, none⟩) (n + 1) cap') (n + 1) (rows ++ [.slice fa c c])) (hgrow : (w1.alloc o).grownBy w2 v.ownBlock) (hat : v.ownBlock = some g' ∨ w1.heap.size ≤ g') :
    FsV g (.slice (some ⟨g', 0, none⟩) (n + 1) cap') (w2.setCell ⟨g, 5, none⟩ (.slice (some ⟨g', 0, none⟩) (n + 1) cap')) (n + 1) := by
  have hg := (Array.getElem?_eq_some_iff.1 h1).1
  have hgv := (hown.lt g' rfl).1
  have hk : Keeps (fun b => b ≠ g ∧ v.ownBlock ≠ some b) w1 (w2.setCell ⟨g, 5, none⟩ (.slice (some ⟨g', 0, none⟩) (n + 1) cap')) := fun b hb hlt => by
    rw [Below.heap_setCell _ _ _ _ hb.1]
    exact (hgrow.block b (by simp; omega) (fun e => hb.2 e.symm)).trans (heap_alloc_old _ _ hlt)
  have k2 : w2.heap[g]? = some (.cells (fsW v) 34 (0, 0)) := (hgrow.block g (by simp; omega) (fun e => hvg e.symm)).trans ((heap_alloc_old _ _ hg).trans h1)
  have fin : ∀ (i : Nat) (a : Option Addr) (len : Nat), RdL 3 RdFrame w1 a len len (List.replicate len (markD i)) → InU (fun b => b ≠ g ∧ v.ownBlock ≠ some b) a len → RdL 3 RdFrame (w2.setCell ⟨g, 5, none⟩ (.slice (some ⟨g', 0, none⟩) (n + 1) cap')) a len len (List.replicate len (markD i)) ∧ InU (fun b => b ≠ g ∧ (Value.slice (some ⟨g', 0, none⟩) (n + 1) cap').ownBlock ≠ some b) a len := fun i a len hr hU => by
    refine ⟨hr.keeps hU hk (fun _ _ h => h), fun h0 q hq => ⟨(hU h0 q hq).1, fun e => ?_⟩⟩
    simp [Value.ownBlock] at e
    rcases hat with h | h
    · exact (hU h0 q hq).2 (by rw [h, e])
    · obtain ⟨b, off, e2, hc, _⟩ := hr.frameAt 0 (markD i) (by rw [List.getElem?_replicate, if_pos h0])
      have := World.block_lt_of_cell? w1 _ hc
      rw [hq] at e2
      cases e2
      simp at this e
      omega
  refine ⟨rows ++ [.slice fa c c], ?_, ownsRow_setCell_other hown (by simp [Value.ownBlock]; omega) _, fun i u hu => ?_⟩
  · rw [heap_setCell_same w2 g 5 (fsW v) _ _ k2]
    rfl
  · by_cases hi : i < n
    · rw [List.getElem?_append_left (by omega)] at hu
      obtain ⟨a, len, e, hr, hU⟩ := h3 i u hu
      exact ⟨a, len, e, fin i a len hr hU⟩
    · have hi2 : i < (rows ++ [Value.slice fa c c]).length := (List.getElem?_eq_some_iff.1 hu).1
      simp at hi2
      have hie : i = n := by omega
      subst hie
      rw [List.getElem?_append_right (by omega)] at hu
      have e1 : i - rows.length = 0 := by omega
      rw [e1] at hu
      simp at hu
      subst hu
      exact ⟨fa, c, rfl, fin i fa c hn hU⟩

theorem set3 (L R : List Value) (x0 x1 x2 a b c : Value) (k : Nat) (hk : L.length = k) : (((L ++ x0 :: x1 :: x2 :: R).set k a).set (k + 1) b).set (k + 2) c = L ++ a :: b :: c :: R := by
  subst hk
  simp
theorem drop3 (l : List Value) (k : Nat) (h : k + 3 ≤ l.length) : ∃ x0 x1 x2, l.drop k = x0 :: x1 :: x2 :: l.drop (k + 3) := by
  refine ⟨l[k]'(by omega), l[k + 1]'(by omega), l[k + 2]'(by omega), ?_⟩
  rw [List.drop_eq_getElem_cons (by omega), List.drop_eq_getElem_cons (i := k + 1) (by omega), List.drop_eq_getElem_cons (i := k + 1 + 1) (by omega)]

set_option maxHeartbeats 4000000 in
set_option maxRecDepth 100000 in
theorem frames_any (g : Nat) (v : Value) (w0 w : World) (n : Nat) (a : Option Addr) (len cap : Nat) (xs : List Value) (hI : FsV g v w0 n) (hb : Below w0.heap.size w0 w) (ho : w.ownsRow w0.heap.size 107 3 (.slice a len cap) len xs) (hn : n ≤ 4398046511104) :
    Calls Tryz.prog 48 #[.pointer (some ⟨g, 0, none⟩), .slice a len cap] w fun e w' => e = .returned (.tuple #[]) ∧ (∃ v', FsV g v' w' (n + 1) ∧ ∀ k, v'.ownBlock = some k → v.ownBlock = some k ∨ w.heap.size ≤ k) ∧
      w.heap.size ≤ w'.heap.size ∧ Keeps (fun b => b ≠ g ∧ v.ownBlock ≠ some b ∧ ∀ q, a = some q → b ≠ q.block) w w' ∧ w'.os = w.os ∧ w'.tape = w.tape ∧ w'.output = w.output := by
  obtain ⟨rows, h1, h2, h3⟩ := hI
  have hg := (Array.getElem?_eq_some_iff.1 h1).1
  have k1 := (hb.block g hg).trans h1
  obtain ⟨va, vcap, rfl, hvc, hvm, hva⟩ := ownsRow_form h2
  unfold maxLen at hvm
  obtain ⟨c5, -, -, -, -, -⟩ := fsCell k1
  have hsz := hb.size
  rcases ho.2 with ⟨e1, e2⟩ | ⟨gl, cap', cur, e1, hgl, hcur, hlc, hcm, hcs, hct⟩
  · simp at e1
    obtain ⟨rfl, rfl, rfl⟩ := e1
    obtain ⟨w1, hw1⟩ : ∃ w1, w1 = w := ⟨_, rfl⟩
    rw [← hw1] at k1 hb c5 hsz
    have HK1 := hid k1
    have hrl : rows.length = n := by have := h2.1; omega
    have HRL := hid hrl
    have HLS := hid (fun (i : Nat) (u : Value) (hu : rows[i]? = some u) => (by
      obtain ⟨a, len, e, hr, hU⟩ := h3 i u hu
      exact ⟨a, len, e, hr.below hb (fun _ _ h => h), hU⟩ : ∃ a len, u = .slice a len len ∧ RdL 3 RdFrame w1 a len len (List.replicate len (markD i)) ∧ InU (fun b => b ≠ g ∧ (Value.slice va n vcap).ownBlock ≠ some b) a len))
    have HNW : Hid (RdL 3 RdFrame w1 none 0 0 (List.replicate 0 (markD n))) := by
      exact ⟨rfl, Nat.le_refl _, by unfold maxLen; omega, fun i x hx => by simp at hx⟩
    have HNU : Hid (InU (fun b => b ≠ g ∧ (Value.slice va n vcap).ownBlock ≠ some b) none 0) := fun h => by omega
    have HKP : Hid (Keeps (fun b => b ≠ g ∧ (Value.slice va n vcap).ownBlock ≠ some b ∧ ∀ q, (none : Option Addr) = some q → b ≠ q.block) w w1) := fun _ _ _ => by rw [hw1]
    have HSZ : Hid (w.heap.size = w1.heap.size) := by rw [hw1]; rfl
    have HEQ : Hid (w1.os = w.os ∧ w1.tape = w.tape ∧ w1.output = w.output) := by rw [hw1]; exact ⟨rfl, rfl, rfl⟩
    have HOW := hid (ownsRow_below h2 hb)
    clear hva h1 h2 h3 k1 hrl ho
    go_enter Tryz.func48, Tryz.ntmps48
    go_wp2
    refine wp_loop_rounds 1 ?_
    rw [rounds_succ]
    rw [← hw1]
    have hg1 : g < w1.heap.size := by omega
    clear hw1
    obtain ⟨i0, hi, hz0, hz1, hz2⟩ := info_parts Tryz.infoFrames
    go_wp2_with (at_builtin; refine wpList_append_lies _ rfl (.tmp 29) (.tmp 31) 29 rfl (g + 1) 38 i0 (.slice none 0 0) 1 24 Tryz.underlying29 hi hz0 hz1 hz2 rfl (by decide) _ _ _ rfl (HOW.out.alloc _) ⟨w1.heap.size, 0, none⟩ 1 1 [.slice none 0 0] rfl rfl (cell_one_new _ _ _) (fun u hu => by rw [List.mem_singleton.1 hu]; rfl) (by decide) (by unfold maxLen; omega) (by omega) (by simp; omega) _ rfl ?_)
    intro g' cap' w2 hown2 hgrow2 hat2 hlt2
    have k2 : w2.heap[g]? = some (.cells (fsW (.slice va n vcap)) 34 (0, 0)) := (hgrow2.block g (by simp; omega) (fun e => by have := (HOW.out.lt g e.symm).1; omega)).trans ((heap_alloc_old _ _ (by omega)).trans HK1.out)
    have z5 : w2.cell? ⟨g, 5, none⟩ = some (.slice va n vcap) := (fsCell k2).1
    have f5 : w2.frozen? ⟨g, 5, none⟩ = false := by simp [World.frozen?, k2]
    have hat3 : (Value.slice va n vcap).ownBlock = some g' ∨ w1.heap.size ≤ g' := by
      rcases hat2 with h | h
      · exact .inl h
      · exact .inr (by have : g' = w1.heap.size + 1 := by simpa using h
                       omega)
    have HFS := hid (fs_append HK1.out (fun e => by have := (HOW.out.lt g e).1; omega) HRL.out HLS.out HNW.out HNU.out hown2 hgrow2 hat3)
    have HKW : Hid (Keeps (fun b => b ≠ g ∧ (Value.slice va n vcap).ownBlock ≠ some b ∧ ∀ q, (none : Option Addr) = some q → b ≠ q.block) w (w2.setCell ⟨g, 5, none⟩ (.slice (some ⟨g', 0, none⟩) (n + 1) cap'))) := fun b hb hlt => by
      rw [Below.heap_setCell _ _ _ _ hb.1]
      exact (hgrow2.block b (by simp; have := HSZ.out; omega) (fun e => hb.2.1 e.symm)).trans ((heap_alloc_old _ _ (by have := HSZ.out; omega)).trans (HKP.out b hb hlt))
    have HO1 : Hid (w2.os = w.os ∧ w2.tape = w.tape ∧ w2.output = w.output ∧ w.heap.size ≤ w2.heap.size) := ⟨hgrow2.os.trans HEQ.out.1, hgrow2.tape.trans HEQ.out.2.1, hgrow2.output.trans HEQ.out.2.2, by have h1 := hgrow2.size; have h2 := HSZ.out; simp at h1; omega⟩
    clear k2 hown2 hgrow2 hat2
    go_wp2
    go_end0
    refine ⟨rfl, ⟨_, HFS.out, fun k hk => ?_⟩, ?_, HKW.out, HO1.out.1, HO1.out.2.1, HO1.out.2.2.1⟩
    · simp [Value.ownBlock] at hk
      subst hk
      rcases hat3 with h | h
      · exact .inl h
      · exact .inr (by have := HSZ.out; omega)
    · have h1 := HO1.out.2.2.2
      have h2 : (w2.setCell ⟨g, 5, none⟩ (.slice (some ⟨g', 0, none⟩) (n + 1) cap')).heap.size = w2.heap.size := by simp [World.setCell]
      omega
  · simp at e1
    obtain ⟨rfl, rfl⟩ := e1
    have hf : w.ownsRow w0.heap.size 107 3 (.slice (some ⟨gl, 0, none⟩) cap cap) cap cur.toList := ⟨by simp [hcs], .inr ⟨gl, cap, cur, rfl, hgl, hcur, Nat.le_refl _, hcm, hcs, by rw [List.take_of_length_le (by simp [hcs])]⟩⟩
    unfold maxLen at hcm
    have hrl : rows.length = n := by have := h2.1; omega
    have HRL := hid hrl
    have H2 := hid h2
    have H3 := hid h3
    have HB := hid hb
    have hgw : g < w.heap.size := by omega
    have K1 := hid k1
    have hlenC : cur.toList.length = cap * 3 := by simp [hcs]
    have HLC := hid hlenC
    clear h1 h2 h3 k1 hb hrl hva ho hcur hcs hct hlenC
    go_enter Tryz.func48, Tryz.ntmps48
    go_wp2
    go_loopw [5] (fun i wr => ∃ j : Nat, i = .int .i64 j ∧ j ≤ cap ∧ wr.ownsRow w0.heap.size 107 3 (.slice (some ⟨gl, 0, none⟩) cap cap) cap ((List.replicate j (frCells (markD n))).flatten ++ cur.toList.drop (j * 3)) ∧ wr.heap.size = w.heap.size ∧ (∀ b, b ≠ gl → wr.heap[b]? = w.heap[b]?) ∧ wr.os = w.os ∧ wr.tape = w.tape ∧ wr.output = w.output) (fun i _ => cap - (intOf i).toNat)
    case atStart => exact ⟨0, rfl, by omega, by simpa using hf, rfl, fun _ _ => rfl, rfl, rfl, rfl⟩
    case round =>
      clear hf
      obtain ⟨j, rfl, hj, hown, hsw, hbl, ho1, ho2, ho3⟩ := hrel
      have kg := (hbl g (by omega)).trans K1.out
      have d5 : wr.cell? ⟨g, 5, none⟩ = some (.slice va n vcap) := (fsCell kg).1
      by_cases hjc : j < cap
      · obtain ⟨x0, x1, x2, hd⟩ := drop3 cur.toList (j * 3) (by rw [HLC.out]; omega)
        have hfl : ((List.replicate j (frCells (markD n))).flatten).length = j * 3 := by simp [frCells]
        rw [hd] at hown
        have a0 := hown.cellAt (j * 3) (by omega)
        have a1 := hown.cellAt (j * 3 + 1) (by omega)
        have a2 := hown.cellAt (j * 3 + 2) (by omega)
        rw [List.getElem?_append_right (by omega), hfl] at a0 a1 a2
        simp at a0
        have b0 := hown.frozenAt (j * 3)
        have b1 := hown.frozenAt (j * 3 + 1)
        have b2 := hown.frozenAt (j * 3 + 2)
        have hs := ((hown.stored (j * 3) (.string mkB)).1.stored (j * 3 + 1) (.string mkB)).1.stored (j * 3 + 2) (.int .i64 n)
        rw [set3 _ _ x0 x1 x2 _ _ _ _ hfl] at hs
        have a1' : wr.cell? ⟨gl, j * 3 + 1, none⟩ = some x1 := by rw [a1, Nat.add_sub_cancel_left]; rfl
        have a2' : wr.cell? ⟨gl, j * 3 + 2, none⟩ = some x2 := by rw [a2, Nat.add_sub_cancel_left]; rfl
        have hfl2 : (List.replicate j (frCells (markD n))).flatten ++ Value.string mkB :: .string mkB :: .int .i64 n :: cur.toList.drop (j * 3 + 3) = (List.replicate (j + 1) (frCells (markD n))).flatten ++ cur.toList.drop ((j + 1) * 3) := by
          rw [List.replicate_succ', List.flatten_append, List.append_assoc, show (j + 1) * 3 = j * 3 + 3 by omega]
          simp [frCells, markD]
        rw [hfl2] at hs
        have HS := hid hs.1
        have hjc' : (j : Int) < (cap : Int) := by omega
        unfold mkB at HS
        clear hs hfl2 hfl a1 a2 hown hd
        go_wp2
        go_roundw
        case rel =>
          refine ⟨j + 1, by go_num, by omega, HS.out, by simp [World.setCell, hsw], fun b hb => ?_, ho1, ho2, ho3⟩
          rw [Below.heap_setCell _ _ _ _ hb, Below.heap_setCell _ _ _ _ hb, Below.heap_setCell _ _ _ _ hb]
          exact hbl b hb
        case measure => simp [intOf]; omega
      · have hjc' : decide ((j : Int) < (cap : Int)) = false := by simp; omega
        have hje : j = cap := by omega
        subst hje
        obtain ⟨w1, hw1⟩ : ∃ w1, w1 = wr := ⟨_, rfl⟩
        rw [← hw1] at hown hsw hbl ho1 ho2 ho3 kg d5 ⊢
        clear hw1
        rw [List.drop_of_length_le (by rw [HLC.out]; omega), List.append_nil] at hown
        obtain ⟨fa, fc, he, hrd⟩ := RdL_of_owns (R := RdFrame) (ls := List.replicate j (markD n)) hown (fun c hc => by rw [(List.mem_replicate.1 hc).2]; rfl) (by simp) (by simp) (fun i x cs hx hcs => by
          rw [List.getElem?_replicate] at hx hcs
          split at hx
          · next h => rw [if_pos h] at hcs; cases hx; cases hcs; rfl
          · cases hx)
        simp at he
        obtain ⟨rfl, rfl⟩ := he
        have hkp : Keeps (fun b => b ≠ gl) w w1 := fun b hb _ => hbl b hb
        have hvlt : ∀ k, (Value.slice va n vcap).ownBlock = some k → k < w0.heap.size := fun k hk => (H2.out.lt k hk).2
        have HK1 := hid kg
        have HLS := hid (fun (i : Nat) (u : Value) (hu : rows[i]? = some u) => (by
          obtain ⟨a, len, e, hr, hU⟩ := H3.out i u hu
          refine ⟨a, len, e, (hr.below HB.out (R := RdFrame) (fun _ _ h => h)).keeps (U := fun b => b ≠ gl) (fun h0 q hq => ?_) hkp (fun _ _ h => h), hU⟩
          obtain ⟨b, off, e2, hc, _⟩ := hr.frameAt 0 (markD i) (by rw [List.getElem?_replicate, if_pos h0])
          have := World.block_lt_of_cell? w0 _ hc
          rw [hq] at e2
          cases e2
          simp at this ⊢
          omega : ∃ a len, u = .slice a len len ∧ RdL 3 RdFrame w1 a len len (List.replicate len (markD i)) ∧ InU (fun b => b ≠ g ∧ (Value.slice va n vcap).ownBlock ≠ some b) a len))
        have HNW := hid hrd
        have HNU : Hid (InU (fun b => b ≠ g ∧ (Value.slice va n vcap).ownBlock ≠ some b) (some ⟨gl, 0, none⟩) j) := fun _ q hq => by
          cases hq
          exact ⟨by show gl ≠ g; omega, fun e => by have := hvlt gl e; omega⟩
        have HKP : Hid (Keeps (fun b => b ≠ g ∧ (Value.slice va n vcap).ownBlock ≠ some b ∧ ∀ q, some (⟨gl, 0, none⟩ : Addr) = some q → b ≠ q.block) w w1) := fun b hb _ => hbl b (hb.2.2 _ rfl)
        have HSZ : Hid (w.heap.size = w1.heap.size) := hsw.symm
        have HEQ : Hid (w1.os = w.os ∧ w1.tape = w.tape ∧ w1.output = w.output) := ⟨ho1, ho2, ho3⟩
        have HOW : Hid (w1.ownsRow (g + 1) 38 1 (.slice va n vcap) n rows) := by
          have h := ownsRow_below H2.out HB.out
          refine ⟨h.1, ?_⟩
          rcases h.2 with h2 | ⟨k, c, cr, h5, h6, h7, h8⟩
          · exact .inl h2
          · exact .inr ⟨k, c, cr, h5, h6, (hbl k (by have := hvlt k (by rw [h5]; rfl); omega)).trans h7, h8⟩
        have hg1 : g < w1.heap.size := by omega
        clear hown hbl hrd hkp hvlt kg ho1 ho2 ho3 c5 hsw
        obtain ⟨i0, hi, hz0, hz1, hz2⟩ := info_parts Tryz.infoFrames
        go_wp2_with (at_builtin; refine wpList_append_lies _ rfl (.tmp 29) (.tmp 31) 29 rfl (g + 1) 38 i0 (.slice none 0 0) 1 24 Tryz.underlying29 hi hz0 hz1 hz2 rfl (by decide) _ _ _ rfl (HOW.out.alloc _) ⟨w1.heap.size, 0, none⟩ 1 1 [.slice (some ⟨gl, 0, none⟩) j j] rfl rfl (cell_one_new _ _ _) (fun u hu => by rw [List.mem_singleton.1 hu]; rfl) (by decide) (by unfold maxLen; omega) (by omega) (by simp; omega) _ rfl ?_)
        intro g' cap' w2 hown2 hgrow2 hat2 hlt2
        have k2 : w2.heap[g]? = some (.cells (fsW (.slice va n vcap)) 34 (0, 0)) := (hgrow2.block g (by simp; omega) (fun e => by have := (HOW.out.lt g e.symm).1; omega)).trans ((heap_alloc_old _ _ (by omega)).trans HK1.out)
        have z5 : w2.cell? ⟨g, 5, none⟩ = some (.slice va n vcap) := (fsCell k2).1
        have f5 : w2.frozen? ⟨g, 5, none⟩ = false := by simp [World.frozen?, k2]
        have hat3 : (Value.slice va n vcap).ownBlock = some g' ∨ w1.heap.size ≤ g' := by
          rcases hat2 with h | h
          · exact .inl h
          · exact .inr (by have : g' = w1.heap.size + 1 := by simpa using h
                           omega)
        have HFS := hid (fs_append HK1.out (fun e => by have := (HOW.out.lt g e).1; omega) HRL.out HLS.out HNW.out HNU.out hown2 hgrow2 hat3)
        have HKW : Hid (Keeps (fun b => b ≠ g ∧ (Value.slice va n vcap).ownBlock ≠ some b ∧ ∀ q, some (⟨gl, 0, none⟩ : Addr) = some q → b ≠ q.block) w (w2.setCell ⟨g, 5, none⟩ (.slice (some ⟨g', 0, none⟩) (n + 1) cap'))) := fun b hb hlt => by
          rw [Below.heap_setCell _ _ _ _ hb.1]
          exact (hgrow2.block b (by simp; have := HSZ.out; omega) (fun e => hb.2.1 e.symm)).trans ((heap_alloc_old _ _ (by have := HSZ.out; omega)).trans (HKP.out b hb hlt))
        have HO1 : Hid (w2.os = w.os ∧ w2.tape = w.tape ∧ w2.output = w.output ∧ w.heap.size ≤ w2.heap.size) := ⟨hgrow2.os.trans HEQ.out.1, hgrow2.tape.trans HEQ.out.2.1, hgrow2.output.trans HEQ.out.2.2, by have h1 := hgrow2.size; have h2 := HSZ.out; simp at h1; omega⟩
        clear k2 hown2 hgrow2 hat2
        go_wp2
        go_end0
        refine ⟨rfl, ⟨_, HFS.out, fun k hk => ?_⟩, ?_, HKW.out, HO1.out.1, HO1.out.2.1, HO1.out.2.2.1⟩
        · simp [Value.ownBlock] at hk
          subst hk
          rcases hat3 with h | h
          · exact .inl h
          · exact .inr (by have := HSZ.out; omega)
        · have h1 := HO1.out.2.2.2
          have h2 : (w2.setCell ⟨g, 5, none⟩ (.slice (some ⟨g', 0, none⟩) (n + 1) cap')).heap.size = w2.heap.size := by simp [World.setCell]
          omega
end Go.Proofs.YtffnfjkjlmlonaaGreatDoor
namespace Go.Proofs.YtffnfjkjlmlonaaGreatDoor
open Go.RowKit

/-- What is asked of unfold.Run: the plain answer, its frames in a list of their own; nothing that was there is written. -/
def RunGives : Prop := ∀ (pa : Option Addr) (pcap : Nat) (p : List FnD) (aa : Option Addr) (acap : Nat) (args : List Int) (n : Int) (w : World), RdP w pa p.length pcap p → Rd .i64 w aa args.length acap args → R64 n →
  Calls Tryz.prog 45 #[.agg #[.slice pa p.length pcap], .slice aa args.length acap, .int .i64 n] w fun e w' =>
    ∃ a cap, e = .returned (.tuple #[.agg #[.int .i64 (runS p args n).status, .int .i64 (runS p args n).value, .slice a (toldD p (runS p args n)).length cap], .int .i64 (runE p args n)]) ∧
      w'.ownsRow w.heap.size 107 3 (.slice a (toldD p (runS p args n)).length cap) (toldD p (runS p args n)).length ((toldD p (runS p args n)).map frCells).flatten ∧ Below w.heap.size w w'

set_option maxHeartbeats 1000000 in
set_option maxRecDepth 100000 in
theorem write_fs (g : Nat) (k n m : Int) (v3 v4 v5 v6 v7 v8 : Value) (w : World) (N : Nat) (h : FsInv g w N) (hm : R64 m) :
    Calls Tryz.prog 18 #[.pointer (some ⟨g, 0, none⟩), .agg #[.int .i64 k, .int .i64 n, .int .i64 m, v3, v4, v5, v6, v7, v8]] w fun e w' => e = .returned (.tuple #[]) ∧ Below w.heap.size w w' := by
  have hg := h.lt
  obtain ⟨v, rows, h1, -, -⟩ := h
  obtain ⟨-, c1, c3, -, -, -⟩ := fsCell h1
  obtain ⟨hm1, hm2⟩ := hm
  clear h1
  obtain ⟨t, ht⟩ : ∃ t, t = (m.tmod 2 == 0) := ⟨_, rfl⟩
  have ht' : (m.tmod 2 == 0) = t := ht.symm
  have ht2 : (m.tmod 2 != 0) = !t := by rw [ht]; rfl
  clear ht
  cases t with
  | true =>
    go_enter Tryz.func18, Tryz.ntmps18
    go_wp2
    go_end0
    exact ⟨rfl, (Below.refl _ _).alloc (Nat.le_refl _) _⟩
  | false =>
    go_enter Tryz.func18, Tryz.ntmps18
    go_wp2
    go_end0
    exact ⟨rfl, (Below.refl _ _).alloc (Nat.le_refl _) _⟩

set_option maxHeartbeats 1000000 in
set_option maxRecDepth 100000 in
theorem step_write_fs (g : Nat) (n m : Int) (v3 v4 v5 v6 v7 v8 : Value) (w : World) (N : Nat) (h : FsInv g w N) (hm : R64 m) :
    Calls Tryz.prog 9 #[.pointer (some ⟨g, 0, none⟩), .agg #[.int .i64 18, .int .i64 n, .int .i64 m, v3, v4, v5, v6, v7, v8]] w fun e w' => e = .returned (.bool true) ∧ Below w.heap.size w w' := by
  have HS := hid (fun (W : World) (hW : Below w.heap.size w W) => write_fs g 18 n m v3 v4 v5 v6 v7 v8 W N (h.below hW) hm)
  clear h hm
  go_enter Tryz.func9, Tryz.ntmps9
  go_wp2_with fail
  refine (HS.out _ ((Below.refl _ _).alloc (Nat.le_refl _) _)).mono ?_
  rintro e w1 ⟨rfl, hb⟩
  go_wp2
  go_ret
  exact ⟨rfl, ((Below.refl _ _).alloc (Nat.le_refl _) _).trans (hb.mono (by simp))⟩

set_option maxHeartbeats 4000000 in
set_option maxRecDepth 100000 in
theorem source_run (hR : RunGives) (g N : Nat) (n m : Int) (la : Option Addr) (lcap : Nat) (l : List Int) (v4 v5 v6 v7 : Value) (a : Option Addr) (cap : Nat) (p : List FnD) (ws w : World) (hws : ws.heap.size ≤ g) (hbs : Below ws.heap.size ws w) (hr : RdP ws a p.length cap p) (hl : Rd .i64 ws la l.length lcap l) (hn : R64 n)
    (hlen : p.length ≤ 2199023255552) (hll : l.length ≤ 17592186044416) (hbody : ∀ x ∈ p, x.body.length ≤ 2199023255552 ∧ ∀ o ∈ x.body, o.args.length ≤ 17592186044416) (hI : FsInv g w N) (hN : N + 2 ≤ 4398046511104) :
    Calls Tryz.prog 13 #[.pointer (some ⟨g, 0, none⟩), .agg #[.int .i64 7, .int .i64 n, .int .i64 m, .slice la l.length lcap, v4, v5, v6, v7, .slice a p.length cap]] w fun e w' => e = .returned (.bool true) ∧ FsInv g w' (N + 2) ∧ Below g w w' := by
  have hgw := hI.lt
  obtain ⟨v, hV⟩ := hI
  have hvlt : ∀ k, v.ownBlock = some k → k < w.heap.size := fun k hk => by
    obtain ⟨rows, _, h2, _⟩ := hV
    exact (h2.lt k hk).2
  have HR := hid hr
  have HL := hid hl
  have HV := hid hV
  have HRG := hid hR
  have HBD := hid hbody
  have HNN := hid hn
  have hnames : ∀ x ∈ p, x.name.size ≤ maxLen ∧ x.file.size ≤ maxLen := by
    intro x hx
    obtain ⟨i, hi⟩ := List.mem_iff_getElem?.1 hx
    obtain ⟨_, _, _, _, _, _, _, _, _, _, _, _, h1, h2⟩ := hr.at i x hi
    exact ⟨h1, h2⟩
  have HNM := hid hnames
  obtain ⟨w1, hw1⟩ : ∃ w1, w1 = w.alloc (Obj.cells #[.int .i64 7, .int .i64 n, .int .i64 m, .slice la l.length lcap, v4, v5, v6, v7, .slice a p.length cap] 46) := ⟨_, rfl⟩
  have hb1 : Below w.heap.size w w1 := by rw [hw1]; exact (Below.refl _ _).alloc (Nat.le_refl _) _
  have hs1 : w1.heap.size = w.heap.size + 1 := by rw [hw1]; simp
  have k1 : w1.heap[w.heap.size]? = some (.cells #[.int .i64 7, .int .i64 n, .int .i64 m, .slice la l.length lcap, v4, v5, v6, v7, .slice a p.length cap] 46 (0, 0)) := by rw [hw1]; exact heap_alloc_new _ _
  have HK1 := hid k1
  have hbs1 := hbs.trans (hb1.mono hbs.size)
  have HREF := hid (refRun_any a cap p la lcap l n w1 (hr.below hbs1) (hl.below hbs1 (Nat.le_refl _)) hn)
  have hnone : toldD p (runS p l n) = toldD p (runS p l n) := rfl
  obtain ⟨fr, hfr⟩ : ∃ fr, fr = toldD p (runS p l n) := ⟨_, rfl⟩
  obtain ⟨st, hst⟩ : ∃ v, v = (runS p l n).status := ⟨_, rfl⟩
  obtain ⟨sv, hsv⟩ : ∃ v, v = (runS p l n).value := ⟨_, rfl⟩
  obtain ⟨er, her⟩ : ∃ v, v = runE p l n := ⟨_, rfl⟩
  rw [← hfr, ← hst, ← hsv, ← her] at HREF
  have HFE := hid hfr
  have HSE := hid hst
  have HVE := hid hsv
  have HEE := hid her
  clear hr hl hn hV hR hbody hnames k1 hnone hfr hst hsv her
  obtain ⟨pl, hpl⟩ : ∃ v, v = p.length := ⟨_, rfl⟩
  obtain ⟨ll, hlln⟩ : ∃ v, v = l.length := ⟨_, rfl⟩
  rw [← hpl, ← hlln] at HREF HK1 hw1 ⊢
  have HPL := hid hpl
  have HLN := hid hlln
  clear hpl hlln
  go_enter Tryz.func13, Tryz.ntmps13
  go_wp2_with fail
  rw [← hw1]
  refine HREF.out.mono ?_
  rintro e w2 ⟨fa, fcap, rfl, hfrd, hfU, hb2⟩
  have hsz2 := hb2.size
  obtain ⟨w3, hw3⟩ : ∃ w3, w3 = w2.alloc (Obj.cells #[.int .i64 st, .int .i64 sv, .slice fa fr.length fcap] 72) := ⟨_, rfl⟩
  have hb3 : Below w2.heap.size w2 w3 := by rw [hw3]; exact (Below.refl _ _).alloc (Nat.le_refl _) _
  have hs3 : w3.heap.size = w2.heap.size + 1 := by rw [hw3]; simp
  have k3 : w3.heap[w2.heap.size]? = some (.cells #[.int .i64 st, .int .i64 sv, .slice fa fr.length fcap] 72 (0, 0)) := by rw [hw3]; exact heap_alloc_new _ _
  have hbw3 : Below w.heap.size w w3 := hb1.trans ((hb2.mono (by omega)).trans (hb3.mono (by omega)))
  have ko : w3.heap[w.heap.size]? = _ := (hb3.block w.heap.size (by omega)).trans ((hb2.block w.heap.size (by omega)).trans HK1.out)
  have hfr3 := hfrd.below hb3 (R := RdFrame) (fun _ _ h => h)
  have hfU3 : InU (fun b => w.heap.size ≤ b ∧ b < w3.heap.size) fa fr.length := fun h0 q hq => by
    have h1 : w1.heap.size ≤ q.block := hfU h0 q hq
    obtain ⟨x, hx⟩ : ∃ x, fr[0]? = some x := ⟨_, List.getElem?_eq_getElem h0⟩
    obtain ⟨b, off, e2, hc, -, -⟩ := hfr3.frameAt 0 x hx
    have h2 := World.block_lt_of_cell? w3 _ hc
    rw [hq] at e2
    cases e2
    simp at h1 h2 ⊢
    omega
  obtain ⟨wx, hwx⟩ : ∃ v, v = w2.heap.size := ⟨_, rfl⟩
  obtain ⟨n1, hn1⟩ : ∃ v, v = w3.heap.size := ⟨_, rfl⟩
  have HK3 := hid k3
  have HKO := hid ko
  have HFR := hid hfr3
  have HFU := hid hfU3
  rw [← hwx] at HK3
  rw [← hn1] at HFU
  have hwx1 : w.heap.size ≤ wx := by omega
  have hwx2 : wx < n1 := by omega
  have hn1w : w.heap.size + 1 < n1 := by omega
  go_wp2
  rw [← hw3, ← hwx]
  have HBW3 := hid hbw3
  have HN1 := hid hn1
  clear hw1 hw3 k3 ko hfrd hfU hfr3 hfU3 hbw3 hwx hn1 hb3 hs3 hb2 hsz2 hs1 hb1 hbs1
  go_loopw [15] (fun i wr => ∃ (t : Nat) (v' : Value), i = .int .i64 t ∧ t ≤ 2 ∧ FsV g v' wr (N + t) ∧ (∀ k, v'.ownBlock = some k → k < w.heap.size ∨ n1 ≤ k) ∧ Below g w wr ∧ n1 ≤ wr.heap.size ∧ (∀ b, w.heap.size ≤ b → b < n1 → wr.heap[b]? = w3.heap[b]?)) (fun i _ => 2 - (intOf i).toNat)
  case atStart => exact ⟨0, v, rfl, by omega, HV.out.below HBW3.out, fun k hk => .inl (hvlt k hk), HBW3.out.mono (by omega), by rw [HN1.out]; exact Nat.le_refl _, fun _ _ _ => rfl⟩
  case round =>
    obtain ⟨t, v', rfl, ht, hV, hown, hbg, hnr, hmid⟩ := hrel
    have hko := (hmid w.heap.size (Nat.le_refl _) (by omega)).trans HKO.out
    have hkx := (hmid wx hwx1 hwx2).trans HK3.out
    by_cases ht2 : t < 2
    · have hbsr : Below ws.heap.size ws wr := hbs.trans (hbg.mono hws)
      have HRr := hid (HR.out.below hbsr)
      have HLr := hid (HL.out.below hbsr (Nat.le_refl _))
      have HFRr := hid (HFR.out.keeps HFU.out (w' := wr) (R' := RdFrame) (fun b hb _ => hmid b hb.1 hb.2) (fun _ _ h => h))
      have HPO := hid (programOf_any a cap p wr HRr.out hlen HBD.out)
      have r8 : wr.cell? ⟨w.heap.size, 8, none⟩ = some (.slice a pl cap) := by simp [World.cell?, hko]
      have ht' : (t : Int) < 2 := by omega
      have HKOr := hid hko
      have HKXr := hid hkx
      have hszr := hbg.size
      clear hko hkx
      rw [← HPL.out] at HPO HRr
      rw [← HLN.out] at HLr
      go_wp2_with fail
      refine HPO.out.mono ?_
      rintro e w4 ⟨gp, rfl, hh4, hb4⟩
      have hs4 := hb4.size
      have q3 : w4.cell? ⟨w.heap.size, 3, none⟩ = some (.slice la ll lcap) := by
        have := (hb4.block w.heap.size (by omega)).trans HKOr.out
        simp [World.cell?, this]
      have lt4 : w.heap.size < w4.heap.size := by omega
      obtain ⟨w5, hw5⟩ : ∃ w5, w5 = w4.alloc (Obj.cells #[.slice (some ⟨gp, 0, none⟩) pl (pl + 8)] 44) := ⟨_, rfl⟩
      have hb5 : Below w4.heap.size w4 w5 := by rw [hw5]; exact (Below.refl _ _).alloc (Nat.le_refl _) _
      have hs5 : w5.heap.size = w4.heap.size + 1 := by rw [hw5]; simp
      have k5 : w5.heap[w4.heap.size]? = some (.cells #[.slice (some ⟨gp, 0, none⟩) pl (pl + 8)] 44 (0, 0)) := by rw [hw5]; exact heap_alloc_new _ _
      have hbr5 : Below wr.heap.size wr w5 := hb4.trans (hb5.mono hs4)
      have HIO := hid (intsOf_any la ll lcap l w5 (HLr.out.below hbr5 (Nat.le_refl _)) (by rw [HLN.out]; exact hll))
      go_wp2_with fail
      rw [← hw5]
      clear hw5
      refine HIO.out.mono ?_
      rintro e w6 ⟨hv, rfl, hi6, hb6⟩
      have hs6 := hb6.size
      have hbr6 : Below wr.heap.size wr w6 := hbr5.trans (hb6.mono hbr5.size)
      have hh6 := (hh4.below hb5).below hb6
      obtain ⟨ha, hcap6, rfl, hrd6⟩ := hi6.read
      have HI6 := hid hi6
      have HRUN := hid (HRG.out (some ⟨gp, 0, none⟩) (pl + 8) p ha hcap6 l n w6 (by have h := hh6.read HNM.out; rw [← HPL.out] at h; rw [← HPL.out]; exact h) hrd6 HNN.out)
      rw [← HFE.out, ← HSE.out, ← HVE.out, ← HEE.out, ← HPL.out, ← HLN.out] at HRUN
      rw [← HLN.out] at HI6 ⊢
      have HH6 := hid hh6
      have k6 := (hb6.block w4.heap.size (by omega)).trans k5
      have q6 : w6.cell? ⟨w4.heap.size, 0, none⟩ = some (.slice (some ⟨gp, 0, none⟩) pl (pl + 8)) := by simp [World.cell?, k6]
      have o6 := (hbr6.block w.heap.size (by omega)).trans HKOr.out
      have q1 : w6.cell? ⟨w.heap.size, 1, none⟩ = some (.int .i64 n) := by simp [World.cell?, o6]
      clear hi6 hrd6 hh6 hh4 k5 r8 q3
      go_wp2_with fail
      refine HRUN.out.mono ?_
      rintro e w7 ⟨ra, rcap, rfl, hown7, hb7⟩
      have hs7 := hb7.size
      have k7 := (hb7.block w4.heap.size (by omega)).trans k6
      have o7 := (hb7.block w.heap.size (by omega)).trans o6
      have p0 : w7.cell? ⟨w4.heap.size, 0, none⟩ = some (.slice (some ⟨gp, 0, none⟩) pl (pl + 8)) := by simp [World.cell?, k7]
      have p8 : w7.cell? ⟨w.heap.size, 8, none⟩ = some (.slice a pl cap) := by simp [World.cell?, o7]
      have lt7 : w.heap.size < w7.heap.size := by omega
      have lt7b : w4.heap.size < w7.heap.size := by omega
      obtain ⟨w8, hw8⟩ : ∃ w8, w8 = w7.alloc (Obj.cells #[.int .i64 st, .int .i64 sv, .slice ra fr.length rcap] 72) := ⟨_, rfl⟩
      have hb8 : Below w7.heap.size w7 w8 := by rw [hw8]; exact (Below.refl _ _).alloc (Nat.le_refl _) _
      have hs8 : w8.heap.size = w7.heap.size + 1 := by rw [hw8]; simp
      have k8 : w8.heap[w7.heap.size]? = some (.cells #[.int .i64 st, .int .i64 sv, .slice ra fr.length rcap] 72 (0, 0)) := by rw [hw8]; exact heap_alloc_new _ _
      have hbr7 : Below wr.heap.size wr w7 := hbr6.trans (hb7.mono hbr6.size)
      have hbr8 : Below wr.heap.size wr w8 := hbr7.trans (hb8.mono hbr7.size)
      have HPS := hid (programStill_any wr.heap.size wr gp p a cap w8 ((HH6.out.below hb7).below hb8) (by have h := HRr.out.below hbr8; rw [HPL.out] at h; exact h) hbr8 hlen HBD.out)
      rw [← HPL.out] at HPS
      clear k6 o6 q6 q1
      go_wp2_with fail
      rw [← hw8]
      clear hw8
      refine HPS.out.mono ?_
      rintro e w9 ⟨rfl, hb9⟩
      have hs9 := hb9.size
      have hbr9 : Below wr.heap.size wr w9 := hbr8.trans (hb9.mono hbr8.size)
      have o9 := (hbr9.block w.heap.size (by omega)).trans HKOr.out
      have p3 : w9.cell? ⟨w.heap.size, 3, none⟩ = some (.slice la ll lcap) := by simp [World.cell?, o9]
      have hb69 : Below w6.heap.size w6 w9 := hb7.trans ((hb8.mono hb7.size).trans (hb9.mono (by omega)))
      have HIS := hid (intsStill_any w5.heap.size la ll lcap l (.slice ha ll hcap6) w9 (by rw [HLN.out] at HI6 ⊢; exact HI6.out.below hb69) (by rw [HLN.out] at HLr ⊢; exact HLr.out.below hbr9 (Nat.le_refl _)) (by rw [HLN.out]; exact hll))
      go_wp2_with fail
      refine HIS.out.mono ?_
      rintro e w10 ⟨rfl, hb10⟩
      have hs10 := hb10.size
      have hbr10 : Below wr.heap.size wr w10 := hbr9.trans (hb10.mono hbr9.size)
      have hb810 : Below w8.heap.size w8 w10 := hb9.trans (hb10.mono hb9.size)
      have k10 := (hb810.block w7.heap.size (by omega)).trans k8
      have x10 := (hbr10.block wx (by omega)).trans HKXr.out
      have m2 : w10.cell? ⟨w7.heap.size, 2, none⟩ = some (.slice ra fr.length rcap) := by simp [World.cell?, k10]
      have y2 : w10.cell? ⟨wx, 2, none⟩ = some (.slice fa fr.length fcap) := by simp [World.cell?, x10]
      have hb710 : Below w7.heap.size w7 w10 := hb8.trans (hb810.mono hb8.size)
      have hown10 := ownsRow_below hown7 hb710
      obtain ⟨ra', rc', he, hrd10⟩ := rdFrame_of_owns hown10 rfl
      simp at he
      obtain ⟨rfl, rfl⟩ := he
      have HSF := hid (sameFrames_any ra fr.length rcap fr fa fcap w10 hrd10 (HFRr.out.below hbr10 (fun _ _ h => h)))
      go_wp2_with fail
      refine HSF.out.mono ?_
      rintro e w11 ⟨rfl, hb11⟩
      have hs11 := hb11.size
      have hbr11 : Below wr.heap.size wr w11 := hbr10.trans (hb11.mono hbr10.size)
      have k11 := (hb11.block w7.heap.size (by omega)).trans k10
      have x11 := (hb11.block wx (by omega)).trans x10
      have a0 : w11.cell? ⟨w7.heap.size, 0, none⟩ = some (.int .i64 st) := by simp [World.cell?, k11]
      have a1 : w11.cell? ⟨w7.heap.size, 1, none⟩ = some (.int .i64 sv) := by simp [World.cell?, k11]
      have a2 : w11.cell? ⟨w7.heap.size, 2, none⟩ = some (.slice ra fr.length rcap) := by simp [World.cell?, k11]
      have b0 : w11.cell? ⟨wx, 0, none⟩ = some (.int .i64 st) := by simp [World.cell?, x11]
      have b1 : w11.cell? ⟨wx, 1, none⟩ = some (.int .i64 sv) := by simp [World.cell?, x11]
      have e1 : (st != st) = false := by simp
      have e2 : (sv != sv) = false := by simp
      have e3 : (er != er) = false := by simp
      have hown11 : w11.ownsRow wr.heap.size 107 3 (.slice ra fr.length rcap) fr.length (fr.map frCells).flatten := by
        have h := ownsRow_below hown10 hb11
        refine ⟨h.1, ?_⟩
        rcases h.2 with h2 | ⟨k, c, cr, h5, h6, h7⟩
        · exact .inl h2
        · exact .inr ⟨k, c, cr, h5, by omega, h7⟩
      have HFM := hid (frames_any g v' wr w11 (N + t) ra fr.length rcap _ hV hbr11 hown11 (by omega))
      have hral : ∀ q, ra = some q → w6.heap.size ≤ q.block := fun q hq => by
        subst hq
        exact (hown7.lt q.block rfl).1
      have hvg : ∀ k, v'.ownBlock = some k → g + 1 ≤ k := fun k hk => by
        obtain ⟨rows, _, h2, _⟩ := hV
        exact (h2.lt k hk).1
      clear hown7 hown10 hown11 hrd10 m2 y2 p0 p8 p3 k7 o7 k8 o9 k10 x10
      have HV' := hid hV
      have HRAL := hid hral
      have HVG := hid hvg
      have HOWN := hid hown
      have HMID := hid hmid
      clear hV hral hvg hown hmid
      go_wp2_with fail
      refine HFM.out.mono ?_
      rintro e w12 ⟨rfl, ⟨v'', hV12, hv12⟩, hs12, hk12, he1, he2, he3⟩
      have HR12 : Hid (∃ (t' : Nat) (v' : Value), Value.int .i64 ((t : Int) + 1) = .int .i64 t' ∧ t' ≤ 2 ∧ FsV g v' w12 (N + t') ∧ (∀ k, v'.ownBlock = some k → k < w.heap.size ∨ n1 ≤ k) ∧ Below g w w12 ∧ n1 ≤ w12.heap.size ∧ (∀ b, w.heap.size ≤ b → b < n1 → w12.heap[b]? = w3.heap[b]?)) := by
        refine ⟨t + 1, v'', by simp, by omega, hV12, fun k hk => ?_, ⟨he1.trans (hbr11.os.trans hbg.os), he2.trans (hbr11.tape.trans hbg.tape), he3.trans (hbr11.output.trans hbg.output), by omega, fun b hb => ?_⟩, by omega, fun b hb1 hb2 => ?_⟩
        · rcases hv12 k hk with h | h
          · exact HOWN.out k h
          · exact .inr (by omega)
        · refine (hk12 b ⟨by omega, fun e => by have := HVG.out b e; omega, fun q hq => by have := HRAL.out q hq; omega⟩ (by omega)).trans ((hbr11.block b (by omega)).trans (hbg.block b hb))
        · refine (hk12 b ⟨by omega, fun e => by rcases HOWN.out b e with h | h <;> omega, fun q hq => by have := HRAL.out q hq; omega⟩ (by omega)).trans ((hbr11.block b (by omega)).trans (HMID.out b hb1 hb2))
      clear hV12 hv12 hk12
      go_wp2
      go_roundw
      case rel => exact HR12.out
      case measure => simp [intOf]; omega
    · have hte : t = 2 := by omega
      subst hte
      have ht' : decide (((2 : Nat) : Int) < 2) = false := by decide
      go_wp2
      go_ret
      exact ⟨rfl, ⟨v', hV⟩, hbg⟩
end Go.Proofs.YtffnfjkjlmlonaaGreatDoor
