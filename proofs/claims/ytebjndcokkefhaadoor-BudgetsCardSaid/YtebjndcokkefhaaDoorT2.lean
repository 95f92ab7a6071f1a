/- Contract of the developers' code.entryOf: what the image tells of a function's code. -/
import Derived.Test.YtebjndcokkefhaaDoorZ37
import Derived.Test.YtebjndcokkefhaaDoorZ32
namespace Go.Proofs.YtebjndcokkefhaaDoor
open Go.RowKit

theorem owns_low9 {w : World} {base base' : Nat} {e : TypeId} {size : Nat} {v : Value} {n : Nat} {xs : List Value} (h : w.ownsRow base e size v n xs) (hb : base' ≤ base) : w.ownsRow base' e size v n xs :=
  ⟨h.1, h.2.imp id fun ⟨g, cap, cur, h1, h2, h3⟩ => ⟨g, cap, cur, h1, Nat.le_trans hb h2, h3⟩⟩

set_option maxHeartbeats 4000000 in
set_option maxRecDepth 100000 in
theorem entryOf_any (p : List FnD) (qa : Option Addr) (qcap : Nat) (f : FnD) (ba : Option Addr) (bcap : Nat) (c : CodeD) (pa : Option Addr) (pcap : Nat) (ta : Option Addr) (tcap : Nat) (w : World)
    (hp : RdP w qa p.length qcap p) (hpl : RdPl w pa c.places.length pcap c.places) (hok : ∀ a ∈ c.places, PlOk p a) (h1000 : c.places.length ≤ 1000) :
    Calls Tryd.prog 58 #[.agg #[.int .i64 c.first, .slice pa c.places.length pcap, .slice ta c.tree.length tcap], .agg #[.string f.name, .string f.file, .int .i64 f.params, .int .i64 f.locals, .slice ba f.body.length bcap], .slice qa p.length qcap] w fun e w' =>
      ∃ la lcap xa xcap, e = .returned (.agg #[.string f.name, .string f.file, .slice la (entOfD p f c).lines.length lcap, .slice xa (entOfD p f c).index.length xcap, .slice ta c.tree.length tcap]) ∧
        w'.ownsRow w.heap.size 90 2 (.slice la (entOfD p f c).lines.length lcap) (entOfD p f c).lines.length (flat (entOfD p f c).lines) ∧
        w'.ownsRow w.heap.size 90 2 (.slice xa (entOfD p f c).index.length xcap) (entOfD p f c).index.length (flat (entOfD p f c).index) ∧ Below w.heap.size w w' := by
  obtain ⟨first, places, tree⟩ := c
  obtain ⟨nm, fl, fp, fo, body⟩ := f
  dsimp only at hpl hok h1000 ⊢
  unfold entOfD
  dsimp only
  have HP := hid hp
  have HPL := hid hpl
  have HOK := hid hok
  have hq1 := hp.2.1
  have hq2 := hp.2.2.1
  have hp1 := hpl.2.1
  have hp2 := hpl.2.2.1
  unfold maxLen at hq2 hp2
  obtain ⟨n, hn⟩ : ∃ v, v = places.length := ⟨_, rfl⟩
  rw [← hn] at hp1 h1000 ⊢
  have HN := hid hn
  obtain ⟨pn, hpn⟩ : ∃ v, v = p.length := ⟨_, rfl⟩
  rw [← hpn] at hq1 ⊢
  have HPN := hid hpn
  generalize tree.length = tl at *
  generalize body.length = bl at *
  clear hp hpl hok hn hpn
  obtain ⟨LL, hLL⟩ : ∃ v, v = places.map fun a => (opAt p a).line := ⟨_, rfl⟩
  obtain ⟨IL, hIL⟩ : ∃ v, v = places.map fun a => a.inst := ⟨_, rfl⟩
  rw [← hLL, ← hIL]
  have hLl : LL.length = n := by rw [hLL, HN.out]; simp
  have hIl : IL.length = n := by rw [hIL, HN.out]; simp
  have HLG : Hid (∀ k x, places[k]? = some x → LL.getD k 0 = (opAt p x).line ∧ IL.getD k 0 = x.inst) := fun k x hx => by
    rw [hLL, hIL]
    simp [List.getD, hx]
  have HLl := hid hLl
  have HIl := hid hIl
  clear hLL hIL hLl hIl
  obtain ⟨wb, hwb⟩ : ∃ v, v = ((w.alloc (Obj.cells #[.int .i64 first, .slice pa n pcap, .slice ta tl tcap] 116)).alloc (Obj.cells #[.string nm, .string fl, .int .i64 fp, .int .i64 fo, .slice ba bl bcap] 74)).alloc (Obj.cells #[.string ⟨#[]⟩, .string ⟨#[]⟩, .slice none 0 0, .slice none 0 0, .slice none 0 0] 64) := ⟨_, rfl⟩
  have hbb : Below w.heap.size w wb := by rw [hwb]; exact (((Below.refl _ _).alloc (Nat.le_refl _) _).alloc (by simp) _).alloc (by simp; omega) _
  have hbs : wb.heap.size = w.heap.size + 3 := by rw [hwb]; simp
  have k0 : wb.heap[w.heap.size]? = some (.cells #[.int .i64 first, .slice pa n pcap, .slice ta tl tcap] 116 (0, 0)) := by rw [hwb]; exact heap_at1 (by simp <;> omega) (heap_at1 (by simp <;> omega) (heap_new_at (by simp)))
  have k1 : wb.heap[w.heap.size + 1]? = some (.cells #[.string nm, .string fl, .int .i64 fp, .int .i64 fo, .slice ba bl bcap] 74 (0, 0)) := by rw [hwb]; exact heap_at1 (by simp <;> omega) (heap_new_at (by simp))
  have k2 : wb.heap[w.heap.size + 2]? = some (.cells #[.string ⟨#[]⟩, .string ⟨#[]⟩, .slice none 0 0, .slice none 0 0, .slice none 0 0] 64 (0, 0)) := by rw [hwb]; exact heap_new_at (by simp)
  have HK0 := hid k0
  have HK1 := hid k1
  have HK2 := hid k2
  have HBS := hid hbs
  clear k0 k1 k2 hbs
  obtain ⟨i0, hi, hz0, hz1, hz2⟩ := info_parts Tryd.infoInt
  go_enter Tryd.func58, Tryd.ntmps58
  go_wp2
  rw [← hwb]
  clear hwb
  go_loopw [7, 8, 14] (fun l1 l2 i wr => ∃ k : Nat, i = .int .i64 k ∧ k ≤ n ∧ wr.ownsRow wb.heap.size 3 1 l1 k (ints (LL.take k)) ∧ wr.ownsRow wb.heap.size 3 1 l2 k (ints (IL.take k)) ∧ (∀ b, l1.ownBlock = some b → l2.ownBlock ≠ some b) ∧ Below wb.heap.size wb wr) (fun _ _ i _ => n - (intOf i).toNat)
  case atStart => exact ⟨0, rfl, by omega, World.ownsRow_nil _ _ _ _, World.ownsRow_nil _ _ _ _, (fun b h => by cases h), Below.refl _ _⟩
  case round =>
    obtain ⟨k, rfl, hk, ho1, ho2, hdis, hbel⟩ := hrel
    have hbw := hbb.trans (hbel.mono hbb.size)
    have hsw := hbel.size
    by_cases hkn : k < n
    · have hkn' : (k : Int) < (n : Int) := by omega
      obtain ⟨x, hx⟩ : ∃ x, places[k]? = some x := ⟨_, List.getElem?_eq_getElem (by rw [← HN.out]; exact hkn)⟩
      obtain ⟨sb, soff, scs, rfl, -, hcell, rfl⟩ := HPL.out.2.2.2 k x hx
      obtain ⟨hl1, hl2⟩ := HLG.out k x hx
      obtain ⟨⟨hf0, hf1⟩, hoo, hob⟩ := HOK.out x (List.mem_of_getElem? hx)
      have hfs := fnAt_nat (p := p) hf0 hf1
      have hos : (fnAt p x.fn).body[x.op.toNat]? = some (opAt p x) := by
        unfold opAt
        rw [List.getElem?_eq_getElem (by omega)]; rfl
      obtain ⟨pb, poff, ya, ycap, rfl, -, -, -, -, -, c4, hrb, -, -⟩ := HP.out.at x.fn.toNat _ hfs
      obtain ⟨qb, qoff, oa, ocap, rfl, -, -, q1, -, -, -, -, -⟩ := hrb.opAt x.op.toNat _ hos
      have hy1 := hrb.2.1
      have hy2 := hrb.2.2.1
      unfold maxLen at hy2
      have up : ∀ (q : Addr) (u : Value), w.cell? q = some u → wr.cell? q = some u := fun q u h => (hbw.cell (World.block_lt_of_cell? w _ h)).trans h
      have t0 : wr.cell? ⟨sb, soff + k * 3, none⟩ = some (.int .i64 x.fn) := up _ _ (hcell 0 _ rfl)
      have t1 : wr.cell? ⟨sb, soff + k * 3 + 1, none⟩ = some (.int .i64 x.op) := up _ _ (hcell 1 _ rfl)
      have t2 : wr.cell? ⟨sb, soff + k * 3 + 2, none⟩ = some (.int .i64 x.inst) := up _ _ (hcell 2 _ rfl)
      replace c4 := up _ _ c4
      replace q1 := up _ _ q1
      have htl1 : ints (LL.take k) ++ [.int .i64 (opAt p x).line] = ints (LL.take (k + 1)) := by rw [take_snoc LL k (by rw [HLl.out]; exact hkn), hl1]; simp [ints]
      have htl2 : ints (IL.take k) ++ [.int .i64 x.inst] = ints (IL.take (k + 1)) := by rw [take_snoc IL k (by rw [HIl.out]; exact hkn), hl2]; simp [ints]
      clear hos hfs hrb
      generalize (fnAt p x.fn).body.length = yl at *
      generalize (opAt p x).line = lv at *
      obtain ⟨fN, hfN⟩ : ∃ v : Nat, x.fn = v := ⟨x.fn.toNat, by omega⟩
      obtain ⟨oN, hoN⟩ : ∃ v : Nat, x.op = v := ⟨x.op.toNat, by omega⟩
      rw [hfN] at c4 t0
      rw [hoN] at q1 t1
      simp only [Int.toNat_natCast] at c4 q1
      have hfp : fN < pn := by have := HPN.out; omega
      have hol : oN < yl := by omega
      generalize x.inst = iv at *
      obtain ⟨w2, hw2⟩ : ∃ v, v = wr.alloc (Obj.cells #[.int .i64 fN, .int .i64 oN, .int .i64 iv] 158) := ⟨_, rfl⟩
      have hb2 : Below wr.heap.size wr w2 := by rw [hw2]; exact (Below.refl _ _).alloc (Nat.le_refl _) _
      have hs2 : w2.heap.size = wr.heap.size + 1 := by rw [hw2]; simp
      have kS : w2.heap[wr.heap.size]? = some (.cells #[.int .i64 fN, .int .i64 oN, .int .i64 iv] 158 (0, 0)) := by rw [hw2]; exact heap_new_at rfl
      have s0 : w2.cell? ⟨wr.heap.size, 0, none⟩ = some (.int .i64 fN) := by simp [World.cell?, kS]
      have s1 : w2.cell? ⟨wr.heap.size, 1, none⟩ = some (.int .i64 oN) := by simp [World.cell?, kS]
      have d4 := (hb2.cell (World.block_lt_of_cell? wr _ c4)).trans c4
      have e1 := (hb2.cell (World.block_lt_of_cell? wr _ q1)).trans q1
      have lta := World.block_lt_of_cell? wr _ t0
      have ltw2 : wr.heap.size < w2.heap.size := by omega
      simp only at lta
      have HO1W := hid ho1
      have HO1 := hid (ownsRow_below ho1 hb2)
      have HO2 := hid (ownsRow_below ho2 hb2)
      have HO1D : Hid (w2.drew.ownsRow wb.heap.size 3 1 u7 k (ints (LL.take k))) := HO1.out.drew
      have HDIS := hid hdis
      have HT1 := hid htl1
      have HT2 := hid htl2
      have HKS := hid kS
      have HB2 := hid (hbel.trans (hb2.mono hsw))
      clear hcell up hl1 hl2 hf0 hf1 hoo hob ho1 ho2 hdis htl1 htl2 hx hfN hoN kS hbel hbw
      go_wp2
      rw [← hw2]
      clear hw2
      apply cutB
      case k =>
        intro key
        go_region_law (refine step_append_lies _ rfl (.tmp 18) (.tmp 30) 41 rfl wb.heap.size 3 i0 (.int .i64 0) 1 8 Tryd.underlying41 hi hz0 hz1 hz2 rfl (by decide) u7 k _ (by simp [Act.eval]) (HO1D.out.alloc _) ⟨w2.heap.size, 0, none⟩ 1 1 [Value.int .i64 lv] (by simp [Act.eval]) rfl (new1_at rfl _ _) (one1 _) (by decide) (by unfold maxLen; omega) (by omega) (by simp; omega) _ rfl ?_; intro g' cap' w5 hown5 hgrow5 hat5 hlt5)
        all_goals
          have hg2 : ∀ b, b < w2.heap.size → u7.ownBlock ≠ some b → w5.heap[b]? = w2.heap[b]? := fun b hb hne => (hgrow5.block b (by simp; omega) (fun e => hne e.symm)).trans (heap_alloc_old _ _ hb)
          rw [HT1.out] at hown5
          have hA2 : w5.ownsRow wb.heap.size 3 1 u8 k (ints (IL.take k)) := owns_same HO2.out (fun b hb => hg2 b (HO2.out.lt b hb).2 (fun e => HDIS.out b e hb))
          have hC2 : ∀ b, (Value.slice (some ⟨g', 0, none⟩) (k + 1) cap').ownBlock = some b → u8.ownBlock ≠ some b := fun b hb e => by
            simp [Value.ownBlock] at hb
            subst hb
            rcases hat5 with h | h
            · exact HDIS.out g' h e
            · have h1 := (HO2.out.lt g' e).2
              have h2 : g' = w2.heap.size + 1 := h.trans (by show (w2.alloc _).heap.size = _; simp)
              omega
          have hD2 : Below wb.heap.size wb w5 := ((HB2.out.drew).alloc (by show wb.heap.size ≤ w2.heap.size; omega) _).grown hgrow5 (by show wb.heap.size ≤ (w2.alloc _).heap.size; simp; omega) (fun b hb => (HO1.out.lt b hb).1)
          have hE2 : w5.heap[wr.heap.size]? = some (.cells #[.int .i64 fN, .int .i64 oN, .int .i64 iv] 158 (0, 0)) := (hg2 wr.heap.size ltw2 (fun e => by have := (HO1W.out.lt _ e).2; omega)).trans HKS.out
          have hfin : w5.ownsRow wb.heap.size 3 1 (.slice (some ⟨g', 0, none⟩) (k + 1) cap') (k + 1) (ints (LL.take (k + 1))) ∧ w5.ownsRow wb.heap.size 3 1 u8 k (ints (IL.take k)) ∧ (∀ b, (Value.slice (some ⟨g', 0, none⟩) (k + 1) cap').ownBlock = some b → u8.ownBlock ≠ some b) ∧ Below wb.heap.size wb w5 ∧ w5.heap[wr.heap.size]? = some (.cells #[.int .i64 fN, .int .i64 oN, .int .i64 iv] 158 (0, 0)) := ⟨hown5, hA2, hC2, hD2, hE2⟩
          clear hg2 hown5 hgrow5 hat5 hlt5 hA2 hC2 hD2 hE2
          revert hfin
          revert w5 cap' g'
          exact key.out
      intro g' cap' w5 ⟨f1, f2, f3, f4, f5⟩
      have z2 : w5.cell? ⟨wr.heap.size, 2, none⟩ = some (.int .i64 iv) := by simp [World.cell?, f5]
      have ltz := (Array.getElem?_eq_some_iff.1 f5).1
      have HF1 := hid f1
      have HF2 := hid f2
      have HF3 := hid f3
      have HF4 := hid f4
      have hs5 := f4.size
      clear f1 f2 f3 f4 f5 HO1 HO2 HO1D HDIS HB2 HKS s0 s1 d4 e1
      go_wp2_with (at_builtin; refine wpList_append_lies _ rfl (.tmp 32) (.tmp 35) 41 rfl wb.heap.size 3 i0 (.int .i64 0) 1 8 Tryd.underlying41 hi hz0 hz1 hz2 rfl (by decide) _ _ _ rfl (HF2.out.alloc _) ⟨w5.heap.size, 0, none⟩ 1 1 [.int .i64 iv] rfl rfl (new1_at rfl _ _) (one1 _) (by decide) (by unfold maxLen; omega) (by omega) (by simp; omega) _ rfl ?_)
      intro g2 cap2 w6 hown6 hgrow6 hat6 hlt6
      have hg6 : ∀ b, b < w5.heap.size → u8.ownBlock ≠ some b → w6.heap[b]? = w5.heap[b]? := fun b hb hne => (hgrow6.block b (by simp; omega) (fun e => hne e.symm)).trans (heap_alloc_old _ _ hb)
      rw [HT2.out] at hown6
      have r1 : w6.ownsRow wb.heap.size 3 1 (.slice (some ⟨g', 0, none⟩) (k + 1) cap') (k + 1) (ints (LL.take (k + 1))) := owns_same HF1.out (fun b hb => hg6 b (HF1.out.lt b hb).2 (HF3.out b hb))
      have r3 : ∀ b, (Value.slice (some ⟨g', 0, none⟩) (k + 1) cap').ownBlock = some b → (Value.slice (some ⟨g2, 0, none⟩) (k + 1) cap2).ownBlock ≠ some b := fun b hb e => by
        have hlt := (HF1.out.lt b hb).2
        simp [Value.ownBlock] at e
        subst e
        rcases hat6 with h | h
        · exact HF3.out g2 hb h
        · omega
      have r4 : Below wb.heap.size wb w6 := (HF4.out.alloc hs5 _).grown hgrow6 (by simp; omega) (fun b hb => (HF2.out.lt b hb).1)
      have HREL := hid (⟨r1, hown6, r3, r4⟩ : _ ∧ _ ∧ _ ∧ _)
      clear r1 hown6 r3 r4 hgrow6 hat6 hlt6 hg6 HF1 HF2 HF3 HF4 z2
      go_wp2
      go_roundw
      case rel =>
        obtain ⟨x1, x2, x3, x4⟩ := HREL.out
        exact ⟨k + 1, by go_num, by omega, x1, x2, x3, x4⟩
      case measure => simp [intOf]; omega
    · have hke : k = n := by omega
      subst hke
      have hkn' : decide ((k : Int) < (k : Int)) = false := by simp
      have e1 : LL.take k = LL := List.take_of_length_le (by rw [HLl.out]; exact Nat.le_refl _)
      have e2 : IL.take k = IL := List.take_of_length_le (by rw [HIl.out]; exact Nat.le_refl _)
      rw [e1] at ho1
      rw [e2] at ho2
      obtain ⟨a1, c1, rfl, hr1⟩ := rdI_of_owns ho1 HLl.out
      obtain ⟨a2, c2, rfl, hr2⟩ := rdI_of_owns ho2 HIl.out
      have HT := hid (fun (W : World) (hW : Below wr.heap.size wr W) => tOf_any a1 c1 LL W (by rw [HLl.out]; exact hr1.below hW (Nat.le_refl _)) (by rw [HLl.out]; exact h1000))
      have HT2 := hid (fun (W : World) (hW : Below wr.heap.size wr W) => tOf_any a2 c2 IL W (by rw [HIl.out]; exact hr2.below hW (Nat.le_refl _)) (by rw [HIl.out]; exact h1000))
      rw [HLl.out] at HT
      rw [HIl.out] at HT2
      have hbs3 := HBS.out
      have hlow : w.heap.size + 1 + 1 ≤ wr.heap.size := by omega
      have hlow1 : w.heap.size + 1 + 1 < wr.heap.size := by omega
      have j0 := (hbel.block w.heap.size (by omega)).trans HK0.out
      have j1 := (hbel.block (w.heap.size + 1) (by omega)).trans HK1.out
      have j2 := (hbel.block (w.heap.size + 1 + 1) (by omega)).trans HK2.out
      have m0 : wr.cell? ⟨w.heap.size + 1, 0, none⟩ = some (.string nm) := by simp [World.cell?, j1]
      have m1 : wr.cell? ⟨w.heap.size + 1, 1, none⟩ = some (.string fl) := by simp [World.cell?, j1]
      have m2 : wr.cell? ⟨w.heap.size, 2, none⟩ = some (.slice ta tl tcap) := by simp [World.cell?, j0]
      have HZ : Hid (∀ W, Below wr.heap.size wr W → W.cell? ⟨w.heap.size + 1 + 1, 0, none⟩ = some (.string ⟨#[]⟩) ∧ W.cell? ⟨w.heap.size + 1 + 1, 1, none⟩ = some (.string ⟨#[]⟩) ∧ W.cell? ⟨w.heap.size + 1 + 1, 2, none⟩ = some (.slice none 0 0) ∧ W.cell? ⟨w.heap.size + 1 + 1, 3, none⟩ = some (.slice none 0 0) ∧ W.cell? ⟨w.heap.size + 1 + 1, 4, none⟩ = some (.slice none 0 0) ∧
          W.frozen? ⟨w.heap.size + 1 + 1, 0, none⟩ = false ∧ W.frozen? ⟨w.heap.size + 1 + 1, 1, none⟩ = false ∧ W.frozen? ⟨w.heap.size + 1 + 1, 2, none⟩ = false ∧ W.frozen? ⟨w.heap.size + 1 + 1, 3, none⟩ = false ∧ W.frozen? ⟨w.heap.size + 1 + 1, 4, none⟩ = false) := fun W hW => by
        have h := (hW.block (w.heap.size + 1 + 1) hlow1).trans j2
        simp [World.cell?, World.frozen?, h]
      have KS : Hid (∀ W : World, Below (w.heap.size + 1 + 1) wr W → Below (w.heap.size + 1 + 1) wr W ∧ W.cell? ⟨w.heap.size + 1, 0, none⟩ = some (.string nm) ∧ W.cell? ⟨w.heap.size + 1, 1, none⟩ = some (.string fl) ∧ W.cell? ⟨w.heap.size, 2, none⟩ = some (.slice ta tl tcap)) := fun W h =>
        ⟨h, (h.cell (p := ⟨w.heap.size + 1, 0, none⟩) (by simp)).trans m0, (h.cell (p := ⟨w.heap.size + 1, 1, none⟩) (by simp)).trans m1, (h.cell (p := ⟨w.heap.size, 2, none⟩) (by simp; omega)).trans m2⟩
      clear e1 e2 ho1 ho2 hr1 hr2 hdis j0 j1 j2 m0 m1 m2
      go_wp2
      go_region_held (fun W => Below (w.heap.size + 1 + 1) wr W ∧ W.cell? ⟨w.heap.size + 1, 0, none⟩ = some (.string nm) ∧ W.cell? ⟨w.heap.size + 1, 1, none⟩ = some (.string fl) ∧ W.cell? ⟨w.heap.size, 2, none⟩ = some (.slice ta tl tcap))
        ((refine KS.out _ ?_; first | with_reducible exact (Below.refl _ _).drew | with_reducible exact (((((hb6'.mono hlow).setCell (p := ⟨w.heap.size + 1 + 1, 0, none⟩) (Nat.le_refl _) _).setCell (p := ⟨w.heap.size + 1 + 1, 1, none⟩) (Nat.le_refl _) _).setCell (p := ⟨w.heap.size + 1 + 1, 2, none⟩) (Nat.le_refl _) _).setCell (p := ⟨w.heap.size + 1 + 1, 3, none⟩) (Nat.le_refl _) _).setCell (p := ⟨w.heap.size + 1 + 1, 4, none⟩) (Nat.le_refl _) _ | exact hb6'.mono hlow | exact hb4'.mono hlow))
        ((first | (go_at_call_of 88 (Value.slice a1 k c1); refine (HT.out _ (Below.refl _ _).drew).mono ?_; rintro e w4 ⟨la, lcap, rfl, hown4, hb4⟩; have hb4' : Below wr.heap.size wr w4 := (Below.refl _ _).drew.trans hb4) | (go_at_call_of 88 (Value.slice a2 k c2); refine (HT2.out _ hb4').mono ?_; rintro e w6 ⟨xa, xcap, rfl, hown6, hb6⟩; have hb6' : Below wr.heap.size wr w6 := hb4'.trans (hb6.mono hb4'.size); obtain ⟨z0, z1, z2, z3, z4, g0, g1, g2, g3, g4⟩ := HZ.out _ hb6')))
      have hH := (‹Below (w.heap.size + 1 + 1) wr _ ∧ _›.1)
      obtain ⟨w7, hw7⟩ : ∃ v, v = ((((w6.setCell ⟨w.heap.size + 1 + 1, 0, none⟩ (.string nm)).setCell ⟨w.heap.size + 1 + 1, 1, none⟩ (.string fl)).setCell ⟨w.heap.size + 1 + 1, 2, none⟩ (.slice la (rollL LL).length lcap)).setCell ⟨w.heap.size + 1 + 1, 3, none⟩ (.slice xa (rollL IL).length xcap)).setCell ⟨w.heap.size + 1 + 1, 4, none⟩ (.slice ta tl tcap) := ⟨_, rfl⟩
      have y0 : w7.cell? ⟨w.heap.size + 1 + 1, 0, none⟩ = some (.string nm) := by rw [hw7]; simp [go_sem, z0]
      have y1 : w7.cell? ⟨w.heap.size + 1 + 1, 1, none⟩ = some (.string fl) := by rw [hw7]; simp [go_sem, z1]
      have y2 : w7.cell? ⟨w.heap.size + 1 + 1, 2, none⟩ = some (.slice la (rollL LL).length lcap) := by rw [hw7]; simp [go_sem, z2]
      have y3 : w7.cell? ⟨w.heap.size + 1 + 1, 3, none⟩ = some (.slice xa (rollL IL).length xcap) := by rw [hw7]; simp [go_sem, z3]
      have y4 : w7.cell? ⟨w.heap.size + 1 + 1, 4, none⟩ = some (.slice ta tl tcap) := by rw [hw7]; simp [go_sem, z4]
      have hot : ∀ b, b ≠ w.heap.size + 1 + 1 → w7.heap[b]? = w6.heap[b]? := fun b hb => by
        rw [hw7, Below.heap_setCell _ _ _ _ hb, Below.heap_setCell _ _ _ _ hb, Below.heap_setCell _ _ _ _ hb, Below.heap_setCell _ _ _ _ hb, Below.heap_setCell _ _ _ _ hb]
      rw [← hw7] at hH ⊢
      have hs4 : wr.heap.size ≤ w4.heap.size := hb4'.size
      have hd4 : wr.drew.heap.size = wr.heap.size := rfl
      have HL7 := hid (owns_low9 (owns_same (ownsRow_below hown4 hb6) (fun b hb => hot b (fun e => by have := (hown4.lt b hb).1; omega))) (show w.heap.size ≤ wr.drew.heap.size by omega))
      have HI7 := hid (owns_low9 (owns_same hown6 (fun b hb => hot b (fun e => by have := (hown6.lt b hb).1; omega))) (show w.heap.size ≤ w4.heap.size by omega))
      have HB7 := hid (hbw.trans (hH.mono (by omega)))
      clear hw7 hot hH hown4 hown6 hb4 hb4' hb6 hb6' HZ KS z0 z1 z2 z3 z4 g0 g1 g2 g3 g4 HT HT2
      go_wp2
      exact bodyPost_ret (v := .agg #[.string nm, .string fl, .slice la (rollL LL).length lcap, .slice xa (rollL IL).length xcap, .slice ta tl tcap]) (by simp [results, Tryd.results58, go_sem, y0, y1, y2, y3, y4]) rfl ⟨la, lcap, xa, xcap, rfl, HL7.out, HI7.out, HB7.out⟩
end Go.Proofs.YtebjndcokkefhaaDoor
