/- Contract of unfoldkeep's tame: a program made well-formed. -/
import Derived.Test.YthaganponmnanaaGreatDoorZ39
import Derived.Test.YthaganponmnanaaGreatDoorT6
namespace Go.Proofs.YthaganponmnanaaGreatDoor
open Go.RowKit

set_option maxHeartbeats 8000000 in
set_option maxRecDepth 100000 in
theorem tame_any (pa : Option Addr) (pcap : Nat) (p : List FnD) (funcs ops : Nat) (ahead : Bool) (w : World) (hp : RdP w pa p.length pcap p) (hraw : RawP p) (hf1 : 1 ≤ funcs) (hf2 : funcs ≤ 12) (ho1 : 1 ≤ ops) (ho2 : ops ≤ 30) :
    Calls Tryz.prog 11 #[.agg #[.slice pa p.length pcap], .int .i64 funcs, .int .i64 ops, .bool ahead] w fun e w' => Below w.heap.size w w' ∧
      ∃ (l q : List FnD) (a : Option Addr) (cap : Nat), e = .returned (.agg #[.slice a q.length cap]) ∧ HeadsOk l ∧ 1 ≤ l.length ∧ l.length ≤ funcs ∧ Fit l ops ahead q ∧ ∀ W : World, (∀ b, w.heap.size ≤ b → b < w'.heap.size → W.heap[b]? = w'.heap[b]?) → RdP W a q.length cap q := by
  have HP := hid hp
  have HRAW := hid hraw
  have hq1 := hp.2.1
  have hq2 := hp.2.2.1
  unfold maxLen at hq2
  have HHD := hid (fun (W : World) (hW : Below w.heap.size w W) => heads_any pa pcap p funcs W (hp.below hW) hraw hf1 hf2)
  obtain ⟨pl, hpl⟩ : ∃ v, v = p.length := ⟨_, rfl⟩
  rw [← hpl] at HP HHD hq1 ⊢
  have HPL := hid hpl
  clear hp hraw hpl
  obtain ⟨wb, hwb⟩ : ∃ v, v = (w.alloc (Obj.cells #[.slice pa pl pcap] 24)).alloc (Obj.cells #[.slice none 0 0] 24) := ⟨_, rfl⟩
  have hbb : Below w.heap.size w wb := by rw [hwb]; exact ((Below.refl _ _).alloc (Nat.le_refl _) _).alloc (by simp) _
  have hbs : wb.heap.size = w.heap.size + 2 := by rw [hwb]; simp
  have k0 : wb.heap[w.heap.size]? = some (.cells #[.slice pa pl pcap] 24 (0, 0)) := by rw [hwb]; exact heap_at1 (by simp) (heap_new_at rfl)
  have k1 : wb.heap[w.heap.size + 1]? = some (.cells #[.slice none 0 0] 24 (0, 0)) := by rw [hwb]; exact heap_new_at (by simp)
  have HK0 := hid k0
  have HK1 := hid k1
  have HBB := hid hbb
  clear k0 k1 hbb
  go_enter Tryz.func11, Tryz.ntmps11
  go_wp2_with fail
  rw [← hwb]
  clear hwb
  refine (HHD.out wb HBB.out).mono ?_
  rintro e w1 ⟨l, v, rfl, hl1, hlm, hok, hown, hb1⟩
  obtain ⟨lb, lcap, rfl, hlb1⟩ : ∃ lb lcap, v = .slice (some ⟨lb, 0, none⟩) l.length lcap ∧ wb.heap.size ≤ lb := by
    rcases hown.2 with ⟨h1, h2⟩ | ⟨g, c', cur, h1, h2, _⟩
    · omega
    · exact ⟨_, _, h1, (hown.lt g (by rw [h1]; rfl)).1⟩
  have hlb2 : lb < w1.heap.size := (hown.lt lb rfl).2
  have hlcap : l.length ≤ lcap ∧ lcap ≤ maxLen := by
    rcases hown.2 with ⟨h1, _⟩ | ⟨g, cap, cur, h1, _, _, h2, h3, _⟩
    · cases h1
    · cases h1; exact ⟨h2, h3⟩
  unfold maxLen at hlcap
  have HOWN := hid hown
  have HOK := hid hok
  obtain ⟨ll, hll⟩ : ∃ v, v = l.length := ⟨_, rfl⟩
  have HLL := hid hll
  rw [← hll] at hl1 hlm hlcap ⊢
  have hs1 := hb1.size
  have HB1 := hid hb1
  clear hown hok hll hb1 HHD
  go_wp2
  go_loopw [10, 11, 12, 13, 14] (fun f _ _ _ _ wr => ∃ (k : Nat) (q : List FnD) (css : List (List Value)), f = .int .i64 k ∧ k ≤ ll ∧ q.length = k ∧ FnsFit l ops ahead q ∧
    wr.ownsRow wb.heap.size 44 5 (.slice (some ⟨lb, 0, none⟩) l.length lcap) l.length (rowF css l k).flatten ∧ RdBut 5 RdFn (fun b => b = lb ∨ b < wb.heap.size) wr css q ∧ Below wb.heap.size wb wr ∧ lb < wr.heap.size) (fun f _ _ _ _ _ => ll - (intOf f).toNat)
  case atStart => exact ⟨0, [], [], rfl, by omega, rfl, fun f x y h => by simp at h, by simpa [rowF] using HOWN.out, RdBut.nil, HB1.out, hlb2⟩
  case round =>
    clear HOWN HB1 hs1 hlb2
    rename World => wo
    obtain ⟨k, q, css, rfl, hk, hql, hfit, hown, hbut, hbel, hlbr⟩ := hrel
    have hszr := hbel.size
    have p0 : wo.cell? ⟨w.heap.size, 0, none⟩ = some (.slice pa pl pcap) := by
      have h := (hbel.block w.heap.size (by omega)).trans HK0.out
      simp [World.cell?, h]
    have HOWN := hid hown
    have HBUT := hid hbut
    have HBEL := hid hbel
    have HFIT := hid hfit
    have HQL := hid hql
    by_cases hkl : k < ll
    · have hkl' : (k : Int) < (ll : Int) := by omega
      obtain ⟨hd, hf⟩ : ∃ hd, l[k]? = some hd := ⟨_, List.getElem?_eq_getElem (by rw [← HLL.out]; exact hkl)⟩
      have HF := hid hf
      obtain ⟨hh1, hh2, hh3, hh4⟩ := HOK.out k hd hf
      have HLC := hid hh3
      have HNM : Hid (hd.name.size ≤ maxLen) := hid (by rw [hh1]; have := wordB_bd (letterD_word k (by omega)); unfold maxLen; omega)
      have HFL : Hid (hd.file.size ≤ maxLen) := hid (by have := wordB_bd hh2; unfold maxLen; omega)
      have HRH := hid (rdHd_row hown hql hbut (fun f x y h1 h2 => (hfit f x y h1 h2).1))
      have HROW4 : Hid (wo.cell? ⟨lb, k * 5 + 4, none⟩ = some (.slice none 0 0)) := hid (by
        have e := hown.cellAt (k * 5 + 4) (by rw [← HLL.out]; omega)
        rw [flatten_at (rowF_all hbut.all) k 4 _ _ (rowF_at (by rw [hbut.1]; exact hql) hf) rfl] at e
        exact e)
      have HFZ : Hid (∃ cs, wo.heap[lb]? = some (.cells cs 44 (0, 0))) := hid (by
        rcases hown.2 with ⟨h1, _⟩ | ⟨g, cap, cur, h1, h2, h3, _⟩
        · cases h1
        · cases h1; exact ⟨_, h3⟩)
      obtain ⟨csb, HFZ⟩ := HFZ.out
      have HFZ := hid HFZ
      obtain ⟨i0, hi, hz0, hz1, hz2⟩ := info_parts Tryz.infoOp
      obtain ⟨FF, HFF⟩ : ∃ v : Nat, Hid (v = if ahead then k + 1 else 0) := ⟨_, hid rfl⟩
      clear hown hbut hbel hfit hql hf hh1 hh2 hh3 hh4
      by_cases hkp : k < pl
      · have hkp' : (k : Int) < (pl : Int) := by omega
        obtain ⟨fn, hfn⟩ : ∃ fn, p[k]? = some fn := ⟨_, List.getElem?_eq_getElem (by rw [← HPL.out]; exact hkp)⟩
        have hbw : Below w.heap.size w wo := HBB.out.trans (HBEL.out.mono HBB.out.size)
        obtain ⟨fb, foff, ba, bcap, rfl, hfb, -, -, -, -, n4, hbody, -, -⟩ := (HP.out.below hbw).at k fn hfn
        have HRF := hid (HRAW.out fn (List.mem_of_getElem? hfn)).2.2
        obtain ⟨bl, hbl⟩ : ∃ v, v = fn.body.length := ⟨_, rfl⟩
        have HBODY := hid hbody
        rw [← hbl] at HBODY n4
        have HBLL := hid hbl
        have hbc1 := hbody.2.1
        have hbc2 := hbody.2.2.1
        rw [← hbl] at hbc1
        unfold maxLen at hbc2
        clear hbody hbl hfn hbw
        by_cases hbo : bl ≤ ops
        · have hbod : decide (ops < bl) = false := by simp; omega
          by_cases hb0 : bl = 0
          · subst hb0
            go_wp2
            go_loopw [12, 13, 14] (fun bv s _ wi => wi.ownsRow wo.heap.size 70 6 bv 0 [] ∧ s = .int .i64 0 ∧ wi = wo) (fun _ _ _ _ => 0)
            case atStart => exact ⟨World.ownsRow_nil _ _ _ _, rfl, rfl⟩
            case round =>
              obtain ⟨hownB, rfl, hwi⟩ := hrel
              rw [hwi] at hownB ⊢
              clear hwi
              obtain ⟨va, vcap, rfl⟩ : ∃ va vcap, u12 = .slice va 0 vcap := by
                rcases hownB.2 with ⟨h1, h2⟩ | ⟨g, c', cur, h1, _⟩
                · exact ⟨none, 0, by rw [h1]⟩
                · exact ⟨_, c', h1⟩
              have HOWB := hid hownB
              clear hownB
              go_wp2_with (at_builtin; refine wpList_append_lies _ rfl (.tmp 75) (.tmp 77) 42 rfl wo.heap.size 70 i0 (.agg #[.int .i64 0, .int .i64 0, .int .i64 0, .int .i64 0, .int .i64 0, .slice none 0 0]) 6 64 Tryz.underlying42 hi hz0 hz1 hz2 rfl (by decide) _ _ _ rfl (HOWB.out.alloc _) ⟨wo.heap.size, 0, none⟩ 1 1 [.int .i64 6, .int .i64 1, .int .i64 0, .int .i64 0, .int .i64 0, .slice none 0 0] rfl rfl (six_new_at rfl _ _ _ _ _ _ _) (six_one _ _ _ _ _ _ _ _) (by decide) (by unfold maxLen; omega) (by omega) (by simp) _ rfl ?_)
              intro g' c' w9 hown9 hgrow9 hat9 hlt9
              have hb9 : Below wo.heap.size wo w9 := ((Below.refl _ _).alloc (Nat.le_refl _) _).grown hgrow9 (by simp) (fun b hb => (HOWB.out.lt b hb).1)
              have hs9 := hb9.size
              have hg9 : wo.heap.size ≤ g' := (hown9.lt g' rfl).1
              have xl : w9.cell? ⟨lb, k * 5 + 4, none⟩ = some (.slice none 0 0) := (hb9.cell (p := ⟨lb, k * 5 + 4, none⟩) hlbr).trans HROW4.out
              have fl : w9.frozen? ⟨lb, k * 5 + 4, none⟩ = false := by
                have := (hb9.block lb hlbr).trans HFZ.out
                simp [World.frozen?, this]
              have HO9 := hid hown9
              have HB9 := hid hb9
              clear hown9 hgrow9 hb9 hat9
              go_wp2
              go_roundw
              case rel =>
                refine ⟨k + 1, q ++ [⟨hd.name, hd.file, hd.params, hd.locals, [⟨6, 1, 0, 0, 0, []⟩]⟩], css ++ [fnC hd (.slice (some ⟨g', 0, none⟩) 1 c')], by go_num, by omega, by rw [List.length_append, HQL.out]; rfl, ?_, ?_, ?_, ?_, ?_⟩
                · refine HFIT.out.snoc (by rw [HQL.out]; exact HF.out) (by simp) (by simp; omega) (fun i o hio => ?_)
                  match i, hio with
                  | 0, hio =>
                    simp at hio
                    subst hio
                    have := HLC.out
                    exact ⟨rfl, by decide, by simp [withB]; omega⟩
                  | i + 1, hio => simp at hio
                · exact rowF_store (ownsRow_below HOWN.out HB9.out) HBUT.out.all (by rw [HBUT.out.1]; exact HQL.out) HF.out _
                · refine fnBut_snoc (w' := w9.setCell ⟨lb, k * 5 + 4, none⟩ (.slice (some ⟨g', 0, none⟩) 1 c')) (xs := [⟨6, 1, 0, 0, 0, []⟩]) (ba := some ⟨g', 0, none⟩) (bcap := c') (hd := hd) (base := wo.heap.size) (base' := wo.heap.size) (Lo := fun b => b < wo.heap.size) (cb := [[.int .i64 6, .int .i64 1, .int .i64 0, .int .i64 0, .int .i64 0, .slice none 0 0]]) HBUT.out ?_ HNM.out HFL.out ?_ ?_ ?_ ?_ ?_
                  · intro b hb hne
                    refine ⟨by simp; omega, hne, ?_⟩
                    rw [Below.heap_setCell _ _ _ _ (by simp; intro e; exact hne (.inl e))]
                    exact HB9.out.block b hb
                  · exact ownsRow_setCell_other HO9.out (by simp [Value.ownBlock]; omega) _
                  · exact opBut_snoc (w := wo) (L := fun _ => True) (o := ⟨6, 1, 0, 0, 0, []⟩) (base := 0) RdBut.nil (fun b _ h => absurd trivial h) (World.ownsRow_nil _ _ _ _) (fun b hb => by simp [Value.ownBlock] at hb)
                  · intro b _ h1 h2
                    rcases h2 with h2 | h2 <;> omega
                  · intro b _ h1
                    omega
                  · intro b hb
                    obtain rfl : g' = b := by simpa [Value.ownBlock] using hb
                    exact ⟨hg9, by simpa using hlt9⟩
                · exact (HBEL.out.trans (HB9.out.mono hszr)).setCell (p := ⟨lb, k * 5 + 4, none⟩) hlb1 _
                · simp; omega
              case measure => simp [intOf]; omega
          · obtain ⟨ro, hro, hrol, hroR⟩ : ∃ ro : List OpD, RdL 6 RdOp wo ba bl bcap ro ∧ ro.length = bl ∧ ∀ o ∈ ro, RawOp o := ⟨fn.body, HBODY.out, HBLL.out.symm, HRF.out⟩
            have HRO := hid hro
            have HROL := hid hrol
            have HROR := hid hroR
            have hrc1 := hro.2.1
            have hrc2 := hro.2.2.1
            unfold maxLen at hrc2
            clear hro hrol hroR
            go_wp2
            try rw [hbod]
            go_loopw [12, 13, 14] (fun bv s _ wr => ∃ (j : Nat) (xs : List OpD) (cb : List (List Value)), s = .int .i64 j ∧ j ≤ bl ∧ xs.length = j ∧ OpsFit l hd.locals bl FF xs ∧ wr.ownsRow wo.heap.size 70 6 bv j cb.flatten ∧ RdBut 6 RdOp (fun b => bv.ownBlock = some b ∨ b < wo.heap.size) wr cb xs ∧ Below wo.heap.size wo wr) (fun _ s _ _ => bl - (intOf s).toNat)
            case atStart => exact ⟨0, [], [], rfl, by omega, rfl, fun i o h => by simp at h, World.ownsRow_nil _ _ _ _, RdBut.nil, Below.refl _ _⟩
            case round =>
              obtain ⟨j, xs, cb, rfl, hj, hxl, hof, hownB, hbut, hbi⟩ := hrel
              have hsi := hbi.size
              have HOWB := hid hownB
              have HBUTB := hid hbut
              have HBI := hid hbi
              have HOF := hid hof
              have HXL := hid hxl
              by_cases hjn : j < bl
              · have hjn' : (j : Int) < (bl : Int) := by omega
                obtain ⟨o, ho⟩ : ∃ o, ro[j]? = some o := ⟨_, List.getElem?_eq_getElem (by rw [HROL.out]; exact hjn)⟩
                obtain ⟨ob, ooff, aa, acap, rfl, hob, d0, d1, d2, d3, d4, d5, hra⟩ := (HRO.out.below hbi (fun _ _ h => h.below hbi)).opAt j o ho
                have HOP := hid (kOp_any l (some ⟨lb, 0, none⟩) lcap k bl o aa acap ahead hd wr (HRH.out.below hbi) HOK.out HF.out (by rw [← HLL.out]; omega) ⟨by omega, by omega⟩ hra (HROR.out o (List.mem_of_getElem? ho)))
                rw [← HLL.out, ← HFF.out] at HOP
                generalize o.code = oc0 at *
                generalize o.line = oc1 at *
                generalize o.a = oc2 at *
                generalize o.b = oc3 at *
                generalize o.c = oc4 at *
                generalize o.args.length = oc5 at *
                have hfk : (k : Int) < (ll : Int) := by omega
                clear hownB hbut hbi hof hxl hra ho
                go_wp2_with fail
                refine HOP.out.mono ?_
                rintro e w3 ⟨x, av, rfl, hfit, hownA, hb3⟩
                clear HOP d0 d1 d2 d3 d4 d5
                obtain ⟨va, vcap, rfl, -⟩ := rdI_owns hownA
                have hs3 := hb3.size
                have HOA := hid hownA
                have HB3 := hid hb3
                have HFX := hid hfit
                have hfx1 := hfit.1
                obtain ⟨x0, x1, x2, x3, x4, xa⟩ := x
                dsimp only at hfx1 HOA HFX hownA ⊢
                clear hownA hb3 hfit
                by_cases hlast : j + 1 = bl
                · have hlast' : (j : Int) = (bl : Int) - 1 := by omega
                  have hlast2 : ((j : Int) == (bl : Int) - 1) = true := by simp; omega
                  have hlast3 : decide ((j : Int) = (bl : Int) - 1) = true := by simp; omega
                  have HLAST := hid hlast
                  clear hlast hlast'
                  go_wp2_with (at_builtin; refine wpList_append_lies _ rfl (.tmp 68) (.tmp 70) 42 rfl wo.heap.size 70 i0 (.agg #[.int .i64 0, .int .i64 0, .int .i64 0, .int .i64 0, .int .i64 0, .slice none 0 0]) 6 64 Tryz.underlying42 hi hz0 hz1 hz2 rfl (by decide) _ _ _ rfl (((ownsRow_below HOWB.out HB3.out).alloc _).alloc _) ⟨w3.heap.size + 1, 0, none⟩ 1 1 [.int .i64 6, .int .i64 x1, .int .i64 x2, .int .i64 0, .int .i64 0, .slice none 0 0] rfl rfl (six_new_at (by simp) _ _ _ _ _ _ _) (six_one _ _ _ _ _ _ _ _) (by decide) (by unfold maxLen; omega) (by omega) (by simp; omega) _ rfl ?_)
                  intro g' c' w9 hown9 hgrow9 hat9 hlt9
                  have hb9 : Below wo.heap.size wo w9 := ((((HBI.out.trans (HB3.out.mono hsi)).alloc (by omega) _).alloc (by simp; omega) _)).grown hgrow9 (by simp; omega) (fun b hb => (HOWB.out.lt b hb).1)
                  have hk9 : ∀ b, b < w3.heap.size → u12.ownBlock ≠ some b → w9.heap[b]? = w3.heap[b]? := fun b hb hne => by
                    rw [hgrow9.block b (by simp; omega) (fun e => hne e.symm)]
                    rw [heap_alloc_old _ _ (by simp; omega), heap_alloc_old _ _ hb]
                  have hat9' : u12.ownBlock = some g' ∨ w3.heap.size < g' := by
                    rcases hat9 with h | h
                    · exact .inl h
                    · exact .inr (by first | omega | (simp at h; omega))
                  have hs9 : w3.heap.size ≤ w9.heap.size := by have := hgrow9.size; simp at this; omega
                  have HO9 := hid hown9
                  have HB9 := hid hb9
                  clear hown9 hgrow9 hb9 hat9
                  go_wp2
                  go_roundw
                  case rel =>
                    refine ⟨j + 1, xs ++ [⟨6, x1, x2, 0, 0, []⟩], cb ++ [[.int .i64 6, .int .i64 x1, .int .i64 x2, .int .i64 0, .int .i64 0, .slice none 0 0]], by go_num, by omega, by rw [List.length_append, HXL.out]; rfl, HOF.out.snoc ?_, by rw [List.flatten_append, List.flatten_singleton]; exact HO9.out, ?_, HB9.out⟩
                    · rw [HXL.out]
                      rw [if_pos HLAST.out]
                      exact ⟨rfl, hfx1, HFX.out.2.1⟩
                    · refine opBut_snoc (base := 0) (o := ⟨6, x1, x2, 0, 0, []⟩) HBUTB.out (fun b hb hne => ⟨by omega, ?_, ?_⟩) ?_ ?_
                      · rintro (h | h)
                        · simp [Value.ownBlock] at h
                          rcases hat9' with h' | h'
                          · exact hne (.inl (by rw [h', h]))
                          · omega
                        · exact hne (.inr h)
                      · exact (hk9 b (by omega) (fun e => hne (.inl e))).trans (HB3.out.block b hb)
                      · exact World.ownsRow_nil _ _ _ _
                      · intro b hb
                        simp [Value.ownBlock] at hb
                  case measure => simp [intOf]; omega
                · have hlast' : decide ((j : Int) = (bl : Int) - 1) = false := by simp; omega
                  have hlast2 : ((j : Int) == (bl : Int) - 1) = false := by simp; omega
                  have hlast3 : ¬ ((j : Int) = (bl : Int) - 1) := by omega
                  have HLAST := hid hlast
                  clear hlast
                  go_wp2_with (at_builtin; refine wpList_append_lies _ rfl (.tmp 68) (.tmp 70) 42 rfl wo.heap.size 70 i0 (.agg #[.int .i64 0, .int .i64 0, .int .i64 0, .int .i64 0, .int .i64 0, .slice none 0 0]) 6 64 Tryz.underlying42 hi hz0 hz1 hz2 rfl (by decide) _ _ _ rfl (((ownsRow_below HOWB.out HB3.out).alloc _).alloc _) ⟨w3.heap.size + 1, 0, none⟩ 1 1 [.int .i64 x0, .int .i64 x1, .int .i64 x2, .int .i64 x3, .int .i64 x4, .slice va xa.length vcap] rfl rfl (six_new_at (by simp) _ _ _ _ _ _ _) (six_one _ _ _ _ _ _ _ _) (by decide) (by unfold maxLen; omega) (by omega) (by simp; omega) _ rfl ?_)
                  intro g' c' w9 hown9 hgrow9 hat9 hlt9
                  have hb9 : Below wo.heap.size wo w9 := ((((HBI.out.trans (HB3.out.mono hsi)).alloc (by omega) _).alloc (by simp; omega) _)).grown hgrow9 (by simp; omega) (fun b hb => (HOWB.out.lt b hb).1)
                  have hk9 : ∀ b, b < w3.heap.size → u12.ownBlock ≠ some b → w9.heap[b]? = w3.heap[b]? := fun b hb hne => by
                    rw [hgrow9.block b (by simp; omega) (fun e => hne e.symm)]
                    rw [heap_alloc_old _ _ (by simp; omega), heap_alloc_old _ _ hb]
                  have hat9' : u12.ownBlock = some g' ∨ w3.heap.size < g' := by
                    rcases hat9 with h | h
                    · exact .inl h
                    · exact .inr (by first | omega | (simp at h; omega))
                  have hs9 : w3.heap.size ≤ w9.heap.size := by have := hgrow9.size; simp at this; omega
                  have HO9 := hid hown9
                  have HB9 := hid hb9
                  clear hown9 hgrow9 hb9 hat9
                  go_wp2
                  go_roundw
                  case rel =>
                    refine ⟨j + 1, xs ++ [⟨x0, x1, x2, x3, x4, xa⟩], cb ++ [[.int .i64 x0, .int .i64 x1, .int .i64 x2, .int .i64 x3, .int .i64 x4, .slice va xa.length vcap]], by go_num, by omega, by rw [List.length_append, HXL.out]; rfl, HOF.out.snoc ?_, by rw [List.flatten_append, List.flatten_singleton]; exact HO9.out, ?_, HB9.out⟩
                    · rw [HXL.out]
                      rw [if_neg HLAST.out]
                      exact HFX.out
                    · refine opBut_snoc (base := wr.heap.size) (o := ⟨x0, x1, x2, x3, x4, xa⟩) HBUTB.out (fun b hb hne => ⟨by omega, ?_, ?_⟩) ?_ ?_
                      · rintro (h | h)
                        · simp [Value.ownBlock] at h
                          rcases hat9' with h' | h'
                          · exact hne (.inl (by rw [h', h]))
                          · omega
                        · exact hne (.inr h)
                      · exact (hk9 b (by omega) (fun e => hne (.inl e))).trans (HB3.out.block b hb)
                      · exact owns_alike HOA.out (fun b hb => hk9 b (HOA.out.lt b hb).2 (fun e => by have h1 := (HOA.out.lt b hb).1; have h2 := (HOWB.out.lt b e).2; omega))
                      · intro b hb
                        have h1 := HOA.out.lt b hb
                        refine ⟨by omega, ?_⟩
                        rintro (h | h)
                        · simp [Value.ownBlock] at h
                          rcases hat9' with h' | h'
                          · have h2 := (HOWB.out.lt _ h').2
                            omega
                          · omega
                        · omega
                  case measure => simp [intOf]; omega
              · have hjn' : decide ((j : Int) < (bl : Int)) = false := by simp; omega
                have HJE : Hid (j = bl) := hid (by omega)
                have hj0 : decide ((j : Int) = 0) = false := by simp; omega
                obtain ⟨vg, vc, rfl⟩ : ∃ vg vc, u12 = .slice (some ⟨vg, 0, none⟩) j vc := by
                  rcases hownB.2 with ⟨h1, h2⟩ | ⟨g, c', cur, h1, _⟩
                  · omega
                  · exact ⟨_, c', h1⟩
                have hvg := hownB.lt vg rfl
                have xl : wr.cell? ⟨lb, k * 5 + 4, none⟩ = some (.slice none 0 0) := (hbi.cell (p := ⟨lb, k * 5 + 4, none⟩) hlbr).trans HROW4.out
                have fl : wr.frozen? ⟨lb, k * 5 + 4, none⟩ = false := by
                  have := (hbi.block lb hlbr).trans HFZ.out
                  simp [World.frozen?, this]
                clear hownB hbut hbi hof hxl
                go_wp2
                go_roundw
                case rel =>
                  refine ⟨k + 1, q ++ [⟨hd.name, hd.file, hd.params, hd.locals, xs⟩], css ++ [fnC hd (.slice (some ⟨vg, 0, none⟩) j vc)], by go_num, by omega, by rw [List.length_append, HQL.out]; rfl, ?_, ?_, ?_, ?_, ?_⟩
                  · refine HFIT.out.snoc (by rw [HQL.out]; exact HF.out) (by rw [HXL.out]; omega) (by rw [HXL.out]; omega) ?_
                    rw [HXL.out, HJE.out, HQL.out, ← HFF.out]
                    exact HOF.out
                  · exact rowF_store (ownsRow_below HOWN.out HBI.out) HBUT.out.all (by rw [HBUT.out.1]; exact HQL.out) HF.out _
                  · have hxj := HXL.out
                    subst hxj
                    refine fnBut_snoc (w' := wr.setCell ⟨lb, k * 5 + 4, none⟩ (.slice (some ⟨vg, 0, none⟩) xs.length vc)) (xs := xs) (ba := some ⟨vg, 0, none⟩) (bcap := vc) (hd := hd) (base := wo.heap.size) (base' := wo.heap.size) (Lo := fun b => (Value.slice (some ⟨vg, 0, none⟩) xs.length vc).ownBlock = some b ∨ b < wo.heap.size) (cb := cb) HBUT.out ?_ HNM.out HFL.out ?_ ?_ ?_ ?_ ?_
                    · intro b hb hne
                      refine ⟨by simp; omega, hne, ?_⟩
                      rw [Below.heap_setCell _ _ _ _ (by simp; intro e; exact hne (.inl e))]
                      exact HBI.out.block b hb
                    · exact ownsRow_setCell_other HOWB.out (by simp [Value.ownBlock]; omega) _
                    · refine HBUTB.out.same (fun b hb hne => ⟨by simpa using hb, hne, ?_⟩)
                      rw [Below.heap_setCell _ _ _ _ (by simp; intro e; exact hne (.inr (by omega)))]
                    · intro b _ h1 h2
                      rcases h2 with h2 | h2 <;> omega
                    · intro b _ h1
                      exact Nat.le_of_not_lt fun h => h1 (.inr h)
                    · intro b hb
                      obtain rfl : vg = b := by simpa [Value.ownBlock] using hb
                      exact ⟨hvg.1, by simpa using hvg.2⟩
                  · exact (HBEL.out.trans (HBI.out.mono hszr)).setCell (p := ⟨lb, k * 5 + 4, none⟩) hlb1 _
                  · simp; omega
                case measure => simp [intOf]; omega
        · have hbo' : (ops : Int) < (bl : Int) := by omega
          have hbod : decide (ops < bl) = true := by simp; omega
          obtain ⟨ro, hro, hrol, hroR⟩ : ∃ ro : List OpD, RdL 6 RdOp wo ba ops bcap ro ∧ ro.length = ops ∧ ∀ o ∈ ro, RawOp o := ⟨fn.body.take ops, HBODY.out.take ops (by omega), by rw [List.length_take, ← HBLL.out]; omega, fun o ho => HRF.out o (List.mem_of_mem_take ho)⟩
          have HRO := hid hro
          have HROL := hid hrol
          have HROR := hid hroR
          have hrc1 := hro.2.1
          have hrc2 := hro.2.2.1
          unfold maxLen at hrc2
          clear hro hrol hroR
          go_wp2
          try rw [hbod]
          go_loopw [12, 13, 14] (fun bv s _ wr => ∃ (j : Nat) (xs : List OpD) (cb : List (List Value)), s = .int .i64 j ∧ j ≤ ops ∧ xs.length = j ∧ OpsFit l hd.locals ops FF xs ∧ wr.ownsRow wo.heap.size 70 6 bv j cb.flatten ∧ RdBut 6 RdOp (fun b => bv.ownBlock = some b ∨ b < wo.heap.size) wr cb xs ∧ Below wo.heap.size wo wr) (fun _ s _ _ => ops - (intOf s).toNat)
          case atStart => exact ⟨0, [], [], rfl, by omega, rfl, fun i o h => by simp at h, World.ownsRow_nil _ _ _ _, RdBut.nil, Below.refl _ _⟩
          case round =>
            obtain ⟨j, xs, cb, rfl, hj, hxl, hof, hownB, hbut, hbi⟩ := hrel
            have hsi := hbi.size
            have HOWB := hid hownB
            have HBUTB := hid hbut
            have HBI := hid hbi
            have HOF := hid hof
            have HXL := hid hxl
            by_cases hjn : j < ops
            · have hjn' : (j : Int) < (ops : Int) := by omega
              obtain ⟨o, ho⟩ : ∃ o, ro[j]? = some o := ⟨_, List.getElem?_eq_getElem (by rw [HROL.out]; exact hjn)⟩
              obtain ⟨ob, ooff, aa, acap, rfl, hob, d0, d1, d2, d3, d4, d5, hra⟩ := (HRO.out.below hbi (fun _ _ h => h.below hbi)).opAt j o ho
              have HOP := hid (kOp_any l (some ⟨lb, 0, none⟩) lcap k ops o aa acap ahead hd wr (HRH.out.below hbi) HOK.out HF.out (by rw [← HLL.out]; omega) ⟨by omega, by omega⟩ hra (HROR.out o (List.mem_of_getElem? ho)))
              rw [← HLL.out, ← HFF.out] at HOP
              generalize o.code = oc0 at *
              generalize o.line = oc1 at *
              generalize o.a = oc2 at *
              generalize o.b = oc3 at *
              generalize o.c = oc4 at *
              generalize o.args.length = oc5 at *
              have hfk : (k : Int) < (ll : Int) := by omega
              clear hownB hbut hbi hof hxl hra ho
              go_wp2_with fail
              refine HOP.out.mono ?_
              rintro e w3 ⟨x, av, rfl, hfit, hownA, hb3⟩
              clear HOP d0 d1 d2 d3 d4 d5
              obtain ⟨va, vcap, rfl, -⟩ := rdI_owns hownA
              have hs3 := hb3.size
              have HOA := hid hownA
              have HB3 := hid hb3
              have HFX := hid hfit
              have hfx1 := hfit.1
              obtain ⟨x0, x1, x2, x3, x4, xa⟩ := x
              dsimp only at hfx1 HOA HFX hownA ⊢
              clear hownA hb3 hfit
              by_cases hlast : j + 1 = ops
              · have hlast' : (j : Int) = (ops : Int) - 1 := by omega
                have hlast2 : ((j : Int) == (ops : Int) - 1) = true := by simp; omega
                have hlast3 : decide ((j : Int) = (ops : Int) - 1) = true := by simp; omega
                have HLAST := hid hlast
                clear hlast hlast'
                go_wp2_with (at_builtin; refine wpList_append_lies _ rfl (.tmp 68) (.tmp 70) 42 rfl wo.heap.size 70 i0 (.agg #[.int .i64 0, .int .i64 0, .int .i64 0, .int .i64 0, .int .i64 0, .slice none 0 0]) 6 64 Tryz.underlying42 hi hz0 hz1 hz2 rfl (by decide) _ _ _ rfl (((ownsRow_below HOWB.out HB3.out).alloc _).alloc _) ⟨w3.heap.size + 1, 0, none⟩ 1 1 [.int .i64 6, .int .i64 x1, .int .i64 x2, .int .i64 0, .int .i64 0, .slice none 0 0] rfl rfl (six_new_at (by simp) _ _ _ _ _ _ _) (six_one _ _ _ _ _ _ _ _) (by decide) (by unfold maxLen; omega) (by omega) (by simp; omega) _ rfl ?_)
                intro g' c' w9 hown9 hgrow9 hat9 hlt9
                have hb9 : Below wo.heap.size wo w9 := ((((HBI.out.trans (HB3.out.mono hsi)).alloc (by omega) _).alloc (by simp; omega) _)).grown hgrow9 (by simp; omega) (fun b hb => (HOWB.out.lt b hb).1)
                have hk9 : ∀ b, b < w3.heap.size → u12.ownBlock ≠ some b → w9.heap[b]? = w3.heap[b]? := fun b hb hne => by
                  rw [hgrow9.block b (by simp; omega) (fun e => hne e.symm)]
                  rw [heap_alloc_old _ _ (by simp; omega), heap_alloc_old _ _ hb]
                have hat9' : u12.ownBlock = some g' ∨ w3.heap.size < g' := by
                  rcases hat9 with h | h
                  · exact .inl h
                  · exact .inr (by first | omega | (simp at h; omega))
                have hs9 : w3.heap.size ≤ w9.heap.size := by have := hgrow9.size; simp at this; omega
                have HO9 := hid hown9
                have HB9 := hid hb9
                clear hown9 hgrow9 hb9 hat9
                go_wp2
                go_roundw
                case rel =>
                  refine ⟨j + 1, xs ++ [⟨6, x1, x2, 0, 0, []⟩], cb ++ [[.int .i64 6, .int .i64 x1, .int .i64 x2, .int .i64 0, .int .i64 0, .slice none 0 0]], by go_num, by omega, by rw [List.length_append, HXL.out]; rfl, HOF.out.snoc ?_, by rw [List.flatten_append, List.flatten_singleton]; exact HO9.out, ?_, HB9.out⟩
                  · rw [HXL.out]
                    rw [if_pos HLAST.out]
                    exact ⟨rfl, hfx1, HFX.out.2.1⟩
                  · refine opBut_snoc (base := 0) (o := ⟨6, x1, x2, 0, 0, []⟩) HBUTB.out (fun b hb hne => ⟨by omega, ?_, ?_⟩) ?_ ?_
                    · rintro (h | h)
                      · simp [Value.ownBlock] at h
                        rcases hat9' with h' | h'
                        · exact hne (.inl (by rw [h', h]))
                        · omega
                      · exact hne (.inr h)
                    · exact (hk9 b (by omega) (fun e => hne (.inl e))).trans (HB3.out.block b hb)
                    · exact World.ownsRow_nil _ _ _ _
                    · intro b hb
                      simp [Value.ownBlock] at hb
                case measure => simp [intOf]; omega
              · have hlast' : decide ((j : Int) = (ops : Int) - 1) = false := by simp; omega
                have hlast2 : ((j : Int) == (ops : Int) - 1) = false := by simp; omega
                have hlast3 : ¬ ((j : Int) = (ops : Int) - 1) := by omega
                have HLAST := hid hlast
                clear hlast
                go_wp2_with (at_builtin; refine wpList_append_lies _ rfl (.tmp 68) (.tmp 70) 42 rfl wo.heap.size 70 i0 (.agg #[.int .i64 0, .int .i64 0, .int .i64 0, .int .i64 0, .int .i64 0, .slice none 0 0]) 6 64 Tryz.underlying42 hi hz0 hz1 hz2 rfl (by decide) _ _ _ rfl (((ownsRow_below HOWB.out HB3.out).alloc _).alloc _) ⟨w3.heap.size + 1, 0, none⟩ 1 1 [.int .i64 x0, .int .i64 x1, .int .i64 x2, .int .i64 x3, .int .i64 x4, .slice va xa.length vcap] rfl rfl (six_new_at (by simp) _ _ _ _ _ _ _) (six_one _ _ _ _ _ _ _ _) (by decide) (by unfold maxLen; omega) (by omega) (by simp; omega) _ rfl ?_)
                intro g' c' w9 hown9 hgrow9 hat9 hlt9
                have hb9 : Below wo.heap.size wo w9 := ((((HBI.out.trans (HB3.out.mono hsi)).alloc (by omega) _).alloc (by simp; omega) _)).grown hgrow9 (by simp; omega) (fun b hb => (HOWB.out.lt b hb).1)
                have hk9 : ∀ b, b < w3.heap.size → u12.ownBlock ≠ some b → w9.heap[b]? = w3.heap[b]? := fun b hb hne => by
                  rw [hgrow9.block b (by simp; omega) (fun e => hne e.symm)]
                  rw [heap_alloc_old _ _ (by simp; omega), heap_alloc_old _ _ hb]
                have hat9' : u12.ownBlock = some g' ∨ w3.heap.size < g' := by
                  rcases hat9 with h | h
                  · exact .inl h
                  · exact .inr (by first | omega | (simp at h; omega))
                have hs9 : w3.heap.size ≤ w9.heap.size := by have := hgrow9.size; simp at this; omega
                have HO9 := hid hown9
                have HB9 := hid hb9
                clear hown9 hgrow9 hb9 hat9
                go_wp2
                go_roundw
                case rel =>
                  refine ⟨j + 1, xs ++ [⟨x0, x1, x2, x3, x4, xa⟩], cb ++ [[.int .i64 x0, .int .i64 x1, .int .i64 x2, .int .i64 x3, .int .i64 x4, .slice va xa.length vcap]], by go_num, by omega, by rw [List.length_append, HXL.out]; rfl, HOF.out.snoc ?_, by rw [List.flatten_append, List.flatten_singleton]; exact HO9.out, ?_, HB9.out⟩
                  · rw [HXL.out]
                    rw [if_neg HLAST.out]
                    exact HFX.out
                  · refine opBut_snoc (base := wr.heap.size) (o := ⟨x0, x1, x2, x3, x4, xa⟩) HBUTB.out (fun b hb hne => ⟨by omega, ?_, ?_⟩) ?_ ?_
                    · rintro (h | h)
                      · simp [Value.ownBlock] at h
                        rcases hat9' with h' | h'
                        · exact hne (.inl (by rw [h', h]))
                        · omega
                      · exact hne (.inr h)
                    · exact (hk9 b (by omega) (fun e => hne (.inl e))).trans (HB3.out.block b hb)
                    · exact owns_alike HOA.out (fun b hb => hk9 b (HOA.out.lt b hb).2 (fun e => by have h1 := (HOA.out.lt b hb).1; have h2 := (HOWB.out.lt b e).2; omega))
                    · intro b hb
                      have h1 := HOA.out.lt b hb
                      refine ⟨by omega, ?_⟩
                      rintro (h | h)
                      · simp [Value.ownBlock] at h
                        rcases hat9' with h' | h'
                        · have h2 := (HOWB.out.lt _ h').2
                          omega
                        · omega
                      · omega
                case measure => simp [intOf]; omega
            · have hjn' : decide ((j : Int) < (ops : Int)) = false := by simp; omega
              have HJE : Hid (j = ops) := hid (by omega)
              have hj0 : decide ((j : Int) = 0) = false := by simp; omega
              obtain ⟨vg, vc, rfl⟩ : ∃ vg vc, u12 = .slice (some ⟨vg, 0, none⟩) j vc := by
                rcases hownB.2 with ⟨h1, h2⟩ | ⟨g, c', cur, h1, _⟩
                · omega
                · exact ⟨_, c', h1⟩
              have hvg := hownB.lt vg rfl
              have xl : wr.cell? ⟨lb, k * 5 + 4, none⟩ = some (.slice none 0 0) := (hbi.cell (p := ⟨lb, k * 5 + 4, none⟩) hlbr).trans HROW4.out
              have fl : wr.frozen? ⟨lb, k * 5 + 4, none⟩ = false := by
                have := (hbi.block lb hlbr).trans HFZ.out
                simp [World.frozen?, this]
              clear hownB hbut hbi hof hxl
              go_wp2
              go_roundw
              case rel =>
                refine ⟨k + 1, q ++ [⟨hd.name, hd.file, hd.params, hd.locals, xs⟩], css ++ [fnC hd (.slice (some ⟨vg, 0, none⟩) j vc)], by go_num, by omega, by rw [List.length_append, HQL.out]; rfl, ?_, ?_, ?_, ?_, ?_⟩
                · refine HFIT.out.snoc (by rw [HQL.out]; exact HF.out) (by rw [HXL.out]; omega) (by rw [HXL.out]; omega) ?_
                  rw [HXL.out, HJE.out, HQL.out, ← HFF.out]
                  exact HOF.out
                · exact rowF_store (ownsRow_below HOWN.out HBI.out) HBUT.out.all (by rw [HBUT.out.1]; exact HQL.out) HF.out _
                · have hxj := HXL.out
                  subst hxj
                  refine fnBut_snoc (w' := wr.setCell ⟨lb, k * 5 + 4, none⟩ (.slice (some ⟨vg, 0, none⟩) xs.length vc)) (xs := xs) (ba := some ⟨vg, 0, none⟩) (bcap := vc) (hd := hd) (base := wo.heap.size) (base' := wo.heap.size) (Lo := fun b => (Value.slice (some ⟨vg, 0, none⟩) xs.length vc).ownBlock = some b ∨ b < wo.heap.size) (cb := cb) HBUT.out ?_ HNM.out HFL.out ?_ ?_ ?_ ?_ ?_
                  · intro b hb hne
                    refine ⟨by simp; omega, hne, ?_⟩
                    rw [Below.heap_setCell _ _ _ _ (by simp; intro e; exact hne (.inl e))]
                    exact HBI.out.block b hb
                  · exact ownsRow_setCell_other HOWB.out (by simp [Value.ownBlock]; omega) _
                  · refine HBUTB.out.same (fun b hb hne => ⟨by simpa using hb, hne, ?_⟩)
                    rw [Below.heap_setCell _ _ _ _ (by simp; intro e; exact hne (.inr (by omega)))]
                  · intro b _ h1 h2
                    rcases h2 with h2 | h2 <;> omega
                  · intro b _ h1
                    exact Nat.le_of_not_lt fun h => h1 (.inr h)
                  · intro b hb
                    obtain rfl : vg = b := by simpa [Value.ownBlock] using hb
                    exact ⟨hvg.1, by simpa using hvg.2⟩
                · exact (HBEL.out.trans (HBI.out.mono hszr)).setCell (p := ⟨lb, k * 5 + 4, none⟩) hlb1 _
                · simp; omega
              case measure => simp [intOf]; omega
      · have hkp' : decide ((k : Int) < (pl : Int)) = false := by simp; omega
        go_wp2
        go_loopw [12, 13, 14] (fun bv s _ wi => wi.ownsRow wo.heap.size 70 6 bv 0 [] ∧ s = .int .i64 0 ∧ wi = wo) (fun _ _ _ _ => 0)
        case atStart => exact ⟨World.ownsRow_nil _ _ _ _, rfl, rfl⟩
        case round =>
          obtain ⟨hownB, rfl, hwi⟩ := hrel
          rw [hwi] at hownB ⊢
          clear hwi
          obtain ⟨va, vcap, rfl⟩ : ∃ va vcap, u12 = .slice va 0 vcap := by
            rcases hownB.2 with ⟨h1, h2⟩ | ⟨g, c', cur, h1, _⟩
            · exact ⟨none, 0, by rw [h1]⟩
            · exact ⟨_, c', h1⟩
          have HOWB := hid hownB
          clear hownB
          go_wp2_with (at_builtin; refine wpList_append_lies _ rfl (.tmp 75) (.tmp 77) 42 rfl wo.heap.size 70 i0 (.agg #[.int .i64 0, .int .i64 0, .int .i64 0, .int .i64 0, .int .i64 0, .slice none 0 0]) 6 64 Tryz.underlying42 hi hz0 hz1 hz2 rfl (by decide) _ _ _ rfl (HOWB.out.alloc _) ⟨wo.heap.size, 0, none⟩ 1 1 [.int .i64 6, .int .i64 1, .int .i64 0, .int .i64 0, .int .i64 0, .slice none 0 0] rfl rfl (six_new_at rfl _ _ _ _ _ _ _) (six_one _ _ _ _ _ _ _ _) (by decide) (by unfold maxLen; omega) (by omega) (by simp) _ rfl ?_)
          intro g' c' w9 hown9 hgrow9 hat9 hlt9
          have hb9 : Below wo.heap.size wo w9 := ((Below.refl _ _).alloc (Nat.le_refl _) _).grown hgrow9 (by simp) (fun b hb => (HOWB.out.lt b hb).1)
          have hs9 := hb9.size
          have hg9 : wo.heap.size ≤ g' := (hown9.lt g' rfl).1
          have xl : w9.cell? ⟨lb, k * 5 + 4, none⟩ = some (.slice none 0 0) := (hb9.cell (p := ⟨lb, k * 5 + 4, none⟩) hlbr).trans HROW4.out
          have fl : w9.frozen? ⟨lb, k * 5 + 4, none⟩ = false := by
            have := (hb9.block lb hlbr).trans HFZ.out
            simp [World.frozen?, this]
          have HO9 := hid hown9
          have HB9 := hid hb9
          clear hown9 hgrow9 hb9 hat9
          go_wp2
          go_roundw
          case rel =>
            refine ⟨k + 1, q ++ [⟨hd.name, hd.file, hd.params, hd.locals, [⟨6, 1, 0, 0, 0, []⟩]⟩], css ++ [fnC hd (.slice (some ⟨g', 0, none⟩) 1 c')], by go_num, by omega, by rw [List.length_append, HQL.out]; rfl, ?_, ?_, ?_, ?_, ?_⟩
            · refine HFIT.out.snoc (by rw [HQL.out]; exact HF.out) (by simp) (by simp; omega) (fun i o hio => ?_)
              match i, hio with
              | 0, hio =>
                simp at hio
                subst hio
                have := HLC.out
                exact ⟨rfl, by decide, by simp [withB]; omega⟩
              | i + 1, hio => simp at hio
            · exact rowF_store (ownsRow_below HOWN.out HB9.out) HBUT.out.all (by rw [HBUT.out.1]; exact HQL.out) HF.out _
            · refine fnBut_snoc (w' := w9.setCell ⟨lb, k * 5 + 4, none⟩ (.slice (some ⟨g', 0, none⟩) 1 c')) (xs := [⟨6, 1, 0, 0, 0, []⟩]) (ba := some ⟨g', 0, none⟩) (bcap := c') (hd := hd) (base := wo.heap.size) (base' := wo.heap.size) (Lo := fun b => b < wo.heap.size) (cb := [[.int .i64 6, .int .i64 1, .int .i64 0, .int .i64 0, .int .i64 0, .slice none 0 0]]) HBUT.out ?_ HNM.out HFL.out ?_ ?_ ?_ ?_ ?_
              · intro b hb hne
                refine ⟨by simp; omega, hne, ?_⟩
                rw [Below.heap_setCell _ _ _ _ (by simp; intro e; exact hne (.inl e))]
                exact HB9.out.block b hb
              · exact ownsRow_setCell_other HO9.out (by simp [Value.ownBlock]; omega) _
              · exact opBut_snoc (w := wo) (L := fun _ => True) (o := ⟨6, 1, 0, 0, 0, []⟩) (base := 0) RdBut.nil (fun b _ h => absurd trivial h) (World.ownsRow_nil _ _ _ _) (fun b hb => by simp [Value.ownBlock] at hb)
              · intro b _ h1 h2
                rcases h2 with h2 | h2 <;> omega
              · intro b _ h1
                omega
              · intro b hb
                obtain rfl : g' = b := by simpa [Value.ownBlock] using hb
                exact ⟨hg9, by simpa using hlt9⟩
            · exact (HBEL.out.trans (HB9.out.mono hszr)).setCell (p := ⟨lb, k * 5 + 4, none⟩) hlb1 _
            · simp; omega
          case measure => simp [intOf]; omega
    · have hkl' : decide ((k : Int) < (ll : Int)) = false := by simp; omega
      have HKE : Hid (k = ll) := hid (by omega)
      have hk1 := (hbel.block (w.heap.size + 1) (by omega)).trans HK1.out
      have r1 : wo.cell? ⟨w.heap.size + 1, 0, none⟩ = some (.slice none 0 0) := by simp [World.cell?, hk1]
      have t1 : wo.frozen? ⟨w.heap.size + 1, 0, none⟩ = false := by simp [World.frozen?, hk1]
      have HK := hid hk1
      clear hown hbut hbel hfit hql hk1
      go_wp2
      obtain ⟨wF, hwF⟩ : ∃ v, v = wo.setCell ⟨w.heap.size + 1, 0, none⟩ (.slice (some ⟨lb, 0, none⟩) ll lcap) := ⟨_, rfl⟩
      have hF := heap_setCell_same _ _ 0 _ _ (.slice (some ⟨lb, 0, none⟩) ll lcap) HK.out
      rw [← hwF] at hF ⊢
      have y0 : wF.cell? ⟨w.heap.size + 1, 0, none⟩ = some (.slice (some ⟨lb, 0, none⟩) ll lcap) := by simp [World.cell?, hF]
      have hsame : ∀ b, b ≠ w.heap.size + 1 → wF.heap[b]? = wo.heap[b]? := fun b hb => by
        rw [hwF, Below.heap_setCell _ _ _ _ (by simpa using hb)]
      have hql2 : q.length = ll := by rw [HQL.out, HKE.out]
      refine bodyPost_ret (v := .agg #[.slice (some ⟨lb, 0, none⟩) ll lcap]) (by simp [results, Tryz.results11, go_sem, y0]) rfl ⟨?_, l, q, some ⟨lb, 0, none⟩, lcap, by rw [hql2], HOK.out, by rw [← HLL.out]; exact hl1, by rw [← HLL.out]; exact hlm, ⟨by rw [hql2]; exact HLL.out, HFIT.out⟩, ?_⟩
      · rw [hwF]
        exact (HBB.out.trans (HBEL.out.mono HBB.out.size)).setCell (p := ⟨w.heap.size + 1, 0, none⟩) (by simp) _
      · intro W hW
        rw [hql2]
        have hsz : wF.heap.size = wo.heap.size := by rw [hwF]; simp
        have hW2 : ∀ b, b < wo.heap.size → wb.heap.size ≤ b → W.heap[b]? = wo.heap[b]? := fun b hb1 hb2 => (hW b (by omega) (by omega)).trans (hsame b (by omega))
        refine HBUT.out.rdW (base := wb.heap.size) (e := 44) (fun b hb1 hb2 => hW2 b hb1 (Nat.le_of_not_lt fun h => hb2 (.inr h))) hql2 ?_
        have ho := HOWN.out
        have e : rowF css l k = css := by unfold rowF; rw [HKE.out, HLL.out, List.drop_length]; simp
        rw [e, ← HLL.out] at ho
        exact owns_alike ho (fun b hb => hW2 b (ho.lt b hb).2 (ho.lt b hb).1)
end Go.Proofs.YthaganponmnanaaGreatDoor
