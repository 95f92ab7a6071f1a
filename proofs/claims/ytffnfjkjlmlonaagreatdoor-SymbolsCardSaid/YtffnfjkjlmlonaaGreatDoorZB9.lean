/- The contract of the developers' reader's method tree. The contract of the developers' reader's method entry. -/
import Derived.Test.YtffnfjkjlmlonaaGreatDoorZB8
namespace Go.Proofs.YtffnfjkjlmlonaaGreatDoor
open Go.RowKit
theorem mostT_fold (B : Int) : ∀ (l : List (Int × Int)) (n : Int), (∀ p ∈ l, p.1 ≤ B) → n ≤ B → l.foldl (fun n p => if n < p.1 then p.1 else n) n ≤ B
  | [], n, _, h => by simpa using h
  | p :: r, n, hp, h => by
    rw [List.foldl_cons]
    refine mostT_fold B r _ (fun q hq => hp q (List.mem_cons_of_mem _ hq)) ?_
    have := hp p (List.mem_cons_self ..)
    split <;> omega
theorem mostT_le {l : List (Int × Int)} (h : wfS l (-1) 1000 = true) : mostT l ≤ 9999 := by
  refine mostT_fold 9999 l 0 (fun p hp => ?_) (by omega)
  obtain ⟨i, hi, rfl⟩ := List.getElem_of_mem hp
  have g := (sum_take (l := l) (-1) 1000 i h (by omega) hi).2.2.2.2
  unfold isV at g
  have := of_decide_eq_true g
  simpa [List.getD, hi] using this.2
theorem Tryz.infoNode : (Tryz.prog.info? 112).map (fun i => (i.zero, i.size, i.bytes)) = some (some (.agg #[.int .i64 0, .int .i64 0]), 2, 16) := by kernel_rfl
theorem two_new (w : World) (a b : Value) (t : TypeId) : ∀ j u, [a, b][j]? = some u → (w.alloc (.cells #[a, b] t)).cell? ((⟨w.heap.size, 0, none⟩ : Addr).add j) = some u := by
  intro j u hu
  match j, hu with
  | 0, hu => simp at hu; subst hu; simp [Addr.add]
  | 1, hu => simp at hu; subst hu; simp [Addr.add]
theorem two_one (a b : Int) : ∀ u ∈ [Value.int .i64 a, .int .i64 b], u.oneCell' = true := by
  intro u hu; simp at hu; rcases hu with rfl | rfl <;> rfl
theorem rd_of_owns64 {w : World} {base n : Nat} {v : Value} {l : List Int} (h : w.ownsRow base 3 1 v n (i64s l)) (hl : l.length = n) : ∃ a cap, v = .slice a n cap ∧ Rd .i64 w a n cap l ∧ (∀ q, a = some q → v.ownBlock = some q.block) := by
  rcases h.2 with ⟨rfl, rfl⟩ | ⟨g, cap, cur, rfl, hg, hh, h1, h2, h3, h4⟩
  · exact ⟨none, 0, rfl, ⟨hl, Nat.le_refl _, by unfold maxLen; omega, fun i hi => by omega⟩, fun q hq => by cases hq⟩
  · refine ⟨some ⟨g, 0, none⟩, cap, rfl, ⟨hl, h1, h2, fun i hi => ⟨g, 0, rfl, ?_⟩⟩, fun q hq => by cases hq; rfl⟩
    have hc := World.ownsRow.cellAt (w := w) ⟨h.1, .inr ⟨g, cap, cur, rfl, hg, hh, h1, h2, h3, h4⟩⟩ i (by omega)
    rw [Nat.zero_add, hc]
    simp [i64s, List.getD, show i < l.length by omega]
theorem rTreeF_succ (bs inst : List Int) (funcs last : Int) (f : Nat) (k before : Int) (l : List (Int × Int)) (s : RsD) : rTreeF bs inst funcs last (f + 1) k before l s = if k ≤ last ∧ s.e = 0 then rTreeF bs inst funcs last f (k + 1) (rNode bs s inst funcs k before).1.2 (l ++ [(rNode bs s inst funcs k before).1]) (rNode bs s inst funcs k before).2 else (l, s) := rfl
set_option maxHeartbeats 4000000 in
set_option maxRecDepth 100000 in
theorem rtree_any (rb : Nat) (ba : Option Addr) (blen bcap : Nat) (bs : List Int) (nv fv : Value) (s : RsD) (xa : Option Addr) (xlen xcap : Nat) (index : List (Int × Int)) (funcs : Int) (w : World) (hk : w.heap[rb]? = some (.cells (rdA (.slice ba blen bcap) s nv fv) 206 (0, 0))) (hb : Rd .u8 w ba blen bcap bs) (hne : ∀ q, ba = some q → q.block ≠ rb)
    (hx : ∀ j, 0 ≤ bs.getD j 0 ∧ bs.getD j 0 ≤ 255) (hi : InvR bs s) (hr : RdS w xa xlen xcap index) (hwf : wfS index (-1) 1000 = true) :
    Calls Tryz.prog 208 #[.pointer (some ⟨rb, 0, none⟩), .slice xa xlen xcap, .int .i64 funcs] w fun e w' => ∃ v, e = .returned v ∧ OnlyR rb w w' ∧ w'.heap[rb]? = some (.cells (rdA (.slice ba blen bcap) (rTree bs s index funcs).2 nv fv) 206 (0, 0)) ∧ w'.ownsRow w.heap.size 112 2 v (rTree bs s index funcs).1.length (flat (rTree bs s index funcs).1) := by
  have hlt := OnlyR.lt hk
  have HV := hid (values_any xa xlen xcap index w hr hwf)
  have hml := mostT_le hwf
  have hmn := mostT_nn index
  have HT : Hid (rTree bs s index funcs = rTreeF bs (unroll index) funcs (mostT index) (mostT index).toNat 1 (-1) [] s) := rfl
  have HND := hid (fun (W : World) (h : RdS W xa xlen xcap index) => nodes_any xa xlen xcap index W h)
  obtain ⟨i0, hif, hz0, hz1, hz2⟩ := info_parts Tryz.infoNode
  have HK := hid hk
  have HB := hid hb
  have HR := hid hr
  generalize hI : unroll index = inst at *
  generalize mostT index = last at *
  have HRT := hid (rfl : rTree bs s index funcs = rTree bs s index funcs)
  clear hk hb hr hwf hI HRT
  go_enter Tryz.func208, Tryz.ntmps208
  go_wp2_with fail
  refine HV.out.mono ?_
  rintro e w1 ⟨v, rfl, hown1, b1⟩
  obtain ⟨ia, icap, rfl, hrd1, hiq⟩ := rd_of_owns64 hown1 rfl
  go_wp2_with fail
  refine (HND.out w1 (HR.out.below b1 (Nat.le_refl _))).mono ?_
  rintro e w2 ⟨rfl, b2⟩
  have b12 : Below w.heap.size w w2 := b1.trans (b2.mono b1.size)
  have hsz2 := b12.size
  have hk2 : w2.heap[rb]? = some (.cells (rdA (.slice ba blen bcap) s nv fv) 206 (0, 0)) := (b12.block rb hlt).trans HK.out
  have hrd2 : Rd .i64 w2 ia inst.length icap inst := hrd1.below b2 (Nat.le_refl _)
  have hin : ∀ q, ia = some q → q.block ≠ rb := fun q hq e => by
    have := (hown1.lt q.block (hiq q hq)).1
    omega
  have HB2 := hid (HB.out.below b12 (Nat.le_refl _))
  have HI2 := hid hrd2
  have HK2 := hid hk2
  have HB12 := hid b12
  have hlt2 : rb < w2.heap.size := by omega
  clear hown1 hrd1 hrd2 hk2 hiq b1 b2 b12
  go_wp2
  go_loopw [7, 10, 11] (fun lv bf k wr => ∃ (acc : List (Int × Int)) (f : Nat) (K B : Int) (sj : RsD), bf = .int .i64 B ∧ k = .int .i64 K ∧ 1 ≤ K ∧ K ≤ last + 1 ∧ last + 1 - K = f ∧ (acc.length : Int) + 1 = K ∧ -1 ≤ B ∧ rTree bs s index funcs = rTreeF bs inst funcs last f K B acc sj ∧ InvR bs sj ∧ OnlyR rb w2 wr ∧ wr.heap[rb]? = some (.cells (rdA (.slice ba blen bcap) sj nv fv) 206 (0, 0)) ∧ wr.ownsRow w2.heap.size 112 2 lv acc.length (flat acc)) (fun _ _ k _ => (last + 1 - intOf k).toNat)
  case atStart => exact ⟨[], last.toNat, 1, -1, s, rfl, rfl, by omega, by omega, by omega, by simp, by omega, HT.out, hi, OnlyR.refl _ _, HK2.out, World.ownsRow_nil _ _ _ _⟩
  case round =>
    clear HT hi HK2
    obtain ⟨acc, f, K, B, sj, rfl, rfl, hK1, hK2, hKf, haK, hB, hTr, hinv, hon, hkr, hown⟩ := hrel
    obtain ⟨la, lcap, rfl, hl1, hl2⟩ := owns_form hown
    by_cases hKl : K ≤ last
    · have c3 : wr.cell? ⟨rb, 3, none⟩ = some (.int .i64 sj.e) := by simp [World.cell?, hkr, rdA]
      obtain ⟨f, rfl⟩ : ∃ f', f = f' + 1 := ⟨f - 1, by omega⟩
      rw [rTreeF_succ] at hTr
      by_cases he : sj.e = 0
      · have he' : (sj.e == 0) = true := by simpa using he
        rw [if_pos ⟨hKl, he⟩] at hTr
        have HNo : Hid (rNode bs sj inst funcs K B = _) := hid (show rNode bs sj inst funcs K B = (((rNum bs sj).1, (rNum bs (rTake (rNum bs sj).2 (withB (rNum bs sj).1 funcs))).1), rTake (rNum bs (rTake (rNum bs sj).2 (withB (rNum bs sj).1 funcs))).2 (pcB (rNum bs (rTake (rNum bs sj).2 (withB (rNum bs sj).1 funcs))).1 B K inst)) from rfl)
        have hin1 := (rNum_inv hx hinv).1
        have hin2 := rTake_inv hin1 (withB (rNum bs sj).1 funcs)
        have hin3 := rNum_inv hx hin2
        have hin4 := rTake_inv hin3.1 (pcB (rNum bs (rTake (rNum bs sj).2 (withB (rNum bs sj).1 funcs))).1 B K inst)
        have HRB := hid (HB2.out.only hon hne)
        have HRI := hid (HI2.out.only hon hin)
        have HN1 := hid (rnumber_any rb ba blen bcap bs nv fv sj wr hkr HRB.out hx)
        obtain ⟨⟨fn, s1⟩, hn1⟩ : ∃ p, rNum bs sj = p := ⟨_, rfl⟩
        rw [hn1] at HN1 HNo hin2 hin3 hin4
        simp only at HN1 HNo hin2 hin3 hin4
        have HFM := hid (fun W => funcMayBe_any fn funcs W)
        have HT1 := hid (fun (W : World) (h : W.heap[rb]? = some (.cells (rdA (.slice ba blen bcap) s1 nv fv) 206 (0, 0))) => take_any rb (.slice ba blen bcap) nv fv s1 (withB fn funcs) W h)
        obtain ⟨s2, hs2⟩ : ∃ p, rTake s1 (withB fn funcs) = p := ⟨_, rfl⟩
        rw [hs2] at HT1 HNo hin3 hin4 hin2
        have HN2 := hid (fun (W : World) (h : W.heap[rb]? = some (.cells (rdA (.slice ba blen bcap) s2 nv fv) 206 (0, 0))) (hb' : Rd .u8 W ba blen bcap bs) => rnumber_any rb ba blen bcap bs nv fv s2 W h hb' hx)
        obtain ⟨⟨pc, s3⟩, hn3⟩ : ∃ p, rNum bs s2 = p := ⟨_, rfl⟩
        rw [hn3] at HN2 HNo hin3 hin4
        simp only at HN2 HNo hin3 hin4
        have HPC := hid (fun (W : World) (h : Rd .i64 W ia inst.length icap inst) => pcMayBe_any pc B K ia inst.length icap inst W h hB)
        have HT2 := hid (fun (W : World) (h : W.heap[rb]? = some (.cells (rdA (.slice ba blen bcap) s3 nv fv) 206 (0, 0))) => take_any rb (.slice ba blen bcap) nv fv s3 (pcB pc B K inst) W h)
        obtain ⟨s4, hs4⟩ : ∃ p, rTake s3 (pcB pc B K inst) = p := ⟨_, rfl⟩
        rw [hs4] at HT2 HNo hin4
        rw [HNo.out] at hTr
        simp only at hTr
        have hpc0 := hin3.2
        have HTR := hid hTr
        have HIN4 := hid hin4
        have HOWN := hid hown
        have HON := hid hon
        have HKR := hid hkr
        have hltr := OnlyR.lt hkr
        generalize withB fn funcs = wb at *
        generalize pcB pc B K inst = pb at *
        clear hn1 hs2 hn3 hs4 HNo hTr hin1 hin2 hin3 hin4 hown hon hkr he hinv
        go_wp2_with fail
        refine HN1.out.mono ?_
        rintro e w3 ⟨rfl, o3, k3⟩
        go_wp2_with fail
        refine (HFM.out _).mono ?_
        rintro e w' ⟨rfl, rfl⟩
        go_wp2_with fail
        refine (HT1.out _ k3).mono ?_
        rintro e w4 ⟨rfl, o4, k4⟩
        have o34 := o3.trans o4
        go_wp2_with fail
        refine (HN2.out w4 k4 (HRB.out.only o34 hne)).mono ?_
        rintro e w5 ⟨rfl, o5, k5⟩
        have o35 := o34.trans o5
        go_wp2_with fail
        refine (HPC.out w5 (HRI.out.only o35 hin)).mono ?_
        rintro e w' ⟨rfl, rfl⟩
        go_wp2_with fail
        refine (HT2.out _ k5).mono ?_
        rintro e w6 ⟨rfl, o6, k6⟩
        have o36 := o35.trans o6
        have hner : (Value.slice la acc.length lcap).ownBlock ≠ some rb := fun e => owns_other HOWN.out HKR.out (by decide) e.symm
        have hown6 : w6.ownsRow w2.heap.size 112 2 (.slice la acc.length lcap) acc.length (flat acc) := ownsRow_block HOWN.out (fun q hq1 hq2 => o36.block q hq2 (fun e => hner (e ▸ hq1)))
        have HO6 := hid hown6
        have hw26 : w2.heap.size ≤ w6.heap.size := Nat.le_trans HON.out.size o36.size
        clear hown6
        go_wp2_with (at_builtin; refine wpList_append_lies _ rfl (.tmp 46) (.tmp 50) 110 rfl w2.heap.size 112 i0 (.agg #[.int .i64 0, .int .i64 0]) 2 16 Tryz.underlying110 hif hz0 hz1 hz2 rfl (by decide) _ _ _ rfl (HO6.out.alloc _) ⟨w6.heap.size, 0, none⟩ 1 1 [.int .i64 fn, .int .i64 pc] rfl rfl (two_new _ _ _ _) (two_one _ _) (by decide) (by unfold maxLen; omega) (by omega) (by simp; omega) _ rfl ?_)
        intro g cap' w7 hown7 hgrow7 hat7 hlt7
        have hr6 := OnlyR.lt k6
        have HR7 : Hid (OnlyR rb w2 w7 ∧ w7.heap[rb]? = some (.cells (rdA (.slice ba blen bcap) s4 nv fv) 206 (0, 0)) ∧ w7.ownsRow w2.heap.size 112 2 (.slice (some ⟨g, 0, none⟩) (acc.length + 1) cap') (acc ++ [(fn, pc)]).length (flat (acc ++ [(fn, pc)]))) := by
          have o26 : OnlyR rb w2 w6 := HON.out.trans o36
          have hb7 : Below w2.heap.size w6 w7 := ((Below.refl _ _).alloc hw26 _).grown hgrow7 (by simp; omega) (fun q hq => (HO6.out.lt q hq).1)
          refine ⟨⟨hb7.os.trans o26.os, hb7.tape.trans o26.tape, hb7.output.trans o26.output, Nat.le_trans o26.size hb7.size, fun q hq hn => (hb7.block q hq).trans (o26.block q hq hn)⟩, (hgrow7.block rb (by simp; omega) (fun e => hner e.symm)).trans ((heap_alloc_old _ _ hr6).trans k6), ?_⟩
          rw [flat_snoc]
          simpa using hown7
        clear hown7 hgrow7 hat7 HO6 k6 o36 o6 o35 o5 k5 k4 k3 o34 o4 o3
        go_wp2
        go_roundw
        case rel => exact ⟨acc ++ [(fn, pc)], f, K + 1, pc, s4, rfl, rfl, by omega, by omega, by omega, by simp; omega, by omega, HTR.out, HIN4.out, HR7.out.1, HR7.out.2.1, HR7.out.2.2⟩
        case measure => simp [intOf]; omega
      · have he' : (sj.e == 0) = false := by simpa using he
        rw [if_neg (fun h => he h.2)] at hTr
        have HF : Hid (OnlyR rb w wr ∧ wr.heap[rb]? = some (.cells (rdA (.slice ba blen bcap) (rTree bs s index funcs).2 nv fv) 206 (0, 0)) ∧ wr.ownsRow w.heap.size 112 2 (.slice la acc.length lcap) (rTree bs s index funcs).1.length (flat (rTree bs s index funcs).1)) := by
          rw [hTr]
          exact ⟨(OnlyR.below HB12.out).trans hon, hkr, owns_low7 hown hsz2⟩
        clear hTr hown hon he
        go_wp2
        go_ret
        exact ⟨_, rfl, HF.out⟩
    · have hKl' : decide (K ≤ last) = false := by simpa using hKl
      have hf0 : f = 0 := by omega
      subst hf0
      have HF : Hid (OnlyR rb w wr ∧ wr.heap[rb]? = some (.cells (rdA (.slice ba blen bcap) (rTree bs s index funcs).2 nv fv) 206 (0, 0)) ∧ wr.ownsRow w.heap.size 112 2 (.slice la acc.length lcap) (rTree bs s index funcs).1.length (flat (rTree bs s index funcs).1)) := by
        rw [hTr]
        exact ⟨(OnlyR.below HB12.out).trans hon, hkr, owns_low7 hown hsz2⟩
      clear hTr hown hon
      go_wp2
      go_ret
      exact ⟨_, rfl, HF.out⟩
end Go.Proofs.YtffnfjkjlmlonaaGreatDoor
namespace Go.Proofs.YtffnfjkjlmlonaaGreatDoor
open Go.RowKit
theorem KeepT.owns {w w' : World} {base : Nat} {e : TypeId} {size : Nat} {v : Value} {n : Nat} {xs : List Value} (hk : KeepT w w') (h : w.ownsRow base e size v n xs) (he : kT e = true) : w'.ownsRow base e size v n xs := by
  refine ⟨h.1, ?_⟩
  rcases h.2 with hn | ⟨g, cap, cur, rfl, hg, hh, r⟩
  · exact .inl hn
  · exact .inr ⟨g, cap, cur, rfl, hg, hk.block g _ _ _ hh he, r⟩
theorem KeepT.setNew {a w : World} {eb : Nat} (h : KeepT a w) (he : a.heap.size ≤ eb) (j : Nat) (u : Value) : KeepT a (w.setCell ⟨eb, j, none⟩ u) :=
  ⟨by rw [show (w.setCell ⟨eb, j, none⟩ u).heap.size = w.heap.size by simp [World.setCell]]; exact h.size, fun b cs t fz hb ht => (Below.heap_setCell _ _ _ _ (fun e => by have := (Array.getElem?_eq_some_iff.1 hb).1; simp at e; omega)).trans (h.block b cs t fz hb ht)⟩
theorem rdsOf {w : World} {base n : Nat} {e : TypeId} {v : Value} {l : List (Int × Int)} (h : w.ownsRow base e 2 v n (flat l)) (hl : l.length = n) : ∃ a cap, v = .slice a n cap ∧ RdS w a n cap l := by
  rcases h.2 with ⟨rfl, rfl⟩ | ⟨g, cap, cur, rfl, hg, hh, h1, h2, h3, h4⟩
  · exact ⟨none, 0, rfl, hl, Nat.le_refl _, by unfold maxLen; omega, fun i hi => by omega⟩
  · have hw : w.ownsRow base e 2 (.slice (some ⟨g, 0, none⟩) n cap) n (flat l) := ⟨h.1, .inr ⟨g, cap, cur, rfl, hg, hh, h1, h2, h3, h4⟩⟩
    have fget : ∀ (l : List (Int × Int)) (i : Nat), i < l.length → (flat l)[i * 2]? = some (.int .i64 (l.getD i (0, 0)).1) ∧ (flat l)[i * 2 + 1]? = some (.int .i64 (l.getD i (0, 0)).2) := by
      intro l
      induction l with
      | nil => intro i hi; simp at hi
      | cons p t ih =>
        intro i hi
        cases i with
        | zero => simp [flat]
        | succ i =>
          have := ih i (by simpa using hi)
          have e1 : (i + 1) * 2 = i * 2 + 2 := by omega
          have e2 : flat (p :: t) = [.int .i64 p.1, .int .i64 p.2] ++ flat t := by simp [flat]
          rw [e1, e2, List.getElem?_append_right (by simp), List.getElem?_append_right (by simp)]
          simpa using this
    refine ⟨some ⟨g, 0, none⟩, cap, rfl, hl, h1, h2, fun i hi => ⟨g, 0, rfl, ?_, ?_⟩⟩
    · rw [Nat.zero_add, hw.cellAt (i * 2) (by omega)]; exact (fget l i (by omega)).1
    · rw [Nat.zero_add, hw.cellAt (i * 2 + 1) (by omega)]; exact (fget l i (by omega)).2
theorem RdrAt.box {w0 : World} {b : Value} {rb : Nat} {w : World} {s : RsD} (h : RdrAt w0 b rb w s) : ∃ nv fv, w.heap[rb]? = some (.cells (rdA b s nv fv) 206 (0, 0)) := by
  obtain ⟨nv, fv, hk, _⟩ := h
  exact ⟨nv, fv, hk⟩
theorem RdrAt.lt {w0 : World} {b : Value} {rb : Nat} {w : World} {s : RsD} (h : RdrAt w0 b rb w s) : rb < w.heap.size := by
  obtain ⟨nv, fv, hk, _⟩ := h
  exact OnlyR.lt hk
theorem RdrAt.rb {w0 : World} {b : Value} {rb : Nat} {w : World} {s : RsD} (h : RdrAt w0 b rb w s) : w0.heap.size ≤ rb := by
  obtain ⟨nv, fv, hk, _, h1, _⟩ := h
  exact h1
theorem RdrAt.since {w0 : World} {b : Value} {rb : Nat} {w : World} {s : RsD} (h : RdrAt w0 b rb w s) : Below w0.heap.size w0 w := by
  obtain ⟨nv, fv, hk, h1, _⟩ := h
  exact h1
theorem RdrAt.below {w0 : World} {b : Value} {rb : Nat} {w w' : World} {s : RsD} (h : RdrAt w0 b rb w s) (hb : Below w.heap.size w w') : RdrAt w0 b rb w' s := by
  obtain ⟨nv, fv, hk, h1, h2, h3, h4, h5⟩ := h
  exact ⟨nv, fv, (hb.block rb (OnlyR.lt hk)).trans hk, h1.trans (hb.mono h1.size), h2, ownsRow_block h3 (fun k _ hk2 => hb.block k hk2), ownsRow_block h4 (fun k _ hk2 => hb.block k hk2), h5⟩
/-- A store into a block of another kind. -/
theorem RdrAt.setOther {w0 : World} {b : Value} {rb eb : Nat} {w : World} {s : RsD} {cs : Array Value} {fz : Nat × Nat} (h : RdrAt w0 b rb w s) (he : w.heap[eb]? = some (.cells cs 115 fz)) (h0 : w0.heap.size ≤ eb) (j : Nat) (u : Value) : RdrAt w0 b rb (w.setCell ⟨eb, j, none⟩ u) s := by
  obtain ⟨nv, fv, hk, h1, h2, h3, h4, h5⟩ := h
  have hne : rb ≠ eb := fun e => by subst e; rw [hk] at he; cases he
  refine ⟨nv, fv, (Below.heap_setCell _ _ _ _ hne).trans hk, h1.setCell (p := ⟨eb, j, none⟩) h0 _, h2, ?_, ?_, h5⟩
  · exact ownsRow_setCell_other h3 (fun e => owns_other h3 he (by decide) e.symm) _
  · exact ownsRow_setCell_other h4 (fun e => owns_other h4 he (by decide) e.symm) _
/-- A method that writes the reader's box alone. -/
theorem RdrAt.next {w0 : World} {b : Value} {rb : Nat} {w w' : World} {s s' : RsD} (h : RdrAt w0 b rb w s) (ho : OnlyR rb w w') (hk : ∀ nv fv, w.heap[rb]? = some (.cells (rdA b s nv fv) 206 (0, 0)) → w'.heap[rb]? = some (.cells (rdA b s' nv fv) 206 (0, 0))) (e1 : s'.names = s.names) (e2 : s'.files = s.files) : RdrAt w0 b rb w' s' ∧ KeepT w w' := by
  obtain ⟨nv, fv, hk0, h1, h2, h3, h4, h5, h6, h7⟩ := h
  exact ⟨RdrAt.only hk0 h1 h2 h3 h4 h5 h6 h7 ho (hk nv fv hk0) e1 e2, KeepT.only ho hk0⟩
section
variable (w0 : World) (ba : Option Addr) (blen bcap : Nat) (bs : List Int) (rb : Nat) (s : RsD) (w : World)
theorem take_at (hR : RdrAt w0 (.slice ba blen bcap) rb w s) (m : Bool) :
    Calls Tryz.prog 158 #[.pointer (some ⟨rb, 0, none⟩), .bool m] w fun e w' => e = .returned (.tuple #[]) ∧ RdrAt w0 (.slice ba blen bcap) rb w' (rTake s m) ∧ KeepT w w' := by
  obtain ⟨nv, fv, hk⟩ := hR.box
  refine (take_any rb (.slice ba blen bcap) nv fv s m w hk).mono fun e w' ⟨he, ho, hk'⟩ => ⟨he, ?_⟩
  exact hR.next ho (fun nv' fv' h => by rw [hk] at h; cases h; exact hk') (rTake_nf s m).1 (rTake_nf s m).2.1
theorem rtable_at (hR : RdrAt w0 (.slice ba blen bcap) rb w s) (hb0 : Rd .u8 w0 ba blen bcap bs) (hx : ∀ j, 0 ≤ bs.getD j 0 ∧ bs.getD j 0 ≤ 255) :
    Calls Tryz.prog 206 #[.pointer (some ⟨rb, 0, none⟩)] w fun e w' => ∃ v, e = .returned v ∧ RdrAt w0 (.slice ba blen bcap) rb w' (rTab bs s).2 ∧ KeepT w w' ∧ w'.ownsRow w.heap.size 109 2 v (rTab bs s).1.length (flat (rTab bs s).1) := by
  obtain ⟨nv, fv, hk⟩ := hR.box
  refine (rtable_any rb ba blen bcap bs nv fv s w hk (hb0.below hR.since (Nat.le_refl _)) hx).mono fun e w' ⟨v, he, ho, hk', hown⟩ => ⟨v, he, ?_⟩
  have := hR.next ho (fun nv' fv' h => by rw [hk] at h; cases h; exact hk') (rTab_nf bs s).1 (rTab_nf bs s).2.1
  exact ⟨this.1, this.2, hown⟩
theorem rTreeF_nf (inst : List Int) (funcs last : Int) : ∀ (f : Nat) (k before : Int) (l : List (Int × Int)) (s : RsD), (rTreeF bs inst funcs last f k before l s).2.names = s.names ∧ (rTreeF bs inst funcs last f k before l s).2.files = s.files ∧ (rTreeF bs inst funcs last f k before l s).2.room = s.room
  | 0, _, _, _, _ => ⟨rfl, rfl, rfl⟩
  | f + 1, k, before, l, s => by
    rw [rTreeF_succ]
    split
    · have := rTreeF_nf inst funcs last f (k + 1) (rNode bs s inst funcs k before).1.2 (l ++ [(rNode bs s inst funcs k before).1]) (rNode bs s inst funcs k before).2
      have h1 : (rNode bs s inst funcs k before).2.names = s.names ∧ (rNode bs s inst funcs k before).2.files = s.files ∧ (rNode bs s inst funcs k before).2.room = s.room := by
        unfold rNode
        simp only
        refine ⟨?_, ?_, ?_⟩
        · rw [(rTake_nf _ _).1, (rNum_nf _ _).1, (rTake_nf _ _).1, (rNum_nf _ _).1]
        · rw [(rTake_nf _ _).2.1, (rNum_nf _ _).2.1, (rTake_nf _ _).2.1, (rNum_nf _ _).2.1]
        · rw [(rTake_nf _ _).2.2, (rNum_nf _ _).2.2, (rTake_nf _ _).2.2, (rNum_nf _ _).2.2]
      exact ⟨this.1.trans h1.1, this.2.1.trans h1.2.1, this.2.2.trans h1.2.2⟩
    · exact ⟨rfl, rfl, rfl⟩
theorem rtree_at (hR : RdrAt w0 (.slice ba blen bcap) rb w s) (hb0 : Rd .u8 w0 ba blen bcap bs) (hne : ∀ q, ba = some q → q.block < w0.heap.size) (hx : ∀ j, 0 ≤ bs.getD j 0 ∧ bs.getD j 0 ≤ 255) (hi : InvR bs s)
    (xa : Option Addr) (xlen xcap : Nat) (index : List (Int × Int)) (funcs : Int) (hr : RdS w xa xlen xcap index) (hwf : wfS index (-1) 1000 = true) :
    Calls Tryz.prog 208 #[.pointer (some ⟨rb, 0, none⟩), .slice xa xlen xcap, .int .i64 funcs] w fun e w' => ∃ v, e = .returned v ∧ RdrAt w0 (.slice ba blen bcap) rb w' (rTree bs s index funcs).2 ∧ KeepT w w' ∧ w'.ownsRow w.heap.size 112 2 v (rTree bs s index funcs).1.length (flat (rTree bs s index funcs).1) := by
  obtain ⟨nv, fv, hk⟩ := hR.box
  have hrb := hR.rb
  refine (rtree_any rb ba blen bcap bs nv fv s xa xlen xcap index funcs w hk (hb0.below hR.since (Nat.le_refl _)) (fun q hq => by have := hne q hq; omega) hx hi hr hwf).mono fun e w' ⟨v, he, ho, hk', hown⟩ => ⟨v, he, ?_⟩
  have hnf := rTreeF_nf bs (unroll index) funcs (mostT index) (mostT index).toNat 1 (-1) [] s
  have := hR.next ho (fun nv' fv' h => by rw [hk] at h; cases h; exact hk') hnf.1 hnf.2.1
  exact ⟨this.1, this.2, hown⟩
end
theorem wfS_of_getT (bs : List Int) (hx : ∀ j, 0 ≤ bs.getD j 0 ∧ bs.getD j 0 ≤ 255) (s : RsD) : wfS (rTab bs s).1 (-1) 1000 = true := by
  unfold rTab
  split
  · rfl
  · simp only
    by_cases h : (getT bs s.at_).2.2 = 0
    · have := (getT_inv bs hx s.at_ h).2
      unfold wfT at this
      rw [Bool.and_eq_true] at this
      exact this.1
    · have he : (getT bs s.at_).1 = [] := by
        unfold getT at h ⊢
        split
        · rfl
        · rename_i h0
          rw [if_neg h0] at h
          have : ∀ (f : Nat) (acc : List (Int × Int)) (at_ b r : Int), (getTF bs f acc at_ b r).2.2 ≠ 0 → (getTF bs f acc at_ b r).1 = [] := by
            intro f
            induction f with
            | zero => intro acc at_ b r _; rfl
            | succ f ih =>
              intro acc at_ b r hh
              rw [getTF_succ] at hh ⊢
              split
              · rename_i h1; rw [if_pos h1] at hh; simp at hh
              · rename_i h1
                rw [if_neg h1] at hh
                split
                · rfl
                · rename_i h2
                  rw [if_neg h2] at hh
                  exact ih _ _ _ _ hh
          exact this _ _ _ _ _ h
      rw [he]; rfl
end Go.Proofs.YtffnfjkjlmlonaaGreatDoor
