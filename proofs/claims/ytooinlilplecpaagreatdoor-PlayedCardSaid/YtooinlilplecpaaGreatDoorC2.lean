/- Contracts of the reference's goodHead and goodCall: they give the plain functions headB and callB; nothing that was there is written. -/
import Derived.Test.YtooinlilplecpaaGreatDoorC1
namespace Go.Proofs.YtooinlilplecpaaGreatDoor
open Go.RowKit

theorem RdL.len {α : Type} {size : Nat} {R : World → List Value → α → Prop} {w : World} {a : Option Addr} {len cap : Nat} {l : List α} (h : RdL size R w a len cap l) : l.length = len := h.1

/-- One function of a program, as it lies in memory. -/
theorem RdP.at {w : World} {a : Option Addr} {len cap : Nat} {p : List FnD} (h : RdP w a len cap p) (i : Nat) (x : FnD) (hx : p[i]? = some x) :
    ∃ b off ba bcap, a = some ⟨b, off, none⟩ ∧ b < w.heap.size ∧ w.cell? ⟨b, off + i * 5, none⟩ = some (.string x.name) ∧ w.cell? ⟨b, off + i * 5 + 1, none⟩ = some (.string x.file) ∧
      w.cell? ⟨b, off + i * 5 + 2, none⟩ = some (.int .i64 x.params) ∧ w.cell? ⟨b, off + i * 5 + 3, none⟩ = some (.int .i64 x.locals) ∧
      w.cell? ⟨b, off + i * 5 + 4, none⟩ = some (.slice ba x.body.length bcap) ∧ RdL 6 RdOp w ba x.body.length bcap x.body ∧ x.name.size ≤ maxLen ∧ x.file.size ≤ maxLen := by
  obtain ⟨b, off, cs, e, hl, hc, ba, bcap, rfl, hr, h1, h2⟩ := h.2.2.2 i x hx
  have c0 := hc 0 _ rfl
  exact ⟨b, off, ba, bcap, e, World.block_lt_of_cell? w _ c0, c0, hc 1 _ rfl, hc 2 _ rfl, hc 3 _ rfl, hc 4 _ rfl, hr, h1, h2⟩

theorem any_take_succ {α : Type} (l : List α) (k : Nat) (x : α) (q : α → Bool) (h : l[k]? = some x) : (l.take (k + 1)).any q = ((l.take k).any q || q x) := by
  obtain ⟨hk, e⟩ := List.getElem?_eq_some_iff.1 h
  rw [List.take_succ_eq_append_getElem hk, List.any_append, e]
  simp
theorem all_take_succ {α : Type} (l : List α) (k : Nat) (x : α) (q : α → Bool) (h : l[k]? = some x) : (l.take (k + 1)).all q = ((l.take k).all q && q x) := by
  obtain ⟨hk, e⟩ := List.getElem?_eq_some_iff.1 h
  rw [List.take_succ_eq_append_getElem hk, List.all_append, e]
  simp

set_option maxHeartbeats 2000000 in
set_option maxRecDepth 100000 in
theorem goodHead_any (a : Option Addr) (len cap : Nat) (p : List FnD) (f : Nat) (x : FnD) (w : World) (hr : RdP w a len cap p) (hx : p[f]? = some x) :
    Calls Tryz.prog 93 #[.slice a len cap, .int .i64 (f : Int)] w fun e w' => e = .returned (.bool (headB p f x)) ∧ Below w.heap.size w w' := by
  have HL := hid hr.len
  have hcap := hr.2.1
  have hmax := hr.2.2.1
  unfold maxLen at hmax
  have hf : f < len := by rw [← HL.out]; exact (List.getElem?_eq_some_iff.1 hx).1
  obtain ⟨b, off, ba, bcap, rfl, hb, c0, c1, c2, c3, c4, hrb, hn1, hn2⟩ := hr.at f x hx
  have hbl1 := hrb.2.1
  have hbl2 := hrb.2.2.1
  unfold maxLen at hbl2
  have HW1 := hid (fun W => word_any x.name W hn1)
  have HW2 := hid (fun W => word_any x.file W hn2)
  have HX := hid hx
  clear hx hn1 hn2 hrb
  obtain ⟨nm, hnm⟩ : ∃ nm, nm = x.name := ⟨_, rfl⟩
  obtain ⟨fl, hfl⟩ : ∃ fl, fl = x.file := ⟨_, rfl⟩
  obtain ⟨pr, hpr⟩ : ∃ pr, pr = x.params := ⟨_, rfl⟩
  obtain ⟨lo, hlo⟩ : ∃ lo, lo = x.locals := ⟨_, rfl⟩
  obtain ⟨nb, hnb⟩ : ∃ nb, nb = x.body.length := ⟨_, rfl⟩
  have hH : headB p f x = (!((p.take f).any fun y => eqB y.name nm) && (decide (1 ≤ lo ∧ lo ≤ 8 ∧ 0 ≤ pr ∧ pr ≤ lo) && (wordB nm && wordB fl && decide (1 ≤ nb ∧ nb ≤ 30)))) := by
    unfold headB; rw [hnm, hfl, hpr, hlo, hnb]
  rw [← hnm] at c0 HW1
  rw [← hfl] at c1 HW2
  rw [← hpr] at c2
  rw [← hlo] at c3
  rw [← hnb] at c4 hbl1
  have HH := hid hH
  clear hnm hfl hpr hlo hnb hH
  obtain ⟨wn, hwn⟩ : ∃ wn, wn = wordB nm := ⟨_, rfl⟩
  obtain ⟨wf, hwf⟩ : ∃ wf, wf = wordB fl := ⟨_, rfl⟩
  rw [← hwn] at HH HW1
  rw [← hwf] at HH HW2
  clear hwn hwf
  go_enter Tryz.func93, Tryz.ntmps93
  go_wp2_with fail
  obtain ⟨bw, hbw⟩ : ∃ bw, bw = w.alloc (Obj.cells #[.string nm, .string fl, .int .i64 pr, .int .i64 lo, .slice ba nb bcap] 122) := ⟨_, rfl⟩
  have hbb : Below w.heap.size w bw := by rw [hbw]; exact (Below.refl _ _).alloc (Nat.le_refl _) _
  have hbk : bw.heap[w.heap.size]? = some (.cells #[.string nm, .string fl, .int .i64 pr, .int .i64 lo, .slice ba nb bcap] 122 (0, 0)) := by rw [hbw]; exact heap_alloc_new _ _
  have hbs : bw.heap.size = w.heap.size + 1 := by rw [hbw]; simp
  rw [← hbw]
  clear hbw c0 c1 c2 c3 c4
  refine (HW1.out _).mono ?_
  rintro e w1 ⟨rfl, hb1⟩
  have hk1 := (hb1.block w.heap.size (by omega)).trans hbk
  have hx1 : w1.cell? ⟨w.heap.size, 1, none⟩ = some (.string fl) := by simp [World.cell?, hk1]
  have hbel1 := hbb.trans (hb1.mono hbb.size)
  have hs1 := hb1.size
  clear hbk hb1 hbb
  have HK1 := hid hk1
  clear hk1
  go_wp2_with fail
  refine (HW2.out _).mono ?_
  rintro e w2 ⟨rfl, hb2⟩
  have hk2 := (hb2.block w.heap.size (by omega)).trans HK1.out
  have hbel2 := hbel1.trans (hb2.mono hbel1.size)
  have hs2 := hb2.size
  clear hx1 HK1 hb2 hbel1 HW1 HW2
  have HK2 := hid hk2
  clear hk2
  go_wp2
  go_loopw [8] (fun i wr => ∃ j : Nat, i = .int .i64 j ∧ j ≤ f ∧ ((p.take j).any fun y => eqB y.name nm) = false ∧ Below w2.heap.size w2 wr) (fun i _ => f - (intOf i).toNat)
  case atStart => exact ⟨0, rfl, by omega, rfl, Below.refl _ _⟩
  case round =>
    obtain ⟨j, rfl, hj, hno, hbel⟩ := hrel
    have HNO := hid hno
    have hkr := (hbel.block w.heap.size (by omega)).trans HK2.out
    have hbt := hbel2.trans (hbel.mono hbel2.size)
    have hx0 : wr.cell? ⟨w.heap.size, 0, none⟩ = some (.string nm) := by simp [World.cell?, hkr]
    clear hno
    by_cases hjf : j < f
    · obtain ⟨y, hy⟩ : ∃ y, p[j]? = some y := ⟨_, List.getElem?_eq_getElem (by rw [HL.out]; omega)⟩
      obtain ⟨b', off', _, _, e', _, d0, _⟩ := (hr.below hbt).at j y hy
      cases e'
      have hst := any_take_succ p j y (fun z => eqB z.name nm) hy
      rw [HNO.out, Bool.false_or] at hst
      obtain ⟨ym, hym⟩ : ∃ ym, ym = y.name := ⟨_, rfl⟩
      rw [← hym] at d0 hst
      have HST := hid hst
      clear hst hym hy hkr hr
      obtain ⟨q, hq⟩ : ∃ q, q = eqB ym nm := ⟨_, rfl⟩
      rw [← hq] at HST
      have hqq : (ym.toList == nm.toList) = q := by rw [hq]; rfl
      have HQ := hid hqq
      clear hq
      cases q with
      | true =>
        have HF : Hid (headB p f x = false) := by
          show _ = _
          rw [HH.out]
          have : ((p.take f).any fun y => eqB y.name nm) = true := by
            have e1 : p.take f = p.take (j + 1) ++ (p.take f).drop (j + 1) := by
              have := List.take_append_drop (j + 1) (p.take f)
              rw [List.take_take, Nat.min_eq_left (by omega)] at this
              exact this.symm
            rw [e1, List.any_append, HST.out, Bool.true_or]
          rw [this]; rfl
        go_wp2
        go_quiet (fail)
        go_wp2
        go_ret
        exact ⟨ret_bool HF.out.symm, below_drawn hbt nq⟩
      | false =>
        go_wp2
        go_quiet (fail)
        go_wp2
        go_roundw
        case rel => exact ⟨j + 1, by go_num, by omega, HST.out, below_drawn hbel nq⟩
        case measure => simp [intOf]; omega
    · have hjf' : j = f := by omega
      subst hjf'
      have hH2 : headB p j x = (decide (1 ≤ lo ∧ lo ≤ 8 ∧ 0 ≤ pr ∧ pr ≤ lo) && (wn && wf && decide (1 ≤ nb ∧ nb ≤ 30))) := by rw [HH.out, HNO.out]; rfl
      have HH2 := hid hH2
      have hx2 : wr.cell? ⟨w.heap.size, 2, none⟩ = some (.int .i64 pr) := by simp [World.cell?, hkr]
      have hx3 : wr.cell? ⟨w.heap.size, 3, none⟩ = some (.int .i64 lo) := by simp [World.cell?, hkr]
      have hx4 : wr.cell? ⟨w.heap.size, 4, none⟩ = some (.slice ba nb bcap) := by simp [World.cell?, hkr]
      clear hH2 HH HNO hkr hr
      by_cases l1 : lo < 1
      · have HF : Hid (headB p j x = false) := by show _ = _; rw [HH2.out, decide_eq_false (by omega)]; rfl
        go_wp2
        go_ret
        exact ⟨ret_bool HF.out.symm, hbt⟩
      · have l1' : decide (lo < 1) = false := by simpa using l1
        by_cases l2 : 8 < lo
        · have HF : Hid (headB p j x = false) := by show _ = _; rw [HH2.out, decide_eq_false (by omega)]; rfl
          go_wp2
          go_ret
          exact ⟨ret_bool HF.out.symm, hbt⟩
        · have l2' : decide (8 < lo) = false := by simpa using l2
          by_cases l3 : pr < 0
          · have HF : Hid (headB p j x = false) := by show _ = _; rw [HH2.out, decide_eq_false (by omega)]; rfl
            go_wp2
            go_ret
            exact ⟨ret_bool HF.out.symm, hbt⟩
          · have l3' : decide (pr < 0) = false := by simpa using l3
            by_cases l4 : lo < pr
            · have HF : Hid (headB p j x = false) := by show _ = _; rw [HH2.out, decide_eq_false (by omega)]; rfl
              go_wp2
              go_ret
              exact ⟨ret_bool HF.out.symm, hbt⟩
            · have l4' : decide (lo < pr) = false := by simpa using l4
              have hH3 : headB p j x = (wn && wf && decide (1 ≤ nb ∧ nb ≤ 30)) := by rw [HH2.out, decide_eq_true (by omega), Bool.true_and]
              have HH3 := hid hH3
              clear hH3 HH2
              cases wn with
              | false =>
                have HF : Hid (headB p j x = false) := by show _ = _; rw [HH3.out]; rfl
                go_wp2
                go_ret
                exact ⟨ret_bool HF.out.symm, hbt⟩
              | true =>
                cases wf with
                | false =>
                  have HF : Hid (headB p j x = false) := by show _ = _; rw [HH3.out]; rfl
                  go_wp2
                  go_ret
                  exact ⟨ret_bool HF.out.symm, hbt⟩
                | true =>
                  by_cases l5 : 1 ≤ nb
                  · have l5' : (1 : Int) ≤ (nb : Int) := by omega
                    have HF : Hid (headB p j x = decide ((nb : Int) ≤ 30)) := by
                      show _ = _; rw [HH3.out, Bool.true_and, Bool.true_and]; exact decide_eq_decide.2 ⟨fun h => by omega, fun h => ⟨l5, by omega⟩⟩
                    go_wp2
                    go_ret
                    exact ⟨ret_bool HF.out.symm, hbt⟩
                  · have l5' : decide ((1 : Int) ≤ (nb : Int)) = false := by simp; omega
                    have HF : Hid (headB p j x = false) := by show _ = _; rw [HH3.out, decide_eq_false (by omega)]; rfl
                    go_wp2
                    go_ret
                    exact ⟨ret_bool HF.out.symm, hbt⟩

theorem callB_no (p : List FnD) (locals : Int) (o : OpD) (h : withB o.b p.length = false) : callB p locals o = false := by unfold callB; rw [h]; rfl

set_option maxHeartbeats 2000000 in
set_option maxRecDepth 100000 in
theorem goodCall_any (a : Option Addr) (len cap : Nat) (p : List FnD) (locals : Int) (o : OpD) (aa : Option Addr) (acap : Nat) (w : World) (hr : RdP w a len cap p) (hra : Rd .i64 w aa o.args.length acap o.args) :
    Calls Tryz.prog 145 #[.slice a len cap, .int .i64 locals, .agg #[.int .i64 o.code, .int .i64 o.line, .int .i64 o.a, .int .i64 o.b, .int .i64 o.c, .slice aa o.args.length acap]] w fun e w' => e = .returned (.bool (callB p locals o)) ∧ Below w.heap.size w w' := by
  have HL := hid hr.len
  have hcap := hr.2.1
  have hmax := hr.2.2.1
  unfold maxLen at hmax
  have hcap2 := hra.hcap
  have hmax2 := hra.hmax
  unfold maxLen at hmax2
  obtain ⟨oc, ol, oa, ob, oC, oargs⟩ := o
  simp only at hra hcap2 ⊢
  obtain ⟨na, hna⟩ : ∃ na, na = oargs.length := ⟨_, rfl⟩
  rw [← hna] at hra hcap2 ⊢
  have HNA := hid hna
  clear hna
  have hbb : Below w.heap.size w (w.alloc (Obj.cells #[.int .i64 oc, .int .i64 ol, .int .i64 oa, .int .i64 ob, .int .i64 oC, .slice aa na acap] 183)) := (Below.refl _ _).alloc (Nat.le_refl _) _
  have HW0 := within_any ob (len : Int)
  obtain ⟨t, ht⟩ : ∃ t, t = withB ob (len : Int) := ⟨_, rfl⟩
  rw [← ht] at HW0
  have HW := hid HW0
  clear HW0
  cases t with
  | false =>
    have HF : Hid (callB p locals ⟨oc, ol, oa, ob, oC, oargs⟩ = false) := by show _ = _; exact callB_no p locals _ (by rw [HL.out]; exact ht.symm)
    clear ht
    go_enter Tryz.func145, Tryz.ntmps145
    go_wp2_with (go_at_call 144; refine (HW.out _).mono ?_; rintro e w' ⟨rfl, rfl⟩)
    go_ret
    exact ⟨ret_bool HF.out.symm, hbb⟩
  | true =>
    have hob := of_decide_eq_true ht.symm
    obtain ⟨k, rfl⟩ := Int.eq_ofNat_of_zero_le hob.1
    have hk : k < len := by omega
    obtain ⟨y, hy⟩ : ∃ y, p[k]? = some y := ⟨_, List.getElem?_eq_getElem (by rw [HL.out]; exact hk)⟩
    obtain ⟨b, off, _, _, rfl, hb, _, _, c2, _⟩ := hr.at k y hy
    have hC : callB p locals ⟨oc, ol, oa, (k : Int), oC, oargs⟩ = ((y.params == (na : Int)) && oargs.all fun n => withB n locals) := by
      unfold callB
      simp only [HL.out, ← ht, Int.toNat_natCast, hy, Option.map_some, Option.getD_some, Bool.true_and, HNA.out]
    obtain ⟨yp, hyp⟩ : ∃ yp, yp = y.params := ⟨_, rfl⟩
    rw [← hyp] at c2 hC
    have HCC := hid hC
    have hkc : (k : Int) < (len : Int) := by omega
    clear hC hyp hy ht hob hr
    obtain ⟨q, hq⟩ : ∃ q, q = (yp != (na : Int)) := ⟨_, rfl⟩
    have hq' : (yp != (na : Int)) = q := hq.symm
    have hq2 : (yp == (na : Int)) = !q := by rw [hq]; simp [bne]
    have HQ2 := hid hq2
    clear hq hq2
    go_enter Tryz.func145, Tryz.ntmps145
    go_wp2_with (go_at_call 144; refine (HW.out _).mono ?_; rintro e w' ⟨rfl, rfl⟩)
    clear HW
    obtain ⟨bw, hbw⟩ : ∃ bw, bw = w.alloc (Obj.cells #[.int .i64 oc, .int .i64 ol, .int .i64 oa, .int .i64 (k : Int), .int .i64 oC, .slice aa na acap] 183) := ⟨_, rfl⟩
    have hbk : bw.heap[w.heap.size]? = some (.cells #[.int .i64 oc, .int .i64 ol, .int .i64 oa, .int .i64 (k : Int), .int .i64 oC, .slice aa na acap] 183 (0, 0)) := by rw [hbw]; exact heap_alloc_new _ _
    have hbs : bw.heap.size = w.heap.size + 1 := by rw [hbw]; simp
    rw [← hbw] at hbb ⊢
    have hc2 : bw.cell? ⟨b, off + k * 5 + 2, none⟩ = some (.int .i64 yp) := (hbb.cell (p := ⟨b, off + k * 5 + 2, none⟩) hb).trans c2
    have hx3 : bw.cell? ⟨w.heap.size, 3, none⟩ = some (.int .i64 (k : Int)) := by simp [World.cell?, hbk]
    have hx5 : bw.cell? ⟨w.heap.size, 5, none⟩ = some (.slice aa na acap) := by simp [World.cell?, hbk]
    have HBK := hid hbk
    clear hbw c2 hbk
    cases q with
    | true =>
      have HF : Hid (callB p locals ⟨oc, ol, oa, (k : Int), oC, oargs⟩ = false) := by show _ = _; rw [HCC.out, HQ2.out]; rfl
      go_quiet (fail)
      go_wp2
      go_ret
      exact ⟨ret_bool HF.out.symm, below_drawn hbb nq⟩
    | false =>
      have HCD : Hid (callB p locals ⟨oc, ol, oa, (k : Int), oC, oargs⟩ = oargs.all fun n => withB n locals) := by show _ = _; rw [HCC.out, HQ2.out]; rfl
      clear HCC HQ2
      go_quiet (fail)
      have hbb' : Below w.heap.size w (bw.drewN nq) := below_drawn hbb nq
      have hbk' : (bw.drewN nq).heap[w.heap.size]? = some (.cells #[.int .i64 oc, .int .i64 ol, .int .i64 oa, .int .i64 (k : Int), .int .i64 oC, .slice aa na acap] 183 (0, 0)) := HBK.out
      have hbs' : (bw.drewN nq).heap.size = w.heap.size + 1 := hbs
      clear hbb HBK hbs hx3 hx5 hc2
      generalize bw.drewN nq = bq at *
      have HBK := hid hbk'
      clear hbk'
      go_wp2
      go_loopw [7, 8] (fun _ i wr => ∃ j : Nat, i = .int .i64 j ∧ j ≤ na ∧ ((oargs.take j).all fun n => withB n locals) = true ∧ Below bq.heap.size bq wr) (fun _ i _ => na - (intOf i).toNat)
      case atStart => exact ⟨0, rfl, by omega, rfl, Below.refl _ _⟩
      case round =>
        obtain ⟨j, rfl, hj, hal, hbel⟩ := hrel
        have HAL := hid hal
        clear hal
        have hkr := (hbel.block w.heap.size (by omega)).trans HBK.out
        have hx5 : wr.cell? ⟨w.heap.size, 5, none⟩ = some (.slice aa na acap) := by simp [World.cell?, hkr]
        have hbt := hbb'.trans (hbel.mono hbb'.size)
        clear hkr
        by_cases hlt : j < na
        · obtain ⟨xb, xoff, rfl, hcx⟩ := (hra.below hbt (Nat.le_refl _)).open (by omega)
          have hcj := hcx j hlt
          have hget : oargs[j]? = some (oargs.getD j 0) := by rw [List.getElem?_eq_getElem (by rw [← HNA.out]; exact hlt)]; simp [List.getD, List.getElem?_eq_getElem (show j < oargs.length by rw [← HNA.out]; exact hlt)]
          have hst := all_take_succ oargs j _ (fun n => withB n locals) hget
          rw [HAL.out, Bool.true_and] at hst
          obtain ⟨z, hz⟩ : ∃ z, z = oargs.getD j 0 := ⟨_, rfl⟩
          rw [← hz] at hcj hst
          have HW0 := within_any z locals
          obtain ⟨t, ht⟩ : ∃ t, t = withB z locals := ⟨_, rfl⟩
          rw [← ht] at HW0 hst
          have HW := hid HW0
          have HST := hid hst
          clear hst HW0 ht hz hget hcx hra
          cases t with
          | true =>
            go_wp2_with (go_at_call 144; refine (HW.out _).mono ?_; rintro e w' ⟨rfl, rfl⟩)
            go_roundw
            case rel => exact ⟨j + 1, by go_num, by omega, HST.out, hbel⟩
            case measure => simp [intOf]; omega
          | false =>
            have HF : Hid (callB p locals ⟨oc, ol, oa, (k : Int), oC, oargs⟩ = false) := by
              show _ = _
              rw [HCD.out]
              have h1 : oargs = oargs.take (j + 1) ++ oargs.drop (j + 1) := (List.take_append_drop _ _).symm
              rw [h1, List.all_append, HST.out, Bool.false_and]
            go_wp2_with (go_at_call 144; refine (HW.out _).mono ?_; rintro e w' ⟨rfl, rfl⟩)
            go_ret
            exact ⟨ret_bool HF.out.symm, hbt⟩
        · have HF : Hid (callB p locals ⟨oc, ol, oa, (k : Int), oC, oargs⟩ = true) := by
            show _ = _
            rw [HCD.out]
            have := HAL.out
            rw [List.take_of_length_le (by rw [← HNA.out]; omega)] at this
            exact this
          go_wp2
          go_ret
          exact ⟨ret_bool HF.out.symm, hbt⟩
end Go.Proofs.YtooinlilplecpaaGreatDoor
