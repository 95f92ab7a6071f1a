/- Contracts of the statement's own functions write, source and step at a Check and at the caller's writing, where no list has come out, out of a contract of unfold.Check that is taken as a premise. The contract of the developers' unfold.Check: it gives the plain function chk; nothing that was there is written. -/
import Derived.Test.YtffnfjkjlmlonaaGreatDoorZ26
import Derived.Test.YtffnfjkjlmlonaaGreatDoorZ4
import Derived.Test.YtffnfjkjlmlonaaGreatDoorZ25
namespace Go.Proofs.YtffnfjkjlmlonaaGreatDoor
open Go.RowKit

theorem Bare.below {w w' : World} {g : Nat} (h : Bare w g) (hb : Below w.heap.size w w') : Bare w' g := by
  unfold Bare at h ⊢
  exact (hb.block g (Array.getElem?_eq_some_iff.1 h).1).trans h

set_option maxHeartbeats 1000000 in
set_option maxRecDepth 100000 in
theorem write_bare (g : Nat) (k n m : Int) (v3 v4 v5 v6 v7 v8 : Value) (w : World) (h : Bare w g) (hm : R64 m) :
    Calls Tryz.prog 18 #[.pointer (some ⟨g, 0, none⟩), .agg #[.int .i64 k, .int .i64 n, .int .i64 m, v3, v4, v5, v6, v7, v8]] w fun e w' => e = .returned (.tuple #[]) ∧ Below w.heap.size w w' := by
  have hg := (Array.getElem?_eq_some_iff.1 h).1
  have c1 := h.cell 1 (by omega)
  have c3 := h.cell 3 (by omega)
  obtain ⟨hm1, hm2⟩ := hm
  clear h
  obtain ⟨t, ht⟩ : ∃ t, t = (m.tmod 2 == 0) := ⟨_, rfl⟩
  have ht' : (m.tmod 2 == 0) = t := ht.symm
  have ht2 : (m.tmod 2 != 0) = !t := by rw [ht]; rfl
  clear ht
  cases t with
  | true =>
    go_enter Tryz.func18, Tryz.ntmps18
    go_wp2
    go_end0
    exact ⟨rfl, (Below.refl _ _).alloc (Nat.le_refl _) _⟩
  | false =>
    go_enter Tryz.func18, Tryz.ntmps18
    go_wp2
    go_end0
    exact ⟨rfl, (Below.refl _ _).alloc (Nat.le_refl _) _⟩

/-- What is asked of unfold.Check. -/
def CheckGives : Prop := ∀ (a : Option Addr) (len cap : Nat) (p : List FnD) (w : World), RdP w a len cap p →
  Calls Tryz.prog 40 #[.agg #[.slice a len cap]] w fun e w' => e = .returned (.tuple #[.int .i64 (chk p).1, .int .i64 (chk p).2.1, .int .i64 (chk p).2.2]) ∧ Below w.heap.size w w'

set_option maxHeartbeats 2000000 in
set_option maxRecDepth 100000 in
theorem source_check (hC : CheckGives) (r : Value) (n m : Int) (v3 v4 v5 v6 v7 : Value) (a : Option Addr) (cap : Nat) (p : List FnD) (w : World) (hr : RdP w a p.length cap p) (hlen : p.length ≤ 2199023255552)
    (hbody : ∀ x ∈ p, x.body.length ≤ 2199023255552 ∧ ∀ o ∈ x.body, o.args.length ≤ 17592186044416) :
    Calls Tryz.prog 13 #[r, .agg #[.int .i64 6, .int .i64 n, .int .i64 m, v3, v4, v5, v6, v7, .slice a p.length cap]] w fun e w' => e = .returned (.bool true) ∧ Below w.heap.size w w' := by
  have hnames : ∀ x ∈ p, x.name.size ≤ maxLen ∧ x.file.size ≤ maxLen := by
    intro x hx
    obtain ⟨i, hi⟩ := List.mem_iff_getElem?.1 hx
    obtain ⟨_, _, _, _, _, _, _, _, _, _, _, _, h1, h2⟩ := hr.at i x hi
    exact ⟨h1, h2⟩
  obtain ⟨bw, hbw⟩ : ∃ bw, bw = w.alloc (Obj.cells #[.int .i64 6, .int .i64 n, .int .i64 m, v3, v4, v5, v6, v7, .slice a p.length cap] 46) := ⟨_, rfl⟩
  have hbb : Below w.heap.size w bw := by rw [hbw]; exact (Below.refl _ _).alloc (Nat.le_refl _) _
  have hbs : bw.heap.size = w.heap.size + 1 := by rw [hbw]; simp
  have hk : bw.heap[w.heap.size]? = some (.cells #[.int .i64 6, .int .i64 n, .int .i64 m, v3, v4, v5, v6, v7, .slice a p.length cap] 46 (0, 0)) := by rw [hbw]; exact heap_alloc_new _ _
  have HPO := hid (programOf_any a cap p bw (hr.below hbb) hlen hbody)
  have HPS := hid (fun (W : World) (g : Nat) (h : HdP W bw.heap.size bw a p g) (hW : Below bw.heap.size bw W) => programStill_any bw.heap.size bw g p a cap W h ((hr.below hbb).below hW) hW hlen hbody)
  have HRC := hid (fun (W : World) (hW : Below bw.heap.size bw W) => refCheck_any a p.length cap p W ((hr.below hbb).below hW))
  have HCC := hid (fun (W : World) (g : Nat) (h : HdP W bw.heap.size bw a p g) => hC _ _ _ p W (h.read hnames))
  obtain ⟨⟨e0, x0, y0⟩, hq⟩ : ∃ q, chk p = q := ⟨_, rfl⟩
  rw [hq] at HRC HCC
  have HK := hid hk
  clear hr hnames hbody hq hk hC
  generalize p.length = pl at *
  go_enter Tryz.func13, Tryz.ntmps13
  go_wp2_with fail
  rw [← hbw]
  clear hbw
  refine HPO.out.mono ?_
  rintro e w1 ⟨g, rfl, hh1, hb1⟩
  have hs1 := hb1.size
  go_wp2_with fail
  obtain ⟨w2, hw2⟩ : ∃ w2, w2 = w1.alloc (Obj.cells #[.slice (some ⟨g, 0, none⟩) pl (pl + 8)] 44) := ⟨_, rfl⟩
  have hb2 : Below w1.heap.size w1 w2 := by rw [hw2]; exact (Below.refl _ _).alloc (Nat.le_refl _) _
  have hs2 : w2.heap.size = w1.heap.size + 1 := by rw [hw2]; simp
  have hk2 : w2.heap[w1.heap.size]? = some (.cells #[.slice (some ⟨g, 0, none⟩) pl (pl + 8)] 44 (0, 0)) := by rw [hw2]; exact heap_alloc_new _ _
  rw [← hw2]
  clear hw2
  have hb12 := hb1.trans (hb2.mono hs1)
  refine (HCC.out w2 g (hh1.below hb2)).mono ?_
  rintro e w3 ⟨rfl, hb3⟩
  have hs3 := hb3.size
  have hb13 := hb12.trans (hb3.mono hb12.size)
  have hh3 := (hh1.below hb2).below hb3
  have d0 : w3.cell? ⟨w1.heap.size, 0, none⟩ = some (.slice (some ⟨g, 0, none⟩) pl (pl + 8)) := by
    rw [hb3.cell (p := ⟨w1.heap.size, 0, none⟩) (by show w1.heap.size < _; omega)]
    simp only [World.cell?, hk2, Option.isSome_none]
    rfl
  have d1 : w3.cell? ⟨w.heap.size, 8, none⟩ = some (.slice a pl cap) := by
    rw [hb13.cell (p := ⟨w.heap.size, 8, none⟩) (by show w.heap.size < _; omega)]
    simp only [World.cell?, HK.out, Option.isSome_none]
    rfl
  go_wp2_with fail
  refine (HPS.out w3 g hh3 hb13).mono ?_
  rintro e w4 ⟨rfl, hb4⟩
  have hs4 := hb4.size
  have hb14 := hb13.trans (hb4.mono hb13.size)
  have d2 : w4.cell? ⟨w.heap.size, 8, none⟩ = some (.slice a pl cap) := by
    rw [hb14.cell (p := ⟨w.heap.size, 8, none⟩) (by show w.heap.size < _; omega)]
    simp only [World.cell?, HK.out, Option.isSome_none]
    rfl
  go_wp2_with fail
  refine (HRC.out w4 hb14).mono ?_
  rintro e w5 ⟨rfl, hb5⟩
  have hb15 := hb14.trans (hb5.mono hb14.size)
  go_wp2_with fail
  go_ret
  exact ⟨rfl, hbb.trans (hb15.mono hbb.size)⟩

set_option maxHeartbeats 2000000 in
set_option maxRecDepth 100000 in
theorem step_check (hC : CheckGives) (r : Value) (n m : Int) (v3 v4 v5 v6 v7 : Value) (a : Option Addr) (cap : Nat) (p : List FnD) (w : World) (hr : RdP w a p.length cap p) (hlen : p.length ≤ 2199023255552)
    (hbody : ∀ x ∈ p, x.body.length ≤ 2199023255552 ∧ ∀ o ∈ x.body, o.args.length ≤ 17592186044416) :
    Calls Tryz.prog 9 #[r, .agg #[.int .i64 6, .int .i64 n, .int .i64 m, v3, v4, v5, v6, v7, .slice a p.length cap]] w fun e w' => e = .returned (.bool true) ∧ Below w.heap.size w w' := by
  have HS := hid (fun (W : World) (hW : Below w.heap.size w W) => source_check hC r n m v3 v4 v5 v6 v7 a cap p W (hr.below hW) hlen hbody)
  clear hr hbody hC
  generalize p.length = pl at *
  go_enter Tryz.func9, Tryz.ntmps9
  go_wp2_with fail
  refine (HS.out _ ((Below.refl _ _).alloc (Nat.le_refl _) _)).mono ?_
  rintro e w1 ⟨rfl, hb⟩
  go_wp2
  go_ret
  exact ⟨rfl, ((Below.refl _ _).alloc (Nat.le_refl _) _).trans (hb.mono (by simp))⟩

set_option maxHeartbeats 2000000 in
set_option maxRecDepth 100000 in
theorem step_write (g : Nat) (n m : Int) (v3 v4 v5 v6 v7 v8 : Value) (w : World) (h : Bare w g) (hm : R64 m) :
    Calls Tryz.prog 9 #[.pointer (some ⟨g, 0, none⟩), .agg #[.int .i64 18, .int .i64 n, .int .i64 m, v3, v4, v5, v6, v7, v8]] w fun e w' => e = .returned (.bool true) ∧ Below w.heap.size w w' := by
  have HS := hid (fun (W : World) (hW : Below w.heap.size w W) => write_bare g 18 n m v3 v4 v5 v6 v7 v8 W (h.below hW) hm)
  clear h hm
  go_enter Tryz.func9, Tryz.ntmps9
  go_wp2_with fail
  refine (HS.out _ ((Below.refl _ _).alloc (Nat.le_refl _) _)).mono ?_
  rintro e w1 ⟨rfl, hb⟩
  go_wp2
  go_ret
  exact ⟨rfl, ((Below.refl _ _).alloc (Nat.le_refl _) _).trans (hb.mono (by simp))⟩
end Go.Proofs.YtffnfjkjlmlonaaGreatDoor
namespace Go.Proofs.YtffnfjkjlmlonaaGreatDoor
open Go.RowKit

theorem cutP {P G : Prop} (h : P) (k : P → G) : G := k h

set_option maxHeartbeats 4000000 in
set_option maxRecDepth 100000 in
theorem pCheck_any (a : Option Addr) (len cap : Nat) (p : List FnD) (w : World) (hr : RdP w a len cap p) :
    Calls Tryz.prog 86 #[.agg #[.slice a len cap]] w fun e w' => e = .returned (.tuple #[.int .i64 (chk p).1, .int .i64 (chk p).2.1, .int .i64 (chk p).2.2]) ∧ Below w.heap.size w w' := by
  have HL := hid hr.len
  have hcap := hr.2.1
  have hmax := hr.2.2.1
  unfold maxLen at hmax
  by_cases h0 : len < 1
  · have HF : Hid (chk p = (5, 0, 0)) := by show _ = _; unfold chk; rw [if_pos (by rw [HL.out]; omega)]
    have h0' : (len : Int) < 1 := by omega
    go_enter Tryz.func86, Tryz.ntmps86
    go_wp2
    go_ret3
    exact ⟨ret_chk HF.out, (Below.refl _ _).alloc (Nat.le_refl _) _⟩
  · have h0' : decide ((len : Int) < 1) = false := by simp; omega
    by_cases h12 : 12 < len
    · have HF : Hid (chk p = (5, 0, 0)) := by show _ = _; unfold chk; rw [if_pos (by rw [HL.out]; omega)]
      have h12' : (12 : Int) < (len : Int) := by omega
      go_enter Tryz.func86, Tryz.ntmps86
      go_wp2
      go_ret3
      exact ⟨ret_chk HF.out, (Below.refl _ _).alloc (Nat.le_refl _) _⟩
    · have h12' : decide ((12 : Int) < (len : Int)) = false := by simp; omega
      have HC : Hid (chk p = chkF p (p.drop 0) 0) := by show _ = _; unfold chk; rw [if_neg (by rw [HL.out]; omega)]; rfl
      obtain ⟨wb, hwb⟩ : ∃ wb, wb = w.alloc (Obj.cells #[.slice a len cap] 44) := ⟨_, rfl⟩
      have hbb : Below w.heap.size w wb := by rw [hwb]; exact (Below.refl _ _).alloc (Nat.le_refl _) _
      have hbs : wb.heap.size = w.heap.size + 1 := by rw [hwb]; simp
      have hk0 : wb.heap[w.heap.size]? = some (.cells #[.slice a len cap] 44 (0, 0)) := by rw [hwb]; exact heap_alloc_new _ _
      have HK := hid hk0
      clear hk0
      go_enter Tryz.func86, Tryz.ntmps86
      go_wp2
      rw [← hwb]
      clear hwb
      go_loopw [23] (fun i wr => ∃ f : Nat, i = .int .i64 f ∧ f ≤ len ∧ chk p = chkF p (p.drop f) f ∧ Below wb.heap.size wb wr) (fun i _ => len - (intOf i).toNat)
      case atStart => exact ⟨0, rfl, by omega, HC.out, Below.refl _ _⟩
      case round =>
        clear HC
        obtain ⟨f, rfl, hf, hC, hbel0⟩ := hrel
        obtain ⟨wo, rfl⟩ : ∃ wo, wo = wr := ⟨_, rfl⟩
        have HC := hid hC
        clear hC
        have hsz0 := hbel0.size
        have hbel := hbb.trans (hbel0.mono hbb.size)
        by_cases hlt : f < len
        · obtain ⟨x, hx⟩ : ∃ x, p[f]? = some x := ⟨_, List.getElem?_eq_getElem (by rw [HL.out]; exact hlt)⟩
          have hstep := HC.out.trans (chkF_at p f x hx)
          obtain ⟨b, off, ba, bcap, rfl, hblt, c0, c1, c2, c3, c4, hrb, hn1, hn2⟩ := (hr.below hbel).at f x hx
          have hbl1 := hrb.2.1
          have hbl2 := hrb.2.2.1
          unfold maxLen at hbl2
          have HH := hid (fun (W : World) (hW : Below wo.heap.size wo W) => headMay_any x ba bcap (some ⟨b, off, none⟩) f cap p W (((hr.below hbel).below hW).take f (by omega)) hbl1 hbl2 hn1 hn2)
          have HO := hid (fun (W : World) (o : OpD) (aa : Option Addr) (acap : Nat) (hW : Below wo.heap.size wo W) (hra : Rd .i64 W aa o.args.length acap o.args) => opMay_any x ba bcap o aa acap (some ⟨b, off, none⟩) len cap p W ((hr.below hbel).below hW) hra hbl1 hbl2)
          have HRB := hid hrb
          have HX := hid hx
          clear hx hn1 hn2 hrb
          obtain ⟨hb, hhb⟩ : ∃ v, v = headB p f x := ⟨_, rfl⟩
          rw [← hhb] at hstep HH
          clear hhb
          obtain ⟨nb, hnb⟩ : ∃ v, v = x.body.length := ⟨_, rfl⟩
          rw [← hnb] at c4 hbl1 HH HO HRB
          have HNB := hid hnb
          clear hnb
          obtain ⟨nm, hnm⟩ : ∃ v, v = x.name := ⟨_, rfl⟩
          obtain ⟨fl, hfl⟩ : ∃ v, v = x.file := ⟨_, rfl⟩
          obtain ⟨pr, hpr⟩ : ∃ v, v = x.params := ⟨_, rfl⟩
          obtain ⟨lo, hlo⟩ : ∃ v, v = x.locals := ⟨_, rfl⟩
          rw [← hnm, ← hfl, ← hpr, ← hlo] at HH HO
          rw [← hnm] at c0
          rw [← hfl] at c1
          rw [← hpr] at c2
          rw [← hlo] at c3
          clear hnm hfl hpr hlo
          have hlt' : (f : Int) < (len : Int) := by omega
          have HKR := hid ((hbel0.block w.heap.size (by omega)).trans HK.out)
          obtain ⟨w1, hw1⟩ : ∃ w1, w1 = wo.alloc (Obj.cells #[.string nm, .string fl, .int .i64 pr, .int .i64 lo, .slice ba nb bcap] 122) := ⟨_, rfl⟩
          have hb1 : Below wo.heap.size wo w1 := by rw [hw1]; exact (Below.refl _ _).alloc (Nat.le_refl _) _
          have hs1 : w1.heap.size = wo.heap.size + 1 := by rw [hw1]; simp
          have hk1 : w1.heap[wo.heap.size]? = some (.cells #[.string nm, .string fl, .int .i64 pr, .int .i64 lo, .slice ba nb bcap] 122 (0, 0)) := by rw [hw1]; exact heap_alloc_new _ _
          have hp1 := (hb1.block w.heap.size (by omega)).trans HKR.out
          have qp : w1.cell? ⟨w.heap.size, 0, none⟩ = some (.slice (some ⟨b, off, none⟩) len cap) := by simp [World.cell?, hp1]
          have r0 : w1.cell? ⟨wo.heap.size, 0, none⟩ = some (.string nm) := by simp [World.cell?, hk1]
          have r1 : w1.cell? ⟨wo.heap.size, 1, none⟩ = some (.string fl) := by simp [World.cell?, hk1]
          have r2 : w1.cell? ⟨wo.heap.size, 2, none⟩ = some (.int .i64 pr) := by simp [World.cell?, hk1]
          have r3 : w1.cell? ⟨wo.heap.size, 3, none⟩ = some (.int .i64 lo) := by simp [World.cell?, hk1]
          have r4 : w1.cell? ⟨wo.heap.size, 4, none⟩ = some (.slice ba nb bcap) := by simp [World.cell?, hk1]
          have HK1 := hid hk1
          have HP1 := hid hp1
          clear hk1 hp1 HKR
          have HSTEP := hid hstep
          clear hstep
          have hfc : (f : Int) ≤ (cap : Int) := by omega
          go_wp2
          rw [← hw1]
          clear hw1 c0 c1 c2 c3 c4
          apply cutP
          case k =>
            intro key
            go_region_with (go_at_call 136; refine (HH.out _ ?_).mono ?_; exact hb1.trans ((Below.refl _ _).drew.mono hb1.size); rintro e w2 ⟨rfl, hb2⟩)
            all_goals
              have hb2' : Below w1.heap.size w1 w2 := (Below.refl _ _).drew.trans hb2
              clear hb2
              revert hb2'
              revert w2
              exact key
          intro w2 hb2
          have hk2 := (hb2.block wo.heap.size (by omega)).trans HK1.out
          have hp2 := (hb2.block w.heap.size (by omega)).trans HP1.out
          clear qp r0 r1 r2 r3 r4 HK1 HP1
          have hs2 := hb2.size
          have hbw2 := hb1.trans (hb2.mono hb1.size)
          cases hb with
          | false =>
            have HF : Hid (chk p = (6, (f : Int), 0)) := by show _ = _; rw [HSTEP.out]; rfl
            go_wp2
            go_ret3
            exact ⟨ret_chk HF.out, hbel.trans (hbw2.mono hbel.size)⟩
          | true =>
            have hst := HSTEP.out
            rw [if_pos rfl] at hst
            have HS := hid hst
            clear hst HSTEP HH
            have r4 : w2.cell? ⟨wo.heap.size, 4, none⟩ = some (.slice ba nb bcap) := by simp [World.cell?, hk2]
            have HK2 := hid hk2
            have HP2 := hid hp2
            clear hk2 hp2
            go_wp2
            go_loopw [39] (fun i wr => ∃ s : Nat, i = .int .i64 s ∧ s ≤ nb ∧ chkB p x f x.body 0 = chkB p x f (x.body.drop s) s ∧ Below w2.heap.size w2 wr) (fun i _ => nb - (intOf i).toNat)
            case atStart => exact ⟨0, rfl, by omega, rfl, Below.refl _ _⟩
            case round =>
              clear r4
              obtain ⟨s, rfl, hs, hB, hbi⟩ := hrel
              have HB := hid hB
              clear hB
              have hsi := hbi.size
              have hbo := hbw2.trans (hbi.mono hbw2.size)
              by_cases hsl : s < nb
              · obtain ⟨o, ho⟩ : ∃ o, x.body[s]? = some o := ⟨_, List.getElem?_eq_getElem (by rw [← HNB.out]; exact hsl)⟩
                have hst := HB.out.trans (chkB_at p x f s o ho)
                rw [opB_eq] at hst
                obtain ⟨b2, off2, aa, acap, rfl, _, d0, d1, d2, d3, d4, d5, hra⟩ := (HRB.out.below hbo (fun _ _ h => h.below hbo)).opAt s o ho
                have HOP := hid (fun (W : World) (hW : Below wr.heap.size wr W) => HO.out W o aa acap (hbo.trans (hW.mono hbo.size)) (hra.below hW (Nat.le_refl _)))
                obtain ⟨om, hom⟩ : ∃ v, v = opMayB p x o := ⟨_, rfl⟩
                rw [← hom] at hst HOP
                clear hom hra ho HO HRB
                obtain ⟨oc, ol, oa, ob, od, args⟩ := o
                simp only at d0 d1 d2 d3 d4 d5 hst HOP
                generalize args.length = na at *
                rw [← HNB.out] at hst
                have kf := (hbi.block wo.heap.size (by omega)).trans HK2.out
                have kp := (hbi.block w.heap.size (by omega)).trans HP2.out
                have hsl' : (s : Int) < (nb : Int) := by omega
                have r0 : wr.cell? ⟨wo.heap.size, 0, none⟩ = some (.string nm) := by simp [World.cell?, kf]
                have r1 : wr.cell? ⟨wo.heap.size, 1, none⟩ = some (.string fl) := by simp [World.cell?, kf]
                have r2 : wr.cell? ⟨wo.heap.size, 2, none⟩ = some (.int .i64 pr) := by simp [World.cell?, kf]
                have r3 : wr.cell? ⟨wo.heap.size, 3, none⟩ = some (.int .i64 lo) := by simp [World.cell?, kf]
                have r4 : wr.cell? ⟨wo.heap.size, 4, none⟩ = some (.slice (some ⟨b2, off2, none⟩) nb bcap) := by simp [World.cell?, kf]
                have qp : wr.cell? ⟨w.heap.size, 0, none⟩ = some (.slice (some ⟨b, off, none⟩) len cap) := by simp [World.cell?, kp]
                have r5 : wo.heap.size < wr.heap.size := by omega
                have r6 : w.heap.size < wr.heap.size := by omega
                obtain ⟨w3, hw3⟩ : ∃ w3, w3 = wr.alloc (Obj.cells #[.int .i64 oc, .int .i64 ol, .int .i64 oa, .int .i64 ob, .int .i64 od, .slice aa na acap] 183) := ⟨_, rfl⟩
                have hb3 : Below wr.heap.size wr w3 := by rw [hw3]; exact (Below.refl _ _).alloc (Nat.le_refl _) _
                have hs3 : w3.heap.size = wr.heap.size + 1 := by rw [hw3]; simp
                clear kf kp HK2 HP2
                have HST := hid hst
                clear hst
                have hbo3 := hbi.trans (hb3.mono hsi)
                have fin : ∀ w4, Below w3.heap.size w3 w4 → Below w.heap.size w w4 := fun w4 h4 => hbel.trans ((hbo.trans ((hb3.trans (h4.mono hb3.size)).mono hbo.size)).mono hbel.size)
                have FIN := hid fin
                clear fin
                by_cases hlast : s + 1 = nb
                · have hl' : ((s : Int) == (nb : Int) - 1) = true := by simp; omega
                  by_cases h6 : oc = 6
                  · subst h6
                    have hst2 : chkB p x f x.body 0 = if om = true then chkB p x f (x.body.drop (s + 1)) (s + 1) else some (7, (f : Int), (s : Int)) := by
                      rw [HST.out, if_neg (show ¬ (s + 1 = nb ∧ (6 : Int) ≠ 6) from fun h => h.2 rfl)]
                    have HS2 := hid hst2
                    clear hst2 HST
                    go_wp2_with fail
                    rw [← hw3]
                    clear hw3 d0 d1 d2 d3 d4 d5 r0 r1 r2 r3 r4 qp
                    refine (HOP.out _ hb3).mono ?_
                    rintro e w4 ⟨rfl, hb4⟩
                    cases om with
                    | true =>
                      have HS3 : Hid (chkB p x f x.body 0 = chkB p x f (x.body.drop (s + 1)) (s + 1)) := by show _ = _; rw [HS2.out]; rfl
                      go_wp2
                      go_roundw
                      case rel => exact ⟨s + 1, by go_num, by omega, HS3.out, hbo3.trans (hb4.mono hbo3.size)⟩
                      case measure => simp [intOf]; omega
                    | false =>
                      have HF : Hid (chk p = (7, (f : Int), (s : Int))) := by show _ = _; rw [HS.out, HS2.out]; rfl
                      go_wp2
                      go_ret3
                      exact ⟨ret_chk HF.out, FIN.out w4 hb4⟩
                  · have h6' : (oc != 6) = true := by simpa using h6
                    have HF : Hid (chk p = (7, (f : Int), (s : Int))) := by show _ = _; rw [HS.out, HST.out, if_pos (show s + 1 = nb ∧ oc ≠ 6 from ⟨hlast, h6⟩)]; rfl
                    go_wp2
                    rw [← hw3]
                    clear hw3 d0 d1 d2 d3 d4 d5 r0 r1 r2 r3 r4 qp
                    go_ret3
                    exact ⟨ret_chk HF.out, FIN.out _ (Below.refl _ _)⟩
                · have hl' : ((s : Int) == (nb : Int) - 1) = false := by simp; omega
                  have hst2 : chkB p x f x.body 0 = if om = true then chkB p x f (x.body.drop (s + 1)) (s + 1) else some (7, (f : Int), (s : Int)) := by
                    rw [HST.out, if_neg (show ¬ (s + 1 = nb ∧ oc ≠ 6) from fun h => hlast h.1)]
                  have HS2 := hid hst2
                  clear hst2 HST
                  go_wp2_with fail
                  rw [← hw3]
                  clear hw3 d0 d1 d2 d3 d4 d5 r0 r1 r2 r3 r4 qp
                  refine (HOP.out _ hb3).mono ?_
                  rintro e w4 ⟨rfl, hb4⟩
                  cases om with
                  | true =>
                    have HS3 : Hid (chkB p x f x.body 0 = chkB p x f (x.body.drop (s + 1)) (s + 1)) := by show _ = _; rw [HS2.out]; rfl
                    go_wp2
                    go_roundw
                    case rel => exact ⟨s + 1, by go_num, by omega, HS3.out, hbo3.trans (hb4.mono hbo3.size)⟩
                    case measure => simp [intOf]; omega
                  | false =>
                    have HF : Hid (chk p = (7, (f : Int), (s : Int))) := by show _ = _; rw [HS.out, HS2.out]; rfl
                    go_wp2
                    go_ret3
                    exact ⟨ret_chk HF.out, FIN.out w4 hb4⟩
              · have HF : Hid (chk p = chkF p (p.drop (f + 1)) (f + 1)) := by
                  show _ = _
                  have h1 : chkB p x f x.body 0 = none := by rw [HB.out, List.drop_of_length_le (by rw [← HNB.out]; omega)]; rfl
                  rw [HS.out, h1]
                have hsl' : decide ((s : Int) < (nb : Int)) = false := by simp; omega
                clear HB HS HC HO
                go_wp2
                go_roundw
                case rel => exact ⟨f + 1, by go_num, by omega, HF.out, hbel0.trans (hbo.mono hsz0)⟩
                case measure => simp [intOf]; omega
        · have HF : Hid (chk p = (0, 0, 0)) := by show _ = _; rw [HC.out, List.drop_of_length_le (by rw [HL.out]; omega)]; rfl
          have hge : decide ((f : Int) < (len : Int)) = false := by simp; omega
          go_wp2
          go_ret3
          exact ⟨ret_chk HF.out, hbel⟩

theorem check_gives : CheckGives := by
  intro a len cap p w hr
  have HP := hid (fun (W : World) (hW : Below w.heap.size w W) => pCheck_any a len cap p W (hr.below hW))
  obtain ⟨⟨e0, x0, y0⟩, hq⟩ : ∃ q, chk p = q := ⟨_, rfl⟩
  rw [hq] at HP ⊢
  clear hr hq
  go_enter Tryz.func40, Tryz.ntmps40
  go_wp2_with fail
  refine (HP.out _ ((Below.refl _ _).alloc (Nat.le_refl _) _)).mono ?_
  rintro e w2 ⟨rfl, hb2⟩
  go_wp2
  go_ret3
  exact ⟨rfl, ((Below.refl _ _).alloc (Nat.le_refl _) _).trans (hb2.mono (by simp))⟩
end Go.Proofs.YtffnfjkjlmlonaaGreatDoor
