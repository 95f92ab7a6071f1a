/- Contracts of the developers' program.headMayBe and opMayBe: the plain functions headB and opMayB; nothing that was there is written. The contract of the statement's own function funcStill: at a function as it was handed in it returns true; nothing that was there is written. -/
import Derived.Test.YtffnfjkjlmlonaaGreatDoorZ10
import Derived.Deep.RegionWith
import Derived.Test.YtffnfjkjlmlonaaGreatDoorZ7
namespace Go.Proofs.YtffnfjkjlmlonaaGreatDoor
open Go.RowKit

set_option maxHeartbeats 2000000 in
set_option maxRecDepth 100000 in
theorem headMay_any (x : FnD) (ba : Option Addr) (bcap : Nat) (a : Option Addr) (f cap : Nat) (p : List FnD) (w : World) (hr : RdP w a f cap (p.take f)) (hbl1 : x.body.length ≤ bcap) (_ : bcap ≤ 2 ^ 63 - 1) (hn1 : x.name.size ≤ maxLen) (hn2 : x.file.size ≤ maxLen) :
    Calls Tryz.prog 136 #[.agg #[.string x.name, .string x.file, .int .i64 x.params, .int .i64 x.locals, .slice ba x.body.length bcap], .slice a f cap] w fun e w' => e = .returned (.bool (headB p f x)) ∧ Below w.heap.size w w' := by
  have HW1 := hid (fun W => isWord_any x.name W hn1)
  have HW2 := hid (fun W => isWord_any x.file W hn2)
  have HN := hid (fun (W : World) (hW : Below w.heap.size w W) => isNamed_any x.name a f cap (p.take f) W (hr.below hW))
  clear hr hn1 hn2
  have hH : headB p f x = (!((p.take f).any fun y => eqB y.name x.name) && (decide (1 ≤ x.locals ∧ x.locals ≤ 8 ∧ 0 ≤ x.params ∧ x.params ≤ x.locals) && (wordB x.name && wordB x.file && decide (1 ≤ x.body.length ∧ x.body.length ≤ 30)))) := rfl
  obtain ⟨hb, hhb⟩ : ∃ v, v = headB p f x := ⟨_, rfl⟩
  obtain ⟨wn, hwn⟩ : ∃ v, v = wordB x.name := ⟨_, rfl⟩
  obtain ⟨wf, hwf⟩ : ∃ v, v = wordB x.file := ⟨_, rfl⟩
  obtain ⟨an, han⟩ : ∃ v, v = (p.take f).any fun y => eqB y.name x.name := ⟨_, rfl⟩
  rw [← hhb] at hH ⊢
  rw [← hwn, ← hwf, ← han] at hH
  rw [← hwn] at HW1
  rw [← hwf] at HW2
  rw [← han] at HN
  clear hhb hwn hwf han
  obtain ⟨nm, fl, pr, lo, body⟩ := x
  simp only at HW1 HW2 HN hH hbl1 ⊢
  generalize body.length = nb at *
  have HH := hid hH
  clear hH
  obtain ⟨bw, hbw⟩ : ∃ bw, bw = w.alloc (Obj.cells #[.string nm, .string fl, .int .i64 pr, .int .i64 lo, .slice ba nb bcap] 122) := ⟨_, rfl⟩
  have hbb : Below w.heap.size w bw := by rw [hbw]; exact (Below.refl _ _).alloc (Nat.le_refl _) _
  have hbk : bw.heap[w.heap.size]? = some (.cells #[.string nm, .string fl, .int .i64 pr, .int .i64 lo, .slice ba nb bcap] 122 (0, 0)) := by rw [hbw]; exact heap_alloc_new _ _
  have hbs : bw.heap.size = w.heap.size + 1 := by rw [hbw]; simp
  go_enter Tryz.func136, Tryz.ntmps136
  go_wp2_with fail
  rw [← hbw]
  clear hbw
  refine (HW1.out _).mono ?_
  rintro e w1 ⟨rfl, hb1⟩
  have hk1 := (hb1.block w.heap.size (by omega)).trans hbk
  have q1 : w1.cell? ⟨w.heap.size, 1, none⟩ = some (.string fl) := by simp [World.cell?, hk1]
  have hbel1 := hbb.trans (hb1.mono hbb.size)
  have hs1 := hb1.size
  have HK1 := hid hk1
  clear hbk hb1 hbb hk1
  cases wn with
  | false =>
    have HF : Hid (hb = false) := by show _ = _; rw [HH.out]; simp
    go_wp2
    go_ret
    exact ⟨ret_bool HF.out.symm, hbel1⟩
  | true =>
    go_wp2_with fail
    refine (HW2.out _).mono ?_
    rintro e w2 ⟨rfl, hb2⟩
    have hk2 := (hb2.block w.heap.size (by omega)).trans HK1.out
    have q0 : w2.cell? ⟨w.heap.size, 0, none⟩ = some (.string nm) := by simp [World.cell?, hk2]
    have hbel2 := hbel1.trans (hb2.mono hbel1.size)
    have hs2 := hb2.size
    have HK2 := hid hk2
    clear q1 HK1 hb2 hbel1 HW1 HW2 hk2
    cases wf with
    | false =>
      have HF : Hid (hb = false) := by show _ = _; rw [HH.out]; simp
      go_wp2
      go_ret
      exact ⟨ret_bool HF.out.symm, hbel2⟩
    | true =>
      go_wp2_with fail
      refine (HN.out w2 hbel2).mono ?_
      rintro e w3 ⟨rfl, hb3⟩
      have hk3 := (hb3.block w.heap.size (by omega)).trans HK2.out
      have hbt := hbel2.trans (hb3.mono hbel2.size)
      have q2 : w3.cell? ⟨w.heap.size, 2, none⟩ = some (.int .i64 pr) := by simp [World.cell?, hk3]
      have q3 : w3.cell? ⟨w.heap.size, 3, none⟩ = some (.int .i64 lo) := by simp [World.cell?, hk3]
      have q4 : w3.cell? ⟨w.heap.size, 4, none⟩ = some (.slice ba nb bcap) := by simp [World.cell?, hk3]
      clear q0 HK2 hk3 hb3 hbel2 HN hs1 hs2
      cases an with
      | true =>
        have HF : Hid (hb = false) := by show _ = _; rw [HH.out]; simp
        go_wp2
        go_ret
        exact ⟨ret_bool HF.out.symm, hbt⟩
      | false =>
        have hH2 : hb = (decide (1 ≤ lo ∧ lo ≤ 8 ∧ 0 ≤ pr ∧ pr ≤ lo) && decide (1 ≤ nb ∧ nb ≤ 30)) := by rw [HH.out]; simp
        have HH2 := hid hH2
        clear hH2 HH
        by_cases l1 : lo < 1
        · have HF : Hid (hb = false) := by show _ = _; rw [HH2.out, decide_eq_false (by omega)]; rfl
          go_wp2
          go_ret
          exact ⟨ret_bool HF.out.symm, hbt⟩
        · have l1' : decide (lo < 1) = false := by simpa using l1
          by_cases l2 : 8 < lo
          · have HF : Hid (hb = false) := by show _ = _; rw [HH2.out, decide_eq_false (by omega)]; rfl
            go_wp2
            go_ret
            exact ⟨ret_bool HF.out.symm, hbt⟩
          · have l2' : decide (8 < lo) = false := by simpa using l2
            by_cases l3 : pr < 0
            · have HF : Hid (hb = false) := by show _ = _; rw [HH2.out, decide_eq_false (by omega)]; rfl
              go_wp2
              go_ret
              exact ⟨ret_bool HF.out.symm, hbt⟩
            · have l3' : decide (pr < 0) = false := by simpa using l3
              by_cases l4 : lo < pr
              · have HF : Hid (hb = false) := by show _ = _; rw [HH2.out, decide_eq_false (by omega)]; rfl
                go_wp2
                go_ret
                exact ⟨ret_bool HF.out.symm, hbt⟩
              · have l4' : decide (lo < pr) = false := by simpa using l4
                have hH3 : hb = decide (1 ≤ nb ∧ nb ≤ 30) := by rw [HH2.out, decide_eq_true (by omega), Bool.true_and]
                have HH3 := hid hH3
                clear hH3 HH2
                by_cases l5 : 1 ≤ nb
                · have l5' : (1 : Int) ≤ (nb : Int) := by omega
                  have HF : Hid (hb = decide ((nb : Int) ≤ 30)) := by
                    show _ = _; rw [HH3.out]; exact decide_eq_decide.2 ⟨fun h => by omega, fun h => ⟨l5, by omega⟩⟩
                  go_wp2
                  go_ret
                  exact ⟨ret_bool HF.out.symm, hbt⟩
                · have l5' : decide ((1 : Int) ≤ (nb : Int)) = false := by simp; omega
                  have HF : Hid (hb = false) := by show _ = _; rw [HH3.out, decide_eq_false (by omega)]
                  go_wp2
                  go_ret
                  exact ⟨ret_bool HF.out.symm, hbt⟩

/-- What is asked of an op, wherever it stands. -/
def opMayB (p : List FnD) (x : FnD) (o : OpD) : Bool :=
  if !(decide (1 ≤ o.line ∧ o.line ≤ 9999)) || !(withB o.a x.locals) then false else
  if o.code = 0 then withB o.b 1000 else
  if o.code = 1 ∨ o.code = 2 ∨ o.code = 3 then withB o.b x.locals && withB o.c x.locals else
  if o.code = 4 then withB o.b x.body.length else
  if o.code = 5 then callB p x.locals o else
  if o.code = 6 then true else false

theorem opB_eq (p : List FnD) (x : FnD) (s : Nat) (o : OpD) : opB p x s o = if s + 1 = x.body.length ∧ o.code ≠ 6 then false else opMayB p x o := by
  unfold opB opMayB
  by_cases h0 : (!(decide (1 ≤ o.line ∧ o.line ≤ 9999)) || !(withB o.a x.locals)) = true
  · rw [if_pos h0, if_pos h0]; split <;> rfl
  · rw [if_neg h0, if_neg h0]
    by_cases h6 : o.code = 6
    · rw [if_pos h6, if_neg (by simp [h6]), if_neg (by omega), if_neg (by omega), if_neg (by omega), if_neg (by omega), if_pos h6]
    · rw [if_neg h6]
      by_cases hl : s + 1 = x.body.length
      · rw [if_pos hl, if_pos ⟨hl, h6⟩]
      · rw [if_neg hl, if_neg (show ¬ (s + 1 = x.body.length ∧ o.code ≠ 6) from fun h => hl h.1)]
        simp only [h6, if_false]

set_option maxHeartbeats 4000000 in
set_option maxRecDepth 100000 in
theorem opMay_any (x : FnD) (ba : Option Addr) (bcap : Nat) (o : OpD) (aa : Option Addr) (acap : Nat) (a : Option Addr) (len cap : Nat) (p : List FnD) (w : World) (hr : RdP w a len cap p) (hra : Rd .i64 w aa o.args.length acap o.args) (hbl1 : x.body.length ≤ bcap) (_ : bcap ≤ 2 ^ 63 - 1) :
    Calls Tryz.prog 137 #[.agg #[.string x.name, .string x.file, .int .i64 x.params, .int .i64 x.locals, .slice ba x.body.length bcap], .agg #[.int .i64 o.code, .int .i64 o.line, .int .i64 o.a, .int .i64 o.b, .int .i64 o.c, .slice aa o.args.length acap], .slice a len cap] w
      fun e w' => e = .returned (.bool (opMayB p x o)) ∧ Below w.heap.size w w' := by
  have HL := hid hr.len
  have hcap := hr.2.1
  have hmax := hr.2.2.1
  unfold maxLen at hmax
  have hHO : opMayB p x o = if !(decide (1 ≤ o.line ∧ o.line ≤ 9999)) || !(withB o.a x.locals) then false else
      if o.code = 0 then withB o.b 1000 else
      if o.code = 1 ∨ o.code = 2 ∨ o.code = 3 then withB o.b x.locals && withB o.c x.locals else
      if o.code = 4 then withB o.b x.body.length else
      if o.code = 5 then callB p x.locals o else
      if o.code = 6 then true else false := rfl
  have hcall : callB p x.locals o = (withB o.b p.length && (((p[o.b.toNat]?).map fun y => y.params == (o.args.length : Int)).getD false && o.args.all fun n => withB n x.locals)) := rfl
  have HAR := hid (fun (W : World) (k : Int) (hW : Below w.heap.size w W) => pArgs_any x.name x.file x.params x.locals ba x.body.length bcap aa o.args.length acap o.args k W (hra.below hW (Nat.le_refl _)))
  have HLO := hid (fun (W : World) (n : Int) => isLocal_any x.name x.file x.params x.locals ba x.body.length bcap n W)
  have HRP := hid hr
  clear hr hra
  obtain ⟨al, hal⟩ : ∃ v, v = o.args.all fun n => withB n x.locals := ⟨_, rfl⟩
  obtain ⟨om, hom⟩ : ∃ v, v = opMayB p x o := ⟨_, rfl⟩
  obtain ⟨cb, hcb⟩ : ∃ v, v = callB p x.locals o := ⟨_, rfl⟩
  rw [← hom] at hHO ⊢
  rw [← hcb] at hHO hcall
  rw [← hal] at hcall HAR
  clear hom hcb hal
  obtain ⟨nm, fl, pr, lo, body⟩ := x
  obtain ⟨oc, ol, oa, ob, od, args⟩ := o
  simp only at HAR HLO hHO hcall hbl1 ⊢
  generalize body.length = nb at *
  generalize args.length = na at *
  have HOP := hid hHO
  have HCB := hid hcall
  clear hHO hcall
  obtain ⟨wb, hwb⟩ : ∃ wb, wb = (w.alloc (Obj.cells #[.string nm, .string fl, .int .i64 pr, .int .i64 lo, .slice ba nb bcap] 122)).alloc (Obj.cells #[.int .i64 oc, .int .i64 ol, .int .i64 oa, .int .i64 ob, .int .i64 od, .slice aa na acap] 183) := ⟨_, rfl⟩
  have hbb : Below w.heap.size w wb := by rw [hwb]; exact ((Below.refl _ _).alloc (Nat.le_refl _) _).alloc (by simp) _
  have hbs : wb.heap.size = w.heap.size + 2 := by rw [hwb]; simp
  have hk1 : wb.heap[w.heap.size]? = some (.cells #[.string nm, .string fl, .int .i64 pr, .int .i64 lo, .slice ba nb bcap] 122 (0, 0)) := by
    rw [hwb, heap_alloc_old _ _ (by simp)]
    exact heap_alloc_new _ _
  have hk2 : wb.heap[w.heap.size + 1]? = some (.cells #[.int .i64 oc, .int .i64 ol, .int .i64 oa, .int .i64 ob, .int .i64 od, .slice aa na acap] 183 (0, 0)) := by
    rw [hwb]
    have := heap_alloc_new (w.alloc (Obj.cells #[.string nm, .string fl, .int .i64 pr, .int .i64 lo, .slice ba nb bcap] 122)) (Obj.cells #[.int .i64 oc, .int .i64 ol, .int .i64 oa, .int .i64 ob, .int .i64 od, .slice aa na acap] 183)
    simpa using this
  go_enter Tryz.func137, Tryz.ntmps137
  by_cases h1 : ol < 1
  · have HF : Hid (om = false) := by show _ = _; rw [HOP.out, decide_eq_false (by omega)]; rfl
    go_wp2
    go_ret
    exact ⟨ret_bool HF.out.symm, ((Below.refl _ _).alloc (Nat.le_refl _) _).alloc (by simp) _⟩
  · have h1' : decide (ol < 1) = false := by simpa using h1
    by_cases h2 : 9999 < ol
    · have HF : Hid (om = false) := by show _ = _; rw [HOP.out, decide_eq_false (by omega)]; rfl
      go_wp2
      go_ret
      exact ⟨ret_bool HF.out.symm, ((Below.refl _ _).alloc (Nat.le_refl _) _).alloc (by simp) _⟩
    · have h2' : decide (9999 < ol) = false := by simpa using h2
      go_wp2_with fail
      rw [← hwb]
      clear hwb
      refine (HLO.out _ _).mono ?_
      rintro e w1 ⟨rfl, hb1⟩
      have hs1 := hb1.size
      have m1 := (hb1.block w.heap.size (by omega)).trans hk1
      have m2 := (hb1.block (w.heap.size + 1) (by omega)).trans hk2
      have hbel := hbb.trans (hb1.mono hbb.size)
      have r0 : w1.cell? ⟨w.heap.size, 0, none⟩ = some (.string nm) := by simp [World.cell?, m1]
      have r1 : w1.cell? ⟨w.heap.size, 1, none⟩ = some (.string fl) := by simp [World.cell?, m1]
      have r2 : w1.cell? ⟨w.heap.size, 2, none⟩ = some (.int .i64 pr) := by simp [World.cell?, m1]
      have r3 : w1.cell? ⟨w.heap.size, 3, none⟩ = some (.int .i64 lo) := by simp [World.cell?, m1]
      have r4 : w1.cell? ⟨w.heap.size, 4, none⟩ = some (.slice ba nb bcap) := by simp [World.cell?, m1]
      have q0 : w1.cell? ⟨w.heap.size + 1, 0, none⟩ = some (.int .i64 oc) := by simp [World.cell?, m2]
      have q3 : w1.cell? ⟨w.heap.size + 1, 3, none⟩ = some (.int .i64 ob) := by simp [World.cell?, m2]
      have q4 : w1.cell? ⟨w.heap.size + 1, 4, none⟩ = some (.int .i64 od) := by simp [World.cell?, m2]
      have q5 : w1.cell? ⟨w.heap.size + 1, 5, none⟩ = some (.slice aa na acap) := by simp [World.cell?, m2]
      have HM1 := hid m1
      have HM2 := hid m2
      clear hk1 hk2 m1 m2 hbb hb1
      cases hA : withB oa lo with
      | false =>
        have HF : Hid (om = false) := by show _ = _; rw [HOP.out, hA]; simp
        go_wp2
        go_ret
        exact ⟨ret_bool HF.out.symm, hbel⟩
      | true =>
        have hO2 : om = if oc = 0 then withB ob 1000 else if oc = 1 ∨ oc = 2 ∨ oc = 3 then withB ob lo && withB od lo else if oc = 4 then withB ob (nb : Int) else if oc = 5 then cb else if oc = 6 then true else false := by
          rw [HOP.out, decide_eq_true ⟨by omega, by omega⟩, hA]; rfl
        have HO2 := hid hO2
        clear hO2 HOP
        by_cases k0 : oc = 0
        · subst k0
          have HF : Hid (om = withB ob 1000) := by show _ = _; rw [HO2.out]; rfl
          go_wp2_with fail
          refine (pIsValue_any _ _).mono ?_
          rintro e w2 ⟨rfl, rfl⟩
          go_wp2
          go_ret
          exact ⟨ret_bool HF.out.symm, hbel⟩
        · have k0' : (oc == 0) = false := by simpa using k0
          by_cases k123 : oc = 1 ∨ oc = 2 ∨ oc = 3
          · have HE : Hid (om = (withB ob lo && withB od lo)) := by show _ = _; rw [HO2.out, if_neg k0, if_pos k123]
            clear HO2 HCB HRP HL HAR k0
            cases hB : withB ob lo with
            | false =>
              have HF : Hid (om = false) := by show _ = _; rw [HE.out, hB]; rfl
              rcases k123 with rfl | rfl | rfl
              all_goals
                go_wp2_with fail
                refine (HLO.out _ _).mono ?_
                rintro e w2 ⟨rfl, hb2⟩
                rw [hB]
                go_wp2
                go_ret
                exact ⟨ret_bool HF.out.symm, hbel.trans (hb2.mono hbel.size)⟩
            | true =>
              have HF : Hid (om = withB od lo) := by show _ = _; rw [HE.out, hB]; rfl
              have HM : Hid (∀ w2, Below w1.heap.size w1 w2 → w2.cell? ⟨w.heap.size, 0, none⟩ = some (.string nm) ∧ w2.cell? ⟨w.heap.size, 1, none⟩ = some (.string fl) ∧ w2.cell? ⟨w.heap.size, 2, none⟩ = some (.int .i64 pr) ∧ w2.cell? ⟨w.heap.size, 3, none⟩ = some (.int .i64 lo) ∧ w2.cell? ⟨w.heap.size, 4, none⟩ = some (.slice ba nb bcap) ∧ w2.cell? ⟨w.heap.size + 1, 4, none⟩ = some (.int .i64 od)) := by
                intro w2 hb2
                have n1 := (hb2.block w.heap.size (by omega)).trans HM1.out
                have n2 := (hb2.block (w.heap.size + 1) (by omega)).trans HM2.out
                simp [World.cell?, n1, n2]
              rcases k123 with rfl | rfl | rfl
              all_goals
                go_wp2_with fail
                refine (HLO.out _ _).mono ?_
                rintro e w2 ⟨rfl, hb2⟩
                rw [hB]
                obtain ⟨t0, t1, t2, t3, t4, t5⟩ := HM.out w2 hb2
                have hbel2 := hbel.trans (hb2.mono hbel.size)
                clear hb2
                go_wp2_with fail
                refine (HLO.out _ _).mono ?_
                rintro e w3 ⟨rfl, hb3⟩
                go_wp2
                go_ret
                exact ⟨ret_bool HF.out.symm, hbel2.trans (hb3.mono hbel2.size)⟩
          · have k1' : (oc == 1) = false := by simp; omega
            have k2' : (oc == 2) = false := by simp; omega
            have k3' : (oc == 3) = false := by simp; omega
            by_cases k4 : oc = 4
            · subst k4
              have HE : Hid (om = withB ob (nb : Int)) := by show _ = _; rw [HO2.out]; rfl
              by_cases hob : 0 ≤ ob
              · have HF : Hid (om = decide (ob < (nb : Int))) := by show _ = _; rw [HE.out]; simp [withB, hob]
                go_wp2
                go_ret
                exact ⟨ret_bool HF.out.symm, hbel⟩
              · have HF : Hid (om = false) := by show _ = _; rw [HE.out]; simp [withB, hob]
                have hob' : decide (0 ≤ ob) = false := by simpa using hob
                go_wp2
                go_ret
                exact ⟨ret_bool HF.out.symm, hbel⟩
            · have k4' : (oc == 4) = false := by simpa using k4
              by_cases k5 : oc = 5
              · subst k5
                have HE : Hid (om = cb) := by show _ = _; rw [HO2.out]; rfl
                clear HO2 HM1 HM2
                by_cases hob : 0 ≤ ob
                · obtain ⟨j, rfl⟩ : ∃ j : Nat, ob = (j : Int) := ⟨ob.toNat, by omega⟩
                  by_cases hjl : j < len
                  · obtain ⟨y, hy⟩ : ∃ y, p[j]? = some y := ⟨_, List.getElem?_eq_getElem (by rw [HL.out]; exact hjl)⟩
                    obtain ⟨b, off, _, _, rfl, _, d0, d1, d2, d3, d4, _⟩ := (HRP.out.below hbel).at j y hy
                    have hF : om = (y.params == (na : Int) && al) := by
                      rw [HE.out, HCB.out]
                      have e1 : withB (j : Int) (p.length : Int) = true := by simp [withB, HL.out]; omega
                      rw [e1, Int.toNat_natCast, hy]; rfl
                    have HF := hid hF
                    have HC := hid (fun (W : World) (hW : Below w1.heap.size w1 W) => HAR.out W y.params (hbel.trans (hW.mono hbel.size)))
                    generalize y.params = yp at *
                    have hjl' : (j : Int) < (len : Int) := by omega
                    clear HAR HE HCB hy hF HRP
                    go_wp2
                    go_region_with (go_at_call 190; refine (HC.out _ ?_).mono ?_; exact (Below.refl _ _).drew; rintro e w2 ⟨rfl, hb2⟩)
                    all_goals
                      go_wp2
                      go_ret
                      exact ⟨ret_bool HF.out.symm, hbel.trans (((Below.refl _ _).drew.trans hb2).mono hbel.size)⟩
                  · have HF : Hid (om = false) := by
                      show _ = _
                      have e1 : withB (j : Int) (p.length : Int) = false := by simp [withB, HL.out]; omega
                      rw [HE.out, HCB.out, e1]; rfl
                    have hjl' : decide ((j : Int) < (len : Int)) = false := by simp; omega
                    clear HAR HE HCB HRP
                    go_wp2
                    go_quiet (fail)
                    go_wp2
                    go_ret
                    exact ⟨ret_bool HF.out.symm, below_drawn hbel nq⟩
                · have HF : Hid (om = false) := by
                    show _ = _
                    have e1 : withB ob (p.length : Int) = false := by simp [withB, hob]
                    rw [HE.out, HCB.out, e1]; rfl
                  have hob' : decide (0 ≤ ob) = false := by simpa using hob
                  clear HAR HE HCB HRP
                  go_wp2
                  go_quiet (fail)
                  go_wp2
                  go_ret
                  exact ⟨ret_bool HF.out.symm, below_drawn hbel nq⟩
              · have k5' : (oc == 5) = false := by simpa using k5
                by_cases k6 : oc = 6
                · subst k6
                  have HF : Hid (om = true) := by show _ = _; rw [HO2.out]; rfl
                  go_wp2
                  go_ret
                  exact ⟨ret_bool HF.out.symm, hbel⟩
                · have k6' : (oc == 6) = false := by simpa using k6
                  have HF : Hid (om = false) := by show _ = _; rw [HO2.out, if_neg k0, if_neg k123, if_neg k4, if_neg k5, if_neg k6]
                  clear k0 k123 k4 k5 k6
                  go_wp2
                  go_ret
                  exact ⟨ret_bool HF.out.symm, hbel⟩
end Go.Proofs.YtffnfjkjlmlonaaGreatDoor
namespace Go.Proofs.YtffnfjkjlmlonaaGreatDoor
open Go.RowKit

theorem HdB.below {w w' : World} {base : Nat} {orig : Nat → Option Value} {l : List OpD} {g : Nat} (h : HdB w base orig l g) (hb : Below w.heap.size w w') : HdB w' base orig l g := by
  obtain ⟨done, h1, h2, h3, h4⟩ := h
  exact ⟨done, h1, h2, h3.mono (fun _ _ _ h => h.below hb), owns_below h4 hb⟩
theorem HdB.lower {w : World} {base base' : Nat} {orig : Nat → Option Value} {l : List OpD} {g : Nat} (h : HdB w base orig l g) (hb : base' ≤ base) : HdB w base' orig l g := by
  obtain ⟨done, h1, h2, h3, h4⟩ := h
  refine ⟨done, h1, h2, ?_, owns_lower h4 hb⟩
  intro i o hi ho
  obtain ⟨aa, acap, hv, e1, e2, e3⟩ := h3 i o hi ho
  exact ⟨aa, acap, hv, e1, e2, e3.lower hb⟩

/-- The cells of one op of a body that was handed in. -/
theorem HdB.at {w : World} {base : Nat} {orig : Nat → Option Value} {l : List OpD} {g : Nat} (h : HdB w base orig l g) (i : Nat) (o : OpD) (ho : l[i]? = some o) :
    ∃ aa acap hv, orig i = some (.slice aa o.args.length acap) ∧ HdI w base aa o.args hv ∧ ∀ j v, (opCells o hv)[j]? = some v → w.cell? ⟨g, i * 6 + j, none⟩ = some v := by
  obtain ⟨done, h1, h2, h3, h4⟩ := h
  have hi := (List.getElem?_eq_some_iff.1 ho).1
  obtain ⟨aa, acap, hv, e1, e2, e3⟩ := h3 i o (by omega) ho
  refine ⟨aa, acap, hv, e1, e3, fun j v hj => ?_⟩
  have hj6 : j < 6 := by
    rcases Nat.lt_or_ge j 6 with h | h
    · exact h
    · rw [List.getElem?_eq_none (by simpa [opCells] using h)] at hj; cases hj
  have hall : ∀ e ∈ done ++ List.replicate 8 markOp, e.length = 6 := by
    intro e he
    rcases List.mem_append.1 he with h | h
    · exact h2 e h
    · rw [List.eq_of_mem_replicate h]; rfl
  have := h4.cellAt (i * 6 + j) (by omega)
  rw [flatten_get 6 _ i j hall (by simp; omega) hj6] at this
  have hd : (done ++ List.replicate 8 markOp).getD i [] = opCells o hv := by
    simp only [List.getD]
    rw [List.getElem?_append_left (by omega), e2]
    rfl
  rw [hd, hj] at this
  exact this
/-- The marks behind a body that was handed in. -/
theorem HdB.mark {w : World} {base : Nat} {orig : Nat → Option Value} {l : List OpD} {g : Nat} (h : HdB w base orig l g) (k : Nat) (hk : k < 8) : ∀ j v, markOp[j]? = some v → w.cell? ⟨g, (l.length + k) * 6 + j, none⟩ = some v := by
  intro j v hj
  obtain ⟨done, h1, h2, _, h4⟩ := h
  have hj6 : j < 6 := by
    rcases Nat.lt_or_ge j 6 with h | h
    · exact h
    · rw [List.getElem?_eq_none (by simpa [markOp] using h)] at hj; cases hj
  have hall : ∀ e ∈ done ++ List.replicate 8 markOp, e.length = 6 := by
    intro e he
    rcases List.mem_append.1 he with h | h
    · exact h2 e h
    · rw [List.eq_of_mem_replicate h]; rfl
  have := h4.cellAt ((l.length + k) * 6 + j) (by omega)
  rw [flatten_get 6 _ (l.length + k) j hall (by simp; omega) hj6] at this
  have hd : (done ++ List.replicate 8 markOp).getD (l.length + k) [] = markOp := by
    simp only [List.getD]
    rw [List.getElem?_append_right (by omega), h1, Nat.add_sub_cancel_left, List.getElem?_replicate_of_lt hk]
    rfl
  rw [hd, hj] at this
  exact this
/-- A body that was handed in reads as the body that it was made of. -/
theorem HdB.read {w : World} {base : Nat} {orig : Nat → Option Value} {l : List OpD} {g : Nat} (h : HdB w base orig l g) : RdL 6 RdOp w (some ⟨g, 0, none⟩) l.length (l.length + 8) l := by
  have hm : l.length + 8 ≤ maxLen := by
    obtain ⟨done, _, _, _, h4⟩ := h
    rcases h4.2 with ⟨h', _⟩ | ⟨g', cap', cur, h', _, _, _, hcm, _⟩
    · cases h'
    · cases h'; exact hcm
  refine ⟨rfl, by omega, hm, fun i o ho => ?_⟩
  obtain ⟨aa, acap, hv, _, hh, hc⟩ := h.at i o ho
  refine ⟨g, 0, opCells o hv, rfl, rfl, fun j v hj => by rw [Nat.zero_add]; exact hc j v hj, ?_⟩
  obtain ⟨a', cap', rfl, hr⟩ := hh.read
  exact ⟨a', cap', rfl, hr⟩

set_option maxHeartbeats 4000000 in
set_option maxRecDepth 100000 in
theorem funcStill_any (base : Nat) (orig : Nat → Option Value) (g : Nat) (f : FnD) (ba : Option Addr) (bcap : Nat) (w : World) (hh : HdB w base orig f.body g) (hr : RdL 6 RdOp w ba f.body.length bcap f.body)
    (hor : ∀ i, i < f.body.length → orig i = ba.bind fun a => w.cell? ⟨a.block, a.off + i * 6 + 5, none⟩) (hlen : f.body.length ≤ 2199023255552) (hargs : ∀ o ∈ f.body, o.args.length ≤ 17592186044416) :
    Calls Tryz.prog 87 #[.agg #[.string f.name, .string f.file, .int .i64 f.params, .int .i64 f.locals, .slice (some ⟨g, 0, none⟩) f.body.length (f.body.length + 8)], .agg #[.string f.name, .string f.file, .int .i64 f.params, .int .i64 f.locals, .slice ba f.body.length bcap]] w
      fun e w' => e = .returned (.bool true) ∧ Below w.heap.size w w' := by
  have hsame := fun (W : World) (hW : Below w.heap.size w W) => sameFunc_any f _ _ ba bcap W (hh.below hW).read (hr.below hW (fun _ _ h => h.below hW))
  obtain ⟨nm, fl, pr, lo, l⟩ := f
  simp only at hr hh hlen hargs hor hsame ⊢
  obtain ⟨n, hn⟩ : ∃ n, n = l.length := ⟨_, rfl⟩
  rw [← hn] at hr hlen hor hsame ⊢
  have HN := hid hn
  have HSAME := hid hsame
  have HOR := hid hor
  clear hn hsame hor
  have hc1 := hr.2.1
  have hc2 := hr.2.2.1
  unfold maxLen at hc2
  obtain ⟨wb, hwb⟩ : ∃ wb, wb = (w.alloc (Obj.cells #[.string nm, .string fl, .int .i64 pr, .int .i64 lo, .slice (some ⟨g, 0, none⟩) n (n + 8)] 122)).alloc (Obj.cells #[.string nm, .string fl, .int .i64 pr, .int .i64 lo, .slice ba n bcap] 122) := ⟨_, rfl⟩
  have hbb : Below w.heap.size w wb := by rw [hwb]; exact ((Below.refl _ _).alloc (Nat.le_refl _) _).alloc (by simp) _
  have hbs : wb.heap.size = w.heap.size + 2 := by rw [hwb]; simp
  have hk1 : wb.heap[w.heap.size]? = some (.cells #[.string nm, .string fl, .int .i64 pr, .int .i64 lo, .slice (some ⟨g, 0, none⟩) n (n + 8)] 122 (0, 0)) := by
    rw [hwb, Below.heap_alloc _ _ _ (by simp)]; exact heap_alloc_new _ _
  have hk2 : wb.heap[w.heap.size + 1]? = some (.cells #[.string nm, .string fl, .int .i64 pr, .int .i64 lo, .slice ba n bcap] 122 (0, 0)) := by
    rw [hwb]
    have := heap_alloc_new (w.alloc (Obj.cells #[.string nm, .string fl, .int .i64 pr, .int .i64 lo, .slice (some ⟨g, 0, none⟩) n (n + 8)] 122)) (Obj.cells #[.string nm, .string fl, .int .i64 pr, .int .i64 lo, .slice ba n bcap] 122)
    simpa using this
  have hge : decide ((n : Int) + 8 < (n : Int) + 8) = false := by simp
  go_enter Tryz.func87, Tryz.ntmps87
  go_wp2_with fail
  rw [← hwb]
  clear hwb
  refine (HSAME.out wb hbb).mono ?_
  rintro e w1 ⟨rfl, hb1⟩
  have hbel1 := hbb.trans (hb1.mono hbb.size)
  have m1 := (hb1.block w.heap.size (by omega)).trans hk1
  have m2 := (hb1.block (w.heap.size + 1) (by omega)).trans hk2
  have p4 : w1.cell? ⟨w.heap.size, 4, none⟩ = some (.slice (some ⟨g, 0, none⟩) n (n + 8)) := by simp [World.cell?, m1]
  have q4 : w1.cell? ⟨w.heap.size + 1, 4, none⟩ = some (.slice ba n bcap) := by simp [World.cell?, m2]
  have hs1 := hb1.size
  have HM2 := hid m2
  clear HSAME hk1 hk2 hb1 hbb m1 m2
  go_wp2
  go_loopw [8, 9] (fun i _ wr => ∃ j : Nat, i = .int .i64 j ∧ j ≤ n ∧ Below w1.heap.size w1 wr) (fun i _ _ => n - (intOf i).toNat)
  case atStart => exact ⟨0, rfl, by omega, Below.refl _ _⟩
  case round =>
    clear p4 q4
    obtain ⟨j, rfl, hj, hbel⟩ := hrel
    have hsz := hbel.size
    have hbe := hbel1.trans (hbel.mono hbel1.size)
    have hmr := (hbel.block (w.heap.size + 1) (by omega)).trans HM2.out
    have q4 : wr.cell? ⟨w.heap.size + 1, 4, none⟩ = some (.slice ba n bcap) := by simp [World.cell?, hmr]
    clear hmr
    by_cases hlt : j < n
    · obtain ⟨o, ho⟩ : ∃ o, l[j]? = some o := ⟨_, List.getElem?_eq_getElem (by rw [← HN.out]; exact hlt)⟩
      obtain ⟨b, off, aa, acap, rfl, hb, d5, hra⟩ : ∃ b off aa acap, ba = some ⟨b, off, none⟩ ∧ b < wr.heap.size ∧ wr.cell? ⟨b, off + j * 6 + 5, none⟩ = some (.slice aa o.args.length acap) ∧ Rd .i64 wr aa o.args.length acap o.args := by
        obtain ⟨b, off, aa, acap, e, hb, _, _, _, _, _, d5, hra⟩ := (hr.below hbe (fun _ _ h => h.below hbe)).opAt j o ho
        exact ⟨b, off, aa, acap, e, hb, d5, hra⟩
      obtain ⟨aa2, acap2, hv, horg, hhi, hcells⟩ := (hh.below hbe).at j o ho
      have haa : aa2 = aa := by
        have h1 := HOR.out j hlt
        rw [horg] at h1
        obtain ⟨b', off', aa', acap', e', hb', _, _, _, _, _, d5', _⟩ := hr.opAt j o ho
        cases e'
        have h2 : w.cell? ⟨b, off + j * 6 + 5, none⟩ = some (.slice aa o.args.length acap) := by
          rw [← (hbe.cell (p := ⟨b, off + j * 6 + 5, none⟩) hb')]; exact d5
        have h3 : some (Value.slice aa2 o.args.length acap2) = some (.slice aa o.args.length acap) := h1.trans h2
        injection h3 with h3
        injection h3
      subst haa
      have hc5 : wr.cell? ⟨g, j * 6 + 5, none⟩ = some hv := hcells 5 hv rfl
      have HST := hid (fun (W : World) (hW : Below wr.heap.size wr W) => intsStill_any base aa2 o.args.length acap o.args hv W (hhi.below hW) (hra.below hW (Nat.le_refl _)) (hargs o (List.mem_of_getElem? ho)))
      clear hr hh ho hra hcells horg HOR hargs hhi
      have hj8 : (j : Int) < (n : Int) + 8 := by omega
      go_wp2
      go_region_with (go_at_call 46; refine (HST.out _ ?_).mono ?_; exact (Below.refl _ _).drew; rintro e w2 ⟨rfl, hb2⟩)
      all_goals
        go_wp2
        go_roundw
        case rel => exact ⟨j + 1, by go_num, by omega, hbel.trans (((Below.refl _ _).drew.trans hb2).mono hsz)⟩
        case measure => simp [intOf]; omega
    · have hjn : j = n := by omega
      subst hjn
      clear q4
      go_wp2
      go_loopw [10] (fun i wr => ∃ k : Nat, i = .int .i64 ((j : Int) + k) ∧ k ≤ 8 ∧ Below w1.heap.size w1 wr) (fun i _ => (j + 8) - (intOf i).toNat)
      case atStart => exact ⟨0, by go_num, by omega, hbel⟩
      case round =>
        clear hbel hbe hsz
        obtain ⟨k, rfl, hk, hbel⟩ := hrel
        have hsz := hbel.size
        have hbe := hbel1.trans (hbel.mono hbel1.size)
        by_cases hk8 : k < 8
        · have hlt8 : (j : Int) + k < (j : Int) + 8 := by omega
          have e0 : ((j : Int) + (k : Int)).toNat = j + k := by omega
          have hm := (hh.below hbe).mark k hk8
          rw [← HN.out] at hm
          have x0 : wr.cell? ⟨g, (j + k) * 6, none⟩ = some (.int .i64 0) := hm 0 _ rfl
          have x1 : wr.cell? ⟨g, (j + k) * 6 + 1, none⟩ = some (.int .i64 77) := hm 1 _ rfl
          have x2 : wr.cell? ⟨g, (j + k) * 6 + 2, none⟩ = some (.int .i64 0) := hm 2 _ rfl
          have x3 : wr.cell? ⟨g, (j + k) * 6 + 3, none⟩ = some (.int .i64 0) := hm 3 _ rfl
          have x4 : wr.cell? ⟨g, (j + k) * 6 + 4, none⟩ = some (.int .i64 0) := hm 4 _ rfl
          have x5 : wr.cell? ⟨g, (j + k) * 6 + 5, none⟩ = some (.slice none 0 0) := hm 5 _ rfl
          have hneq := fun W => run_neq_slice_nil_any (P := Tryz.prog) W 35 3 none 0 0 0 0 Tryz.underlying35
          clear hm hh hr HOR hargs
          go_wp2
          go_roundw
          case rel => exact ⟨k + 1, by go_num, by omega, hbel.alloc hsz _⟩
          case measure => simp [intOf]; omega
        · have hk' : k = 8 := by omega
          subst hk'
          go_wp2
          go_ret
          exact ⟨rfl, hbe⟩
end Go.Proofs.YtffnfjkjlmlonaaGreatDoor
