/- The contract of the reference's goodOp: it gives the plain function opB; nothing that was there is written. -/
import Derived.Test.YtooinlilplecpaaGreatDoorC2
namespace Go.Proofs.YtooinlilplecpaaGreatDoor
open Go.RowKit

/-- One op of a body, as it lies in memory. -/
theorem RdL.opAt {w : World} {a : Option Addr} {len cap : Nat} {l : List OpD} (h : RdL 6 RdOp w a len cap l) (i : Nat) (o : OpD) (ho : l[i]? = some o) :
    ∃ b off aa acap, a = some ⟨b, off, none⟩ ∧ b < w.heap.size ∧ w.cell? ⟨b, off + i * 6, none⟩ = some (.int .i64 o.code) ∧ w.cell? ⟨b, off + i * 6 + 1, none⟩ = some (.int .i64 o.line) ∧
      w.cell? ⟨b, off + i * 6 + 2, none⟩ = some (.int .i64 o.a) ∧ w.cell? ⟨b, off + i * 6 + 3, none⟩ = some (.int .i64 o.b) ∧ w.cell? ⟨b, off + i * 6 + 4, none⟩ = some (.int .i64 o.c) ∧
      w.cell? ⟨b, off + i * 6 + 5, none⟩ = some (.slice aa o.args.length acap) ∧ Rd .i64 w aa o.args.length acap o.args := by
  obtain ⟨b, off, cs, e, hl, hc, aa, acap, rfl, hr⟩ := h.2.2.2 i o ho
  have c0 := hc 0 _ rfl
  exact ⟨b, off, aa, acap, e, World.block_lt_of_cell? w _ c0, c0, hc 1 _ rfl, hc 2 _ rfl, hc 3 _ rfl, hc 4 _ rfl, hc 5 _ rfl, hr⟩

set_option maxHeartbeats 4000000 in
set_option maxRecDepth 100000 in
theorem goodOp_any (a : Option Addr) (len cap : Nat) (p : List FnD) (f s : Nat) (x : FnD) (o : OpD) (w : World) (hr : RdP w a len cap p) (hx : p[f]? = some x) (ho : x.body[s]? = some o) :
    Calls Tryz.prog 94 #[.slice a len cap, .int .i64 (f : Int), .int .i64 (s : Int)] w fun e w' => e = .returned (.bool (opB p x s o)) ∧ Below w.heap.size w w' := by
  have HL := hid hr.len
  have hcap := hr.2.1
  have hmax := hr.2.2.1
  unfold maxLen at hmax
  have hf : f < len := by rw [← HL.out]; exact (List.getElem?_eq_some_iff.1 hx).1
  obtain ⟨b, off, ba, bcap, rfl, hb, c0, c1, c2, c3, c4, hrb, hn1, hn2⟩ := hr.at f x hx
  have hbl1 := hrb.2.1
  have hbl2 := hrb.2.2.1
  unfold maxLen at hbl2
  have hs : s < x.body.length := (List.getElem?_eq_some_iff.1 ho).1
  obtain ⟨b2, off2, aa, acap, rfl, hb2, d0, d1, d2, d3, d4, d5, hra⟩ := hrb.opAt s o ho
  have HX := hid hx
  have HO := hid ho
  have HCALL := hid (fun (W : World) (hW : Below w.heap.size w W) => goodCall_any (some ⟨b, off, none⟩) len cap p x.locals o aa acap W (hr.below hW) (hra.below hW (Nat.le_refl _)))
  clear hx ho hrb hn1 hn2
  obtain ⟨nm, hnm⟩ : ∃ nm, nm = x.name := ⟨_, rfl⟩
  obtain ⟨fl, hfl⟩ : ∃ fl, fl = x.file := ⟨_, rfl⟩
  obtain ⟨pr, hpr⟩ : ∃ pr, pr = x.params := ⟨_, rfl⟩
  obtain ⟨lo, hlo⟩ : ∃ lo, lo = x.locals := ⟨_, rfl⟩
  obtain ⟨nb, hnb⟩ : ∃ nb, nb = x.body.length := ⟨_, rfl⟩
  obtain ⟨oc, hoc⟩ : ∃ v, v = o.code := ⟨_, rfl⟩
  obtain ⟨ol, hol⟩ : ∃ v, v = o.line := ⟨_, rfl⟩
  obtain ⟨oa, hoa⟩ : ∃ v, v = o.a := ⟨_, rfl⟩
  obtain ⟨ob, hob⟩ : ∃ v, v = o.b := ⟨_, rfl⟩
  obtain ⟨od, hod⟩ : ∃ v, v = o.c := ⟨_, rfl⟩
  obtain ⟨na, hna⟩ : ∃ v, v = o.args.length := ⟨_, rfl⟩
  obtain ⟨cl, hcl⟩ : ∃ v, v = callB p x.locals o := ⟨_, rfl⟩
  have hO : opB p x s o = (if !(decide (1 ≤ ol ∧ ol ≤ 9999)) || !(withB oa lo) then false else if oc = 6 then true else if s + 1 = nb then false else if oc = 0 then withB ob 1000 else
      if oc = 1 ∨ oc = 2 ∨ oc = 3 then withB ob lo && withB od lo else if oc = 4 then withB ob (nb : Int) else if oc = 5 then cl else false) := by
    unfold opB; rw [hlo, hnb, hoc, hol, hoa, hob, hod, hcl]
  rw [← hcl, ← hlo, ← hoc, ← hol, ← hoa, ← hob, ← hod, ← hna] at HCALL
  rw [← hnm] at c0
  rw [← hfl] at c1
  rw [← hpr] at c2
  rw [← hlo] at c3
  rw [← hnb] at c4 hbl1 hs
  rw [← hoc] at d0
  rw [← hol] at d1
  rw [← hoa] at d2
  rw [← hob] at d3
  rw [← hod] at d4
  rw [← hna] at d5
  have HOP := hid hO
  clear hnm hfl hpr hlo hnb hoc hol hoa hob hod hna hcl hO hr hra
  go_enter Tryz.func94, Tryz.ntmps94
  by_cases h1 : ol < 1
  · have hd1 : decide (1 ≤ ol) = false := by simp; omega
    have HF : Hid (opB p x s o = false) := by show _ = _; rw [HOP.out, decide_eq_false (by omega)]; rfl
    go_wp2_with (go_at_call 144; refine (within_any _ _ _).mono ?_; rintro e w' ⟨rfl, rfl⟩)
    go_ret
    exact ⟨ret_bool HF.out.symm, ((Below.refl _ _).alloc (Nat.le_refl _) _).alloc (by simp) _⟩
  · have hd1 : (1 : Int) ≤ ol := by omega
    by_cases h2 : 9999 < ol
    · have hd2 : decide (ol ≤ 9999) = false := by simp; omega
      have HF : Hid (opB p x s o = false) := by show _ = _; rw [HOP.out, decide_eq_false (by omega)]; rfl
      go_wp2_with (go_at_call 144; refine (within_any _ _ _).mono ?_; rintro e w' ⟨rfl, rfl⟩)
      go_ret
      exact ⟨ret_bool HF.out.symm, ((Below.refl _ _).alloc (Nat.le_refl _) _).alloc (by simp) _⟩
    · have hd2 : ol ≤ 9999 := by omega
      cases hA : withB oa lo with
      | false =>
        have HF : Hid (opB p x s o = false) := by show _ = _; rw [HOP.out, hA]; simp
        go_wp2_with (go_at_call 144; refine (within_any _ _ _).mono ?_; rintro e w' ⟨rfl, rfl⟩)
        go_ret
        exact ⟨ret_bool HF.out.symm, ((Below.refl _ _).alloc (Nat.le_refl _) _).alloc (by simp) _⟩
      | true =>
        have hO2 : opB p x s o = (if oc = 6 then true else if s + 1 = nb then false else if oc = 0 then withB ob 1000 else
            if oc = 1 ∨ oc = 2 ∨ oc = 3 then withB ob lo && withB od lo else if oc = 4 then withB ob (nb : Int) else if oc = 5 then cl else false) := by
          rw [HOP.out, decide_eq_true ⟨hd1, hd2⟩, hA]; rfl
        have HO2 := hid hO2
        clear hO2 HOP
        by_cases h6 : oc = 6
        · have HF : Hid (opB p x s o = true) := by show _ = _; rw [HO2.out, if_pos h6]
          have h6' : (oc == 6) = true := by simpa using h6
          clear h6
          go_wp2_with (go_at_call 144; refine (within_any _ _ _).mono ?_; rintro e w' ⟨rfl, rfl⟩)
          go_ret
          exact ⟨ret_bool HF.out.symm, ((Below.refl _ _).alloc (Nat.le_refl _) _).alloc (by simp) _⟩
        · have h6' : (oc == 6) = false := by simpa using h6
          by_cases hlast : s + 1 = nb
          · have HF : Hid (opB p x s o = false) := by show _ = _; rw [HO2.out, if_neg h6, if_pos hlast]
            have hl' : ((s : Int) + 1 == (nb : Int)) = true := by simp; omega
            have HLAST := hid hlast
            clear h6 hlast
            go_wp2_with (go_at_call 144; refine (within_any _ _ _).mono ?_; rintro e w' ⟨rfl, rfl⟩)
            go_ret
            exact ⟨ret_bool HF.out.symm, ((Below.refl _ _).alloc (Nat.le_refl _) _).alloc (by simp) _⟩
          · have hl' : ((s : Int) + 1 == (nb : Int)) = false := by simp; omega
            have hO3 : opB p x s o = (if oc = 0 then withB ob 1000 else if oc = 1 ∨ oc = 2 ∨ oc = 3 then withB ob lo && withB od lo else if oc = 4 then withB ob (nb : Int) else if oc = 5 then cl else false) := by
              rw [HO2.out, if_neg h6, if_neg hlast]
            have HO3 := hid hO3
            clear hO3 HO2 h6 hlast
            by_cases k0 : oc = 0
            · subst k0
              have HF : Hid (opB p x s o = withB ob 1000) := by show _ = _; rw [HO3.out]; rfl
              go_wp2_with (go_at_call 144; refine (within_any _ _ _).mono ?_; rintro e w' ⟨rfl, rfl⟩)
              go_ret
              exact ⟨ret_bool HF.out.symm, ((Below.refl _ _).alloc (Nat.le_refl _) _).alloc (by simp) _⟩
            · have k0' : (oc == 0) = false := by simpa using k0
              by_cases k1 : oc = 1
              · subst k1
                have HE : Hid (opB p x s o = (withB ob lo && withB od lo)) := by show _ = _; rw [HO3.out]; rfl
                cases hB : withB ob lo with
                | true =>
                  have HF : Hid (opB p x s o = withB od lo) := by show _ = _; rw [HE.out, hB]; rfl
                  go_wp2_with (go_at_call 144; refine (within_any _ _ _).mono ?_; rintro e w' ⟨rfl, rfl⟩)
                  go_ret
                  exact ⟨ret_bool HF.out.symm, ((Below.refl _ _).alloc (Nat.le_refl _) _).alloc (by simp) _⟩
                | false =>
                  have HF : Hid (opB p x s o = false) := by show _ = _; rw [HE.out, hB]; rfl
                  go_wp2_with (go_at_call 144; refine (within_any _ _ _).mono ?_; rintro e w' ⟨rfl, rfl⟩)
                  go_ret
                  exact ⟨ret_bool HF.out.symm, ((Below.refl _ _).alloc (Nat.le_refl _) _).alloc (by simp) _⟩
              · have k1' : (oc == 1) = false := by simpa using k1
                by_cases k2 : oc = 2
                · subst k2
                  have HE : Hid (opB p x s o = (withB ob lo && withB od lo)) := by show _ = _; rw [HO3.out]; rfl
                  cases hB : withB ob lo with
                  | true =>
                    have HF : Hid (opB p x s o = withB od lo) := by show _ = _; rw [HE.out, hB]; rfl
                    go_wp2_with (go_at_call 144; refine (within_any _ _ _).mono ?_; rintro e w' ⟨rfl, rfl⟩)
                    go_ret
                    exact ⟨ret_bool HF.out.symm, ((Below.refl _ _).alloc (Nat.le_refl _) _).alloc (by simp) _⟩
                  | false =>
                    have HF : Hid (opB p x s o = false) := by show _ = _; rw [HE.out, hB]; rfl
                    go_wp2_with (go_at_call 144; refine (within_any _ _ _).mono ?_; rintro e w' ⟨rfl, rfl⟩)
                    go_ret
                    exact ⟨ret_bool HF.out.symm, ((Below.refl _ _).alloc (Nat.le_refl _) _).alloc (by simp) _⟩
                · have k2' : (oc == 2) = false := by simpa using k2
                  by_cases k3 : oc = 3
                  · subst k3
                    have HE : Hid (opB p x s o = (withB ob lo && withB od lo)) := by show _ = _; rw [HO3.out]; rfl
                    cases hB : withB ob lo with
                    | true =>
                      have HF : Hid (opB p x s o = withB od lo) := by show _ = _; rw [HE.out, hB]; rfl
                      go_wp2_with (go_at_call 144; refine (within_any _ _ _).mono ?_; rintro e w' ⟨rfl, rfl⟩)
                      go_ret
                      exact ⟨ret_bool HF.out.symm, ((Below.refl _ _).alloc (Nat.le_refl _) _).alloc (by simp) _⟩
                    | false =>
                      have HF : Hid (opB p x s o = false) := by show _ = _; rw [HE.out, hB]; rfl
                      go_wp2_with (go_at_call 144; refine (within_any _ _ _).mono ?_; rintro e w' ⟨rfl, rfl⟩)
                      go_ret
                      exact ⟨ret_bool HF.out.symm, ((Below.refl _ _).alloc (Nat.le_refl _) _).alloc (by simp) _⟩
                  · have k3' : (oc == 3) = false := by simpa using k3
                    by_cases k4 : oc = 4
                    · subst k4
                      have HF : Hid (opB p x s o = withB ob (nb : Int)) := by show _ = _; rw [HO3.out]; rfl
                      go_wp2_with (go_at_call 144; refine (within_any _ _ _).mono ?_; rintro e w' ⟨rfl, rfl⟩)
                      go_ret
                      exact ⟨ret_bool HF.out.symm, ((Below.refl _ _).alloc (Nat.le_refl _) _).alloc (by simp) _⟩
                    · have k4' : (oc == 4) = false := by simpa using k4
                      by_cases k5 : oc = 5
                      · subst k5
                        have HF : Hid (opB p x s o = cl) := by show _ = _; rw [HO3.out]; rfl
                        go_wp2_with (go_at_call 144; refine (within_any _ _ _).mono ?_; rintro e w' ⟨rfl, rfl⟩)
                        refine (HCALL.out _ ?_).mono ?_
                        · exact ((Below.refl _ _).alloc (Nat.le_refl _) _).alloc (by simp) _
                        · rintro e w3 ⟨rfl, hb3⟩
                          go_wp2
                          go_ret
                          exact ⟨ret_bool HF.out.symm, (((Below.refl _ _).alloc (Nat.le_refl _) _).alloc (by simp) _).trans (hb3.mono (by simp; omega))⟩
                      · have k5' : (oc == 5) = false := by simpa using k5
                        have HF : Hid (opB p x s o = false) := by show _ = _; rw [HO3.out, if_neg k0, if_neg (by omega), if_neg k4, if_neg k5]
                        clear k0 k1 k2 k3 k4 k5
                        go_wp2_with (go_at_call 144; refine (within_any _ _ _).mono ?_; rintro e w' ⟨rfl, rfl⟩)
                        go_ret
                        exact ⟨ret_bool HF.out.symm, ((Below.refl _ _).alloc (Nat.le_refl _) _).alloc (by simp) _⟩

end Go.Proofs.YtooinlilplecpaaGreatDoor
