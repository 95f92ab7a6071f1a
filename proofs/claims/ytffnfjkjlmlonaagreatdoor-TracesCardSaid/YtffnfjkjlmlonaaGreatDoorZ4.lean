/- The contract of the reference's goodOp: it gives the plain function opB; nothing that was there is written. The contract of the reference's Check: it gives the plain function chk; nothing that was there is written. What the reference's counted gives, as a plain function, and its contract. -/
import Derived.Test.YtffnfjkjlmlonaaGreatDoorZ3
namespace Go.Proofs.YtffnfjkjlmlonaaGreatDoor
open Go.RowKit

/-- One op of a body, as it lies in memory. -/
theorem RdL.opAt {w : World} {a : Option Addr} {len cap : Nat} {l : List OpD} (h : RdL 6 RdOp w a len cap l) (i : Nat) (o : OpD) (ho : l[i]? = some o) :
    ∃ b off aa acap, a = some ⟨b, off, none⟩ ∧ b < w.heap.size ∧ w.cell? ⟨b, off + i * 6, none⟩ = some (.int .i64 o.code) ∧ w.cell? ⟨b, off + i * 6 + 1, none⟩ = some (.int .i64 o.line) ∧
      w.cell? ⟨b, off + i * 6 + 2, none⟩ = some (.int .i64 o.a) ∧ w.cell? ⟨b, off + i * 6 + 3, none⟩ = some (.int .i64 o.b) ∧ w.cell? ⟨b, off + i * 6 + 4, none⟩ = some (.int .i64 o.c) ∧
      w.cell? ⟨b, off + i * 6 + 5, none⟩ = some (.slice aa o.args.length acap) ∧ Rd .i64 w aa o.args.length acap o.args := by
  obtain ⟨b, off, cs, e, hl, hc, aa, acap, rfl, hr⟩ := h.2.2.2 i o ho
  have c0 := hc 0 _ rfl
  exact ⟨b, off, aa, acap, e, World.block_lt_of_cell? w _ c0, c0, hc 1 _ rfl, hc 2 _ rfl, hc 3 _ rfl, hc 4 _ rfl, hc 5 _ rfl, hr⟩

set_option maxHeartbeats 4000000 in
set_option maxRecDepth 100000 in
theorem goodOp_any (a : Option Addr) (len cap : Nat) (p : List FnD) (f s : Nat) (x : FnD) (o : OpD) (w : World) (hr : RdP w a len cap p) (hx : p[f]? = some x) (ho : x.body[s]? = some o) :
    Calls Tryz.prog 89 #[.slice a len cap, .int .i64 (f : Int), .int .i64 (s : Int)] w fun e w' => e = .returned (.bool (opB p x s o)) ∧ Below w.heap.size w w' := by
  have HL := hid hr.len
  have hcap := hr.2.1
  have hmax := hr.2.2.1
  unfold maxLen at hmax
  have hf : f < len := by rw [← HL.out]; exact (List.getElem?_eq_some_iff.1 hx).1
  obtain ⟨b, off, ba, bcap, rfl, hb, c0, c1, c2, c3, c4, hrb, hn1, hn2⟩ := hr.at f x hx
  have hbl1 := hrb.2.1
  have hbl2 := hrb.2.2.1
  unfold maxLen at hbl2
  have hs : s < x.body.length := (List.getElem?_eq_some_iff.1 ho).1
  obtain ⟨b2, off2, aa, acap, rfl, hb2, d0, d1, d2, d3, d4, d5, hra⟩ := hrb.opAt s o ho
  have HX := hid hx
  have HO := hid ho
  have HCALL := hid (fun (W : World) (hW : Below w.heap.size w W) => goodCall_any (some ⟨b, off, none⟩) len cap p x.locals o aa acap W (hr.below hW) (hra.below hW (Nat.le_refl _)))
  clear hx ho hrb hn1 hn2
  obtain ⟨nm, hnm⟩ : ∃ nm, nm = x.name := ⟨_, rfl⟩
  obtain ⟨fl, hfl⟩ : ∃ fl, fl = x.file := ⟨_, rfl⟩
  obtain ⟨pr, hpr⟩ : ∃ pr, pr = x.params := ⟨_, rfl⟩
  obtain ⟨lo, hlo⟩ : ∃ lo, lo = x.locals := ⟨_, rfl⟩
  obtain ⟨nb, hnb⟩ : ∃ nb, nb = x.body.length := ⟨_, rfl⟩
  obtain ⟨oc, hoc⟩ : ∃ v, v = o.code := ⟨_, rfl⟩
  obtain ⟨ol, hol⟩ : ∃ v, v = o.line := ⟨_, rfl⟩
  obtain ⟨oa, hoa⟩ : ∃ v, v = o.a := ⟨_, rfl⟩
  obtain ⟨ob, hob⟩ : ∃ v, v = o.b := ⟨_, rfl⟩
  obtain ⟨od, hod⟩ : ∃ v, v = o.c := ⟨_, rfl⟩
  obtain ⟨na, hna⟩ : ∃ v, v = o.args.length := ⟨_, rfl⟩
  obtain ⟨cl, hcl⟩ : ∃ v, v = callB p x.locals o := ⟨_, rfl⟩
  have hO : opB p x s o = (if !(decide (1 ≤ ol ∧ ol ≤ 9999)) || !(withB oa lo) then false else if oc = 6 then true else if s + 1 = nb then false else if oc = 0 then withB ob 1000 else
      if oc = 1 ∨ oc = 2 ∨ oc = 3 then withB ob lo && withB od lo else if oc = 4 then withB ob (nb : Int) else if oc = 5 then cl else false) := by
    unfold opB; rw [hlo, hnb, hoc, hol, hoa, hob, hod, hcl]
  rw [← hcl, ← hlo, ← hoc, ← hol, ← hoa, ← hob, ← hod, ← hna] at HCALL
  rw [← hnm] at c0
  rw [← hfl] at c1
  rw [← hpr] at c2
  rw [← hlo] at c3
  rw [← hnb] at c4 hbl1 hs
  rw [← hoc] at d0
  rw [← hol] at d1
  rw [← hoa] at d2
  rw [← hob] at d3
  rw [← hod] at d4
  rw [← hna] at d5
  have HOP := hid hO
  clear hnm hfl hpr hlo hnb hoc hol hoa hob hod hna hcl hO hr hra
  go_enter Tryz.func89, Tryz.ntmps89
  by_cases h1 : ol < 1
  · have hd1 : decide (1 ≤ ol) = false := by simp; omega
    have HF : Hid (opB p x s o = false) := by show _ = _; rw [HOP.out, decide_eq_false (by omega)]; rfl
    go_wp2_with (go_at_call 139; refine (within_any _ _ _).mono ?_; rintro e w' ⟨rfl, rfl⟩)
    go_ret
    exact ⟨ret_bool HF.out.symm, ((Below.refl _ _).alloc (Nat.le_refl _) _).alloc (by simp) _⟩
  · have hd1 : (1 : Int) ≤ ol := by omega
    by_cases h2 : 9999 < ol
    · have hd2 : decide (ol ≤ 9999) = false := by simp; omega
      have HF : Hid (opB p x s o = false) := by show _ = _; rw [HOP.out, decide_eq_false (by omega)]; rfl
      go_wp2_with (go_at_call 139; refine (within_any _ _ _).mono ?_; rintro e w' ⟨rfl, rfl⟩)
      go_ret
      exact ⟨ret_bool HF.out.symm, ((Below.refl _ _).alloc (Nat.le_refl _) _).alloc (by simp) _⟩
    · have hd2 : ol ≤ 9999 := by omega
      cases hA : withB oa lo with
      | false =>
        have HF : Hid (opB p x s o = false) := by show _ = _; rw [HOP.out, hA]; simp
        go_wp2_with (go_at_call 139; refine (within_any _ _ _).mono ?_; rintro e w' ⟨rfl, rfl⟩)
        go_ret
        exact ⟨ret_bool HF.out.symm, ((Below.refl _ _).alloc (Nat.le_refl _) _).alloc (by simp) _⟩
      | true =>
        have hO2 : opB p x s o = (if oc = 6 then true else if s + 1 = nb then false else if oc = 0 then withB ob 1000 else
            if oc = 1 ∨ oc = 2 ∨ oc = 3 then withB ob lo && withB od lo else if oc = 4 then withB ob (nb : Int) else if oc = 5 then cl else false) := by
          rw [HOP.out, decide_eq_true ⟨hd1, hd2⟩, hA]; rfl
        have HO2 := hid hO2
        clear hO2 HOP
        by_cases h6 : oc = 6
        · have HF : Hid (opB p x s o = true) := by show _ = _; rw [HO2.out, if_pos h6]
          have h6' : (oc == 6) = true := by simpa using h6
          clear h6
          go_wp2_with (go_at_call 139; refine (within_any _ _ _).mono ?_; rintro e w' ⟨rfl, rfl⟩)
          go_ret
          exact ⟨ret_bool HF.out.symm, ((Below.refl _ _).alloc (Nat.le_refl _) _).alloc (by simp) _⟩
        · have h6' : (oc == 6) = false := by simpa using h6
          by_cases hlast : s + 1 = nb
          · have HF : Hid (opB p x s o = false) := by show _ = _; rw [HO2.out, if_neg h6, if_pos hlast]
            have hl' : ((s : Int) + 1 == (nb : Int)) = true := by simp; omega
            have HLAST := hid hlast
            clear h6 hlast
            go_wp2_with (go_at_call 139; refine (within_any _ _ _).mono ?_; rintro e w' ⟨rfl, rfl⟩)
            go_ret
            exact ⟨ret_bool HF.out.symm, ((Below.refl _ _).alloc (Nat.le_refl _) _).alloc (by simp) _⟩
          · have hl' : ((s : Int) + 1 == (nb : Int)) = false := by simp; omega
            have hO3 : opB p x s o = (if oc = 0 then withB ob 1000 else if oc = 1 ∨ oc = 2 ∨ oc = 3 then withB ob lo && withB od lo else if oc = 4 then withB ob (nb : Int) else if oc = 5 then cl else false) := by
              rw [HO2.out, if_neg h6, if_neg hlast]
            have HO3 := hid hO3
            clear hO3 HO2 h6 hlast
            by_cases k0 : oc = 0
            · subst k0
              have HF : Hid (opB p x s o = withB ob 1000) := by show _ = _; rw [HO3.out]; rfl
              go_wp2_with (go_at_call 139; refine (within_any _ _ _).mono ?_; rintro e w' ⟨rfl, rfl⟩)
              go_ret
              exact ⟨ret_bool HF.out.symm, ((Below.refl _ _).alloc (Nat.le_refl _) _).alloc (by simp) _⟩
            · have k0' : (oc == 0) = false := by simpa using k0
              by_cases k1 : oc = 1
              · subst k1
                have HE : Hid (opB p x s o = (withB ob lo && withB od lo)) := by show _ = _; rw [HO3.out]; rfl
                cases hB : withB ob lo with
                | true =>
                  have HF : Hid (opB p x s o = withB od lo) := by show _ = _; rw [HE.out, hB]; rfl
                  go_wp2_with (go_at_call 139; refine (within_any _ _ _).mono ?_; rintro e w' ⟨rfl, rfl⟩)
                  go_ret
                  exact ⟨ret_bool HF.out.symm, ((Below.refl _ _).alloc (Nat.le_refl _) _).alloc (by simp) _⟩
                | false =>
                  have HF : Hid (opB p x s o = false) := by show _ = _; rw [HE.out, hB]; rfl
                  go_wp2_with (go_at_call 139; refine (within_any _ _ _).mono ?_; rintro e w' ⟨rfl, rfl⟩)
                  go_ret
                  exact ⟨ret_bool HF.out.symm, ((Below.refl _ _).alloc (Nat.le_refl _) _).alloc (by simp) _⟩
              · have k1' : (oc == 1) = false := by simpa using k1
                by_cases k2 : oc = 2
                · subst k2
                  have HE : Hid (opB p x s o = (withB ob lo && withB od lo)) := by show _ = _; rw [HO3.out]; rfl
                  cases hB : withB ob lo with
                  | true =>
                    have HF : Hid (opB p x s o = withB od lo) := by show _ = _; rw [HE.out, hB]; rfl
                    go_wp2_with (go_at_call 139; refine (within_any _ _ _).mono ?_; rintro e w' ⟨rfl, rfl⟩)
                    go_ret
                    exact ⟨ret_bool HF.out.symm, ((Below.refl _ _).alloc (Nat.le_refl _) _).alloc (by simp) _⟩
                  | false =>
                    have HF : Hid (opB p x s o = false) := by show _ = _; rw [HE.out, hB]; rfl
                    go_wp2_with (go_at_call 139; refine (within_any _ _ _).mono ?_; rintro e w' ⟨rfl, rfl⟩)
                    go_ret
                    exact ⟨ret_bool HF.out.symm, ((Below.refl _ _).alloc (Nat.le_refl _) _).alloc (by simp) _⟩
                · have k2' : (oc == 2) = false := by simpa using k2
                  by_cases k3 : oc = 3
                  · subst k3
                    have HE : Hid (opB p x s o = (withB ob lo && withB od lo)) := by show _ = _; rw [HO3.out]; rfl
                    cases hB : withB ob lo with
                    | true =>
                      have HF : Hid (opB p x s o = withB od lo) := by show _ = _; rw [HE.out, hB]; rfl
                      go_wp2_with (go_at_call 139; refine (within_any _ _ _).mono ?_; rintro e w' ⟨rfl, rfl⟩)
                      go_ret
                      exact ⟨ret_bool HF.out.symm, ((Below.refl _ _).alloc (Nat.le_refl _) _).alloc (by simp) _⟩
                    | false =>
                      have HF : Hid (opB p x s o = false) := by show _ = _; rw [HE.out, hB]; rfl
                      go_wp2_with (go_at_call 139; refine (within_any _ _ _).mono ?_; rintro e w' ⟨rfl, rfl⟩)
                      go_ret
                      exact ⟨ret_bool HF.out.symm, ((Below.refl _ _).alloc (Nat.le_refl _) _).alloc (by simp) _⟩
                  · have k3' : (oc == 3) = false := by simpa using k3
                    by_cases k4 : oc = 4
                    · subst k4
                      have HF : Hid (opB p x s o = withB ob (nb : Int)) := by show _ = _; rw [HO3.out]; rfl
                      go_wp2_with (go_at_call 139; refine (within_any _ _ _).mono ?_; rintro e w' ⟨rfl, rfl⟩)
                      go_ret
                      exact ⟨ret_bool HF.out.symm, ((Below.refl _ _).alloc (Nat.le_refl _) _).alloc (by simp) _⟩
                    · have k4' : (oc == 4) = false := by simpa using k4
                      by_cases k5 : oc = 5
                      · subst k5
                        have HF : Hid (opB p x s o = cl) := by show _ = _; rw [HO3.out]; rfl
                        go_wp2_with (go_at_call 139; refine (within_any _ _ _).mono ?_; rintro e w' ⟨rfl, rfl⟩)
                        refine (HCALL.out _ ?_).mono ?_
                        · exact ((Below.refl _ _).alloc (Nat.le_refl _) _).alloc (by simp) _
                        · rintro e w3 ⟨rfl, hb3⟩
                          go_wp2
                          go_ret
                          exact ⟨ret_bool HF.out.symm, (((Below.refl _ _).alloc (Nat.le_refl _) _).alloc (by simp) _).trans (hb3.mono (by simp; omega))⟩
                      · have k5' : (oc == 5) = false := by simpa using k5
                        have HF : Hid (opB p x s o = false) := by show _ = _; rw [HO3.out, if_neg k0, if_neg (by omega), if_neg k4, if_neg k5]
                        clear k0 k1 k2 k3 k4 k5
                        go_wp2_with (go_at_call 139; refine (within_any _ _ _).mono ?_; rintro e w' ⟨rfl, rfl⟩)
                        go_ret
                        exact ⟨ret_bool HF.out.symm, ((Below.refl _ _).alloc (Nat.le_refl _) _).alloc (by simp) _⟩

end Go.Proofs.YtffnfjkjlmlonaaGreatDoor
namespace Go.Proofs.YtffnfjkjlmlonaaGreatDoor
open Go.RowKit

theorem chkB_at (p : List FnD) (x : FnD) (f s : Nat) (o : OpD) (h : x.body[s]? = some o) : chkB p x f (x.body.drop s) s = if opB p x s o = true then chkB p x f (x.body.drop (s + 1)) (s + 1) else some (7, (f : Int), (s : Int)) := by
  obtain ⟨hs, e⟩ := List.getElem?_eq_some_iff.1 h
  rw [List.drop_eq_getElem_cons hs, e]
  rfl
theorem chkF_at (p : List FnD) (f : Nat) (x : FnD) (h : p[f]? = some x) : chkF p (p.drop f) f = if headB p f x = true then (match chkB p x f x.body 0 with | some e => e | none => chkF p (p.drop (f + 1)) (f + 1)) else (6, (f : Int), 0) := by
  obtain ⟨hf, e⟩ := List.getElem?_eq_some_iff.1 h
  rw [List.drop_eq_getElem_cons hf, e]
  rfl

theorem ret_chk {q : Int × Int × Int} {a b c : Int} (h : q = (a, b, c)) : Ending.returned (.tuple #[.int .i64 a, .int .i64 b, .int .i64 c]) = .returned (.tuple #[.int .i64 q.1, .int .i64 q.2.1, .int .i64 q.2.2]) := by rw [h]

set_option maxHeartbeats 4000000 in
set_option maxRecDepth 100000 in
theorem refCheck_any (a : Option Addr) (len cap : Nat) (p : List FnD) (w : World) (hr : RdP w a len cap p) :
    Calls Tryz.prog 42 #[.agg #[.slice a len cap]] w fun e w' => e = .returned (.tuple #[.int .i64 (chk p).1, .int .i64 (chk p).2.1, .int .i64 (chk p).2.2]) ∧ Below w.heap.size w w' := by
  have HL := hid hr.len
  have hcap := hr.2.1
  have hmax := hr.2.2.1
  unfold maxLen at hmax
  by_cases h0 : len = 0
  · have HF : Hid (chk p = (5, 0, 0)) := by show _ = _; unfold chk; rw [if_pos (by rw [HL.out]; omega)]
    have h0' : ((len : Int) == 0) = true := by simp; omega
    go_enter Tryz.func42, Tryz.ntmps42
    go_wp2
    go_ret3
    exact ⟨ret_chk HF.out, (Below.refl _ _).alloc (Nat.le_refl _) _⟩
  · have h0' : ((len : Int) == 0) = false := by simp; omega
    by_cases h12 : 12 < len
    · have HF : Hid (chk p = (5, 0, 0)) := by show _ = _; unfold chk; rw [if_pos (by rw [HL.out]; omega)]
      have h12' : (12 : Int) < (len : Int) := by omega
      go_enter Tryz.func42, Tryz.ntmps42
      go_wp2
      go_ret3
      exact ⟨ret_chk HF.out, (Below.refl _ _).alloc (Nat.le_refl _) _⟩
    · have h12' : decide ((12 : Int) < (len : Int)) = false := by simp; omega
      have HC : Hid (chk p = chkF p (p.drop 0) 0) := by show _ = _; unfold chk; rw [if_neg (by rw [HL.out]; omega)]; rfl
      have HH := hid (fun (W : World) (f : Nat) (x : FnD) (hW : Below w.heap.size w W) (hx : p[f]? = some x) => goodHead_any a len cap p f x W (hr.below hW) hx)
      have HG := hid (fun (W : World) (f s : Nat) (x : FnD) (o : OpD) (hW : Below w.heap.size w W) (hx : p[f]? = some x) (ho : x.body[s]? = some o) => goodOp_any a len cap p f s x o W (hr.below hW) hx ho)
      go_enter Tryz.func42, Tryz.ntmps42
      go_wp2
      go_loopw [6, 7, 8] (fun i _ _ wr => ∃ f : Nat, i = .int .i64 f ∧ f ≤ len ∧ chk p = chkF p (p.drop f) f ∧ Below w.heap.size w wr) (fun i _ _ _ => len - (intOf i).toNat)
      case atStart => exact ⟨0, rfl, by omega, HC.out, (Below.refl _ _).alloc (Nat.le_refl _) _⟩
      case round =>
        clear HC
        obtain ⟨f, rfl, hf, hC, hbel⟩ := hrel
        have HC := hid hC
        clear hC
        by_cases hlt : f < len
        · obtain ⟨x, hx⟩ : ∃ x, p[f]? = some x := ⟨_, List.getElem?_eq_getElem (by rw [HL.out]; exact hlt)⟩
          have hstep := HC.out.trans (chkF_at p f x hx)
          have hhead := HH.out wr f x hbel hx
          cases hhb : headB p f x with
          | false =>
            rw [hhb] at hstep hhead
            have HF : Hid (chk p = (6, (f : Int), 0)) := by show _ = _; rw [hstep]; rfl
            have HHEAD := hid hhead
            clear hstep hhead hhb
            go_wp2_with (go_at_call 88; refine HHEAD.out.mono ?_; rintro e w1 ⟨rfl, hb1⟩)
            go_ret3
            exact ⟨ret_chk HF.out, hbel.trans (hb1.mono hbel.size)⟩
          | true =>
            rw [hhb] at hstep hhead
            rw [if_pos rfl] at hstep
            have HS := hid hstep
            have HHEAD := hid hhead
            clear hstep hhead hhb
            go_wp2_with (go_at_call 88; refine HHEAD.out.mono ?_; rintro e w1 ⟨rfl, hb1⟩)
            have hbel1 := hbel.trans (hb1.mono hbel.size)
            clear HHEAD hb1 hbel
            go_loopw [7, 8] (fun _ i wr => ∃ s : Nat, i = .int .i64 s ∧ s ≤ x.body.length ∧ chkB p x f x.body 0 = chkB p x f (x.body.drop s) s ∧ Below w.heap.size w wr) (fun _ i _ => x.body.length - (intOf i).toNat)
            case atStart => exact ⟨0, rfl, by omega, rfl, hbel1⟩
            case round =>
              clear hbel1
              obtain ⟨s, rfl, hs, hB, hbel⟩ := hrel
              have HB := hid hB
              clear hB
              obtain ⟨b, off, ba, bcap, rfl, _, _, _, _, _, c4, hrb, _, _⟩ := (hr.below hbel).at f x hx
              have hbl1 := hrb.2.1
              have hbl2 := hrb.2.2.1
              unfold maxLen at hbl2
              clear hrb
              obtain ⟨nb, hnb⟩ : ∃ nb, nb = x.body.length := ⟨_, rfl⟩
              rw [← hnb] at c4 hbl1 hs ⊢
              have HNB := hid hnb
              clear hnb
              by_cases hsl : s < nb
              · obtain ⟨o, ho⟩ : ∃ o, x.body[s]? = some o := ⟨_, List.getElem?_eq_getElem (by rw [← HNB.out]; exact hsl)⟩
                have hst := HB.out.trans (chkB_at p x f s o ho)
                have hop := HG.out wr f s x o hbel hx ho
                cases hob : opB p x s o with
                | true =>
                  rw [hob] at hst hop
                  rw [if_pos rfl] at hst
                  have HST := hid hst
                  have HOP := hid hop
                  clear hst hop hob HH HG
                  go_wp2_with (go_at_call 89; refine HOP.out.mono ?_; rintro e w2 ⟨rfl, hb2⟩)
                  go_roundw
                  case rel => exact ⟨s + 1, by go_num, by omega, HST.out, hbel.trans (hb2.mono hbel.size)⟩
                  case measure => simp [intOf]; omega
                | false =>
                  rw [hob] at hst hop
                  have HF : Hid (chk p = (7, (f : Int), (s : Int))) := by show _ = _; rw [HS.out, hst]; rfl
                  have HOP := hid hop
                  clear hst hop hob HH HG HS HB HC
                  go_wp2_with (go_at_call 89; refine HOP.out.mono ?_; rintro e w2 ⟨rfl, hb2⟩)
                  go_ret3
                  exact ⟨ret_chk HF.out, hbel.trans (hb2.mono hbel.size)⟩
              · have HF : Hid (chk p = chkF p (p.drop (f + 1)) (f + 1)) := by
                  show _ = _
                  have h1 : chkB p x f x.body 0 = none := by rw [HB.out, List.drop_of_length_le (by rw [← HNB.out]; omega)]; rfl
                  rw [HS.out, h1]
                clear HB HS HC HH HG
                go_wp2
                go_roundw
                case rel => exact ⟨f + 1, by go_num, by omega, HF.out, hbel⟩
                case measure => simp [intOf]; omega
        · have HF : Hid (chk p = (0, 0, 0)) := by show _ = _; rw [HC.out, List.drop_of_length_le (by rw [HL.out]; omega)]; rfl
          go_wp2
          go_ret3
          exact ⟨ret_chk HF.out, hbel⟩
end Go.Proofs.YtffnfjkjlmlonaaGreatDoor
namespace Go.Proofs.YtffnfjkjlmlonaaGreatDoor
open Go.RowKit

/-- What Add, Sub, Div give, of numbers below 1000. -/
def cnt (code x y : Int) : Int := if code = 3 then x / y else if code = 2 then (x - y) % 1000 else (x + y) % 1000

theorem cnt_div (x y n : Int) (hy : 0 < y) (h1 : n * y ≤ x) (h2 : ¬ (n + 1) * y ≤ x) : cnt 3 x y = n := by
  unfold cnt
  rw [if_pos rfl]
  have a1 : n ≤ x / y := (Int.le_ediv_iff_mul_le hy).2 h1
  have a2 : x / y < n + 1 := (Int.ediv_lt_iff_lt_mul hy).2 (by omega)
  omega

set_option maxHeartbeats 2000000 in
set_option maxRecDepth 100000 in
theorem counted_any (code x y : Int) (w : World) (hx0 : 0 ≤ x) (hx1 : x < 1000) (hy0 : 0 ≤ y) (hy1 : y < 1000) (hd : code = 3 → y ≠ 0) :
    Calls Tryz.prog 175 #[.int .i64 code, .int .i64 x, .int .i64 y] w fun e w' => e = .returned (.int .i64 (cnt code x y)) ∧ w' = w := by
  by_cases h3 : code = 3
  · subst h3
    have hy : 0 < y := by have := hd rfl; omega
    go_enter Tryz.func175, Tryz.ntmps175
    go_wp2
    go_loopw [7] (fun i wr => ∃ n : Nat, i = .int .i64 n ∧ (n : Int) * y ≤ x ∧ wr = w) (fun i _ => x.toNat - (intOf i).toNat)
    case atStart => exact ⟨0, rfl, by simpa using hx0, rfl⟩
    case round =>
      obtain ⟨n, rfl, hn, rfl⟩ := hrel
      have hnx : (n : Int) ≤ x := Int.le_trans (by have := Int.mul_le_mul_of_nonneg_left (show (1 : Int) ≤ y by omega) (show (0 : Int) ≤ n by omega); omega) hn
      have he : ((n : Int) + 1) * y = (n : Int) * y + y := by rw [Int.add_mul, Int.one_mul]
      have hn0 : 0 ≤ (n : Int) * y := Int.mul_nonneg (by omega) hy0
      have hb1 : -9223372036854775808 ≤ ((n : Int) + 1) * y := by rw [he]; omega
      have hb2 : ((n : Int) + 1) * y ≤ 9223372036854775807 := by rw [he]; omega
      by_cases hc : ((n : Int) + 1) * y ≤ x
      · have hlt : (n : Int) + 1 ≤ x := Int.le_trans (by have := Int.mul_le_mul_of_nonneg_left (show (1 : Int) ≤ y by omega) (show (0 : Int) ≤ (n : Int) + 1 by omega); omega) hc
        clear he
        go_wp2
        go_roundw
        case rel => exact ⟨n + 1, by go_num, by simpa using hc, by trivial⟩
        case measure => simp [intOf]; omega
      · have hr := cnt_div x y n hy hn hc
        clear he
        go_wp2
        go_ret
        try rw [hr]
        exact ⟨rfl, rfl⟩
  · by_cases h2 : code = 2
    · subst h2
      by_cases hs : x - y < 0
      · have hr : cnt 2 x y = x - y + 1000 := by unfold cnt; rw [if_neg (by decide), if_pos rfl]; omega
        have q1 : ¬ (x - y + 1000 < 0) := by omega
        have q2 : ¬ (1000 ≤ x - y + 1000) := by omega
        go_enter Tryz.func175, Tryz.ntmps175
        go_wp2
        refine wp_loop_rounds 2 ?_
        rw [rounds_succ]
        go_wp2
        rw [rounds_succ]
        go_wp2
        refine wp_loop_rounds 1 ?_
        rw [rounds_succ]
        go_wp2
        go_ret
        try rw [hr]
        exact ⟨rfl, rfl⟩
      · have hr : cnt 2 x y = x - y := by unfold cnt; rw [if_neg (by decide), if_pos rfl]; omega
        have q2 : ¬ (1000 ≤ x - y) := by omega
        go_enter Tryz.func175, Tryz.ntmps175
        go_wp2
        refine wp_loop_rounds 1 ?_
        rw [rounds_succ]
        go_wp2
        refine wp_loop_rounds 1 ?_
        rw [rounds_succ]
        go_wp2
        go_ret
        try rw [hr]
        exact ⟨rfl, rfl⟩
    · have q0 : ¬ (x + y < 0) := by omega
      by_cases hs : 1000 ≤ x + y
      · have hr : cnt code x y = x + y - 1000 := by unfold cnt; rw [if_neg h3, if_neg h2]; omega
        have q2 : ¬ (1000 ≤ x + y - 1000) := by omega
        go_enter Tryz.func175, Tryz.ntmps175
        go_wp2
        refine wp_loop_rounds 1 ?_
        rw [rounds_succ]
        go_wp2
        refine wp_loop_rounds 2 ?_
        rw [rounds_succ]
        go_wp2
        rw [rounds_succ]
        go_wp2
        go_ret
        try rw [hr]
        exact ⟨rfl, rfl⟩
      · have hr : cnt code x y = x + y := by unfold cnt; rw [if_neg h3, if_neg h2]; omega
        go_enter Tryz.func175, Tryz.ntmps175
        go_wp2
        refine wp_loop_rounds 1 ?_
        rw [rounds_succ]
        go_wp2
        refine wp_loop_rounds 1 ?_
        rw [rounds_succ]
        go_wp2
        go_ret
        try rw [hr]
        exact ⟨rfl, rfl⟩
end Go.Proofs.YtffnfjkjlmlonaaGreatDoor
