/- The contract of the developers' unfold.Check: it gives the plain function chk; nothing that was there is written. Contract of unfoldref.entered: a Call. Contract of unfoldref.left: a Ret. Contract of unfoldref.Next: one step. Contract of unfoldref.After: so many steps. Contracts of unfoldref.Told and unfoldref.Given: the frames that are told; whether a run may begin. Contract of the reference's Run, and what it answers, as plain functions. -/
import Derived.Test.YthaganponmnanaaGreatDoorZ23
import Derived.Test.YthaganponmnanaaGreatDoorZ20
import Derived.Deep.AppendLies
import Derived.Deep.RegionLaw
import Derived.Deep.RegionHeld
namespace Go.Proofs.YthaganponmnanaaGreatDoor
open Go.RowKit

theorem cutP {P G : Prop} (h : P) (k : P → G) : G := k h

set_option maxHeartbeats 4000000 in
set_option maxRecDepth 100000 in
theorem pCheck_any (a : Option Addr) (len cap : Nat) (p : List FnD) (w : World) (hr : RdP w a len cap p) :
    Calls Tryz.prog 34 #[.agg #[.slice a len cap]] w fun e w' => e = .returned (.tuple #[.int .i64 (chk p).1, .int .i64 (chk p).2.1, .int .i64 (chk p).2.2]) ∧ Below w.heap.size w w' := by
  have HL := hid hr.len
  have hcap := hr.2.1
  have hmax := hr.2.2.1
  unfold maxLen at hmax
  by_cases h0 : len < 1
  · have HF : Hid (chk p = (5, 0, 0)) := by show _ = _; unfold chk; rw [if_pos (by rw [HL.out]; omega)]
    have h0' : (len : Int) < 1 := by omega
    go_enter Tryz.func34, Tryz.ntmps34
    go_wp2
    go_ret3
    exact ⟨ret_chk HF.out, (Below.refl _ _).alloc (Nat.le_refl _) _⟩
  · have h0' : decide ((len : Int) < 1) = false := by simp; omega
    by_cases h12 : 12 < len
    · have HF : Hid (chk p = (5, 0, 0)) := by show _ = _; unfold chk; rw [if_pos (by rw [HL.out]; omega)]
      have h12' : (12 : Int) < (len : Int) := by omega
      go_enter Tryz.func34, Tryz.ntmps34
      go_wp2
      go_ret3
      exact ⟨ret_chk HF.out, (Below.refl _ _).alloc (Nat.le_refl _) _⟩
    · have h12' : decide ((12 : Int) < (len : Int)) = false := by simp; omega
      have HC : Hid (chk p = chkF p (p.drop 0) 0) := by show _ = _; unfold chk; rw [if_neg (by rw [HL.out]; omega)]; rfl
      obtain ⟨wb, hwb⟩ : ∃ wb, wb = w.alloc (Obj.cells #[.slice a len cap] 24) := ⟨_, rfl⟩
      have hbb : Below w.heap.size w wb := by rw [hwb]; exact (Below.refl _ _).alloc (Nat.le_refl _) _
      have hbs : wb.heap.size = w.heap.size + 1 := by rw [hwb]; simp
      have hk0 : wb.heap[w.heap.size]? = some (.cells #[.slice a len cap] 24 (0, 0)) := by rw [hwb]; exact heap_alloc_new _ _
      have HK := hid hk0
      clear hk0
      go_enter Tryz.func34, Tryz.ntmps34
      go_wp2
      rw [← hwb]
      clear hwb
      go_loopw [23] (fun i wr => ∃ f : Nat, i = .int .i64 f ∧ f ≤ len ∧ chk p = chkF p (p.drop f) f ∧ Below wb.heap.size wb wr) (fun i _ => len - (intOf i).toNat)
      case atStart => exact ⟨0, rfl, by omega, HC.out, Below.refl _ _⟩
      case round =>
        clear HC
        obtain ⟨f, rfl, hf, hC, hbel0⟩ := hrel
        obtain ⟨wo, rfl⟩ : ∃ wo, wo = wr := ⟨_, rfl⟩
        have HC := hid hC
        clear hC
        have hsz0 := hbel0.size
        have hbel := hbb.trans (hbel0.mono hbb.size)
        by_cases hlt : f < len
        · obtain ⟨x, hx⟩ : ∃ x, p[f]? = some x := ⟨_, List.getElem?_eq_getElem (by rw [HL.out]; exact hlt)⟩
          have hstep := HC.out.trans (chkF_at p f x hx)
          obtain ⟨b, off, ba, bcap, rfl, hblt, c0, c1, c2, c3, c4, hrb, hn1, hn2⟩ := (hr.below hbel).at f x hx
          have hbl1 := hrb.2.1
          have hbl2 := hrb.2.2.1
          unfold maxLen at hbl2
          have HH := hid (fun (W : World) (hW : Below wo.heap.size wo W) => headMay_any x ba bcap (some ⟨b, off, none⟩) f cap p W (((hr.below hbel).below hW).take f (by omega)) hbl1 hbl2 hn1 hn2)
          have HO := hid (fun (W : World) (o : OpD) (aa : Option Addr) (acap : Nat) (hW : Below wo.heap.size wo W) (hra : Rd .i64 W aa o.args.length acap o.args) => opMay_any x ba bcap o aa acap (some ⟨b, off, none⟩) len cap p W ((hr.below hbel).below hW) hra hbl1 hbl2)
          have HRB := hid hrb
          have HX := hid hx
          clear hx hn1 hn2 hrb
          obtain ⟨hb, hhb⟩ : ∃ v, v = headB p f x := ⟨_, rfl⟩
          rw [← hhb] at hstep HH
          clear hhb
          obtain ⟨nb, hnb⟩ : ∃ v, v = x.body.length := ⟨_, rfl⟩
          rw [← hnb] at c4 hbl1 HH HO HRB
          have HNB := hid hnb
          clear hnb
          obtain ⟨nm, hnm⟩ : ∃ v, v = x.name := ⟨_, rfl⟩
          obtain ⟨fl, hfl⟩ : ∃ v, v = x.file := ⟨_, rfl⟩
          obtain ⟨pr, hpr⟩ : ∃ v, v = x.params := ⟨_, rfl⟩
          obtain ⟨lo, hlo⟩ : ∃ v, v = x.locals := ⟨_, rfl⟩
          rw [← hnm, ← hfl, ← hpr, ← hlo] at HH HO
          rw [← hnm] at c0
          rw [← hfl] at c1
          rw [← hpr] at c2
          rw [← hlo] at c3
          clear hnm hfl hpr hlo
          have hlt' : (f : Int) < (len : Int) := by omega
          have HKR := hid ((hbel0.block w.heap.size (by omega)).trans HK.out)
          obtain ⟨w1, hw1⟩ : ∃ w1, w1 = wo.alloc (Obj.cells #[.string nm, .string fl, .int .i64 pr, .int .i64 lo, .slice ba nb bcap] 44) := ⟨_, rfl⟩
          have hb1 : Below wo.heap.size wo w1 := by rw [hw1]; exact (Below.refl _ _).alloc (Nat.le_refl _) _
          have hs1 : w1.heap.size = wo.heap.size + 1 := by rw [hw1]; simp
          have hk1 : w1.heap[wo.heap.size]? = some (.cells #[.string nm, .string fl, .int .i64 pr, .int .i64 lo, .slice ba nb bcap] 44 (0, 0)) := by rw [hw1]; exact heap_alloc_new _ _
          have hp1 := (hb1.block w.heap.size (by omega)).trans HKR.out
          have qp : w1.cell? ⟨w.heap.size, 0, none⟩ = some (.slice (some ⟨b, off, none⟩) len cap) := by simp [World.cell?, hp1]
          have r0 : w1.cell? ⟨wo.heap.size, 0, none⟩ = some (.string nm) := by simp [World.cell?, hk1]
          have r1 : w1.cell? ⟨wo.heap.size, 1, none⟩ = some (.string fl) := by simp [World.cell?, hk1]
          have r2 : w1.cell? ⟨wo.heap.size, 2, none⟩ = some (.int .i64 pr) := by simp [World.cell?, hk1]
          have r3 : w1.cell? ⟨wo.heap.size, 3, none⟩ = some (.int .i64 lo) := by simp [World.cell?, hk1]
          have r4 : w1.cell? ⟨wo.heap.size, 4, none⟩ = some (.slice ba nb bcap) := by simp [World.cell?, hk1]
          have HK1 := hid hk1
          have HP1 := hid hp1
          clear hk1 hp1 HKR
          have HSTEP := hid hstep
          clear hstep
          have hfc : (f : Int) ≤ (cap : Int) := by omega
          go_wp2
          rw [← hw1]
          clear hw1 c0 c1 c2 c3 c4
          apply cutP
          case k =>
            intro key
            go_region_with (go_at_call 55; refine (HH.out _ ?_).mono ?_; exact hb1.trans ((Below.refl _ _).drew.mono hb1.size); rintro e w2 ⟨rfl, hb2⟩)
            all_goals
              have hb2' : Below w1.heap.size w1 w2 := (Below.refl _ _).drew.trans hb2
              clear hb2
              revert hb2'
              revert w2
              exact key
          intro w2 hb2
          have hk2 := (hb2.block wo.heap.size (by omega)).trans HK1.out
          have hp2 := (hb2.block w.heap.size (by omega)).trans HP1.out
          clear qp r0 r1 r2 r3 r4 HK1 HP1
          have hs2 := hb2.size
          have hbw2 := hb1.trans (hb2.mono hb1.size)
          cases hb with
          | false =>
            have HF : Hid (chk p = (6, (f : Int), 0)) := by show _ = _; rw [HSTEP.out]; rfl
            go_wp2
            go_ret3
            exact ⟨ret_chk HF.out, hbel.trans (hbw2.mono hbel.size)⟩
          | true =>
            have hst := HSTEP.out
            rw [if_pos rfl] at hst
            have HS := hid hst
            clear hst HSTEP HH
            have r4 : w2.cell? ⟨wo.heap.size, 4, none⟩ = some (.slice ba nb bcap) := by simp [World.cell?, hk2]
            have HK2 := hid hk2
            have HP2 := hid hp2
            clear hk2 hp2
            go_wp2
            go_loopw [39] (fun i wr => ∃ s : Nat, i = .int .i64 s ∧ s ≤ nb ∧ chkB p x f x.body 0 = chkB p x f (x.body.drop s) s ∧ Below w2.heap.size w2 wr) (fun i _ => nb - (intOf i).toNat)
            case atStart => exact ⟨0, rfl, by omega, rfl, Below.refl _ _⟩
            case round =>
              clear r4
              obtain ⟨s, rfl, hs, hB, hbi⟩ := hrel
              have HB := hid hB
              clear hB
              have hsi := hbi.size
              have hbo := hbw2.trans (hbi.mono hbw2.size)
              by_cases hsl : s < nb
              · obtain ⟨o, ho⟩ : ∃ o, x.body[s]? = some o := ⟨_, List.getElem?_eq_getElem (by rw [← HNB.out]; exact hsl)⟩
                have hst := HB.out.trans (chkB_at p x f s o ho)
                rw [opB_eq] at hst
                obtain ⟨b2, off2, aa, acap, rfl, _, d0, d1, d2, d3, d4, d5, hra⟩ := (HRB.out.below hbo (fun _ _ h => h.below hbo)).opAt s o ho
                have HOP := hid (fun (W : World) (hW : Below wr.heap.size wr W) => HO.out W o aa acap (hbo.trans (hW.mono hbo.size)) (hra.below hW (Nat.le_refl _)))
                obtain ⟨om, hom⟩ : ∃ v, v = opMayB p x o := ⟨_, rfl⟩
                rw [← hom] at hst HOP
                clear hom hra ho HO HRB
                obtain ⟨oc, ol, oa, ob, od, args⟩ := o
                simp only at d0 d1 d2 d3 d4 d5 hst HOP
                generalize args.length = na at *
                rw [← HNB.out] at hst
                have kf := (hbi.block wo.heap.size (by omega)).trans HK2.out
                have kp := (hbi.block w.heap.size (by omega)).trans HP2.out
                have hsl' : (s : Int) < (nb : Int) := by omega
                have r0 : wr.cell? ⟨wo.heap.size, 0, none⟩ = some (.string nm) := by simp [World.cell?, kf]
                have r1 : wr.cell? ⟨wo.heap.size, 1, none⟩ = some (.string fl) := by simp [World.cell?, kf]
                have r2 : wr.cell? ⟨wo.heap.size, 2, none⟩ = some (.int .i64 pr) := by simp [World.cell?, kf]
                have r3 : wr.cell? ⟨wo.heap.size, 3, none⟩ = some (.int .i64 lo) := by simp [World.cell?, kf]
                have r4 : wr.cell? ⟨wo.heap.size, 4, none⟩ = some (.slice (some ⟨b2, off2, none⟩) nb bcap) := by simp [World.cell?, kf]
                have qp : wr.cell? ⟨w.heap.size, 0, none⟩ = some (.slice (some ⟨b, off, none⟩) len cap) := by simp [World.cell?, kp]
                have r5 : wo.heap.size < wr.heap.size := by omega
                have r6 : w.heap.size < wr.heap.size := by omega
                obtain ⟨w3, hw3⟩ : ∃ w3, w3 = wr.alloc (Obj.cells #[.int .i64 oc, .int .i64 ol, .int .i64 oa, .int .i64 ob, .int .i64 od, .slice aa na acap] 70) := ⟨_, rfl⟩
                have hb3 : Below wr.heap.size wr w3 := by rw [hw3]; exact (Below.refl _ _).alloc (Nat.le_refl _) _
                have hs3 : w3.heap.size = wr.heap.size + 1 := by rw [hw3]; simp
                clear kf kp HK2 HP2
                have HST := hid hst
                clear hst
                have hbo3 := hbi.trans (hb3.mono hsi)
                have fin : ∀ w4, Below w3.heap.size w3 w4 → Below w.heap.size w w4 := fun w4 h4 => hbel.trans ((hbo.trans ((hb3.trans (h4.mono hb3.size)).mono hbo.size)).mono hbel.size)
                have FIN := hid fin
                clear fin
                by_cases hlast : s + 1 = nb
                · have hl' : ((s : Int) == (nb : Int) - 1) = true := by simp; omega
                  by_cases h6 : oc = 6
                  · subst h6
                    have hst2 : chkB p x f x.body 0 = if om = true then chkB p x f (x.body.drop (s + 1)) (s + 1) else some (7, (f : Int), (s : Int)) := by
                      rw [HST.out, if_neg (show ¬ (s + 1 = nb ∧ (6 : Int) ≠ 6) from fun h => h.2 rfl)]
                    have HS2 := hid hst2
                    clear hst2 HST
                    go_wp2_with fail
                    rw [← hw3]
                    clear hw3 d0 d1 d2 d3 d4 d5 r0 r1 r2 r3 r4 qp
                    refine (HOP.out _ hb3).mono ?_
                    rintro e w4 ⟨rfl, hb4⟩
                    cases om with
                    | true =>
                      have HS3 : Hid (chkB p x f x.body 0 = chkB p x f (x.body.drop (s + 1)) (s + 1)) := by show _ = _; rw [HS2.out]; rfl
                      go_wp2
                      go_roundw
                      case rel => exact ⟨s + 1, by go_num, by omega, HS3.out, hbo3.trans (hb4.mono hbo3.size)⟩
                      case measure => simp [intOf]; omega
                    | false =>
                      have HF : Hid (chk p = (7, (f : Int), (s : Int))) := by show _ = _; rw [HS.out, HS2.out]; rfl
                      go_wp2
                      go_ret3
                      exact ⟨ret_chk HF.out, FIN.out w4 hb4⟩
                  · have h6' : (oc != 6) = true := by simpa using h6
                    have HF : Hid (chk p = (7, (f : Int), (s : Int))) := by show _ = _; rw [HS.out, HST.out, if_pos (show s + 1 = nb ∧ oc ≠ 6 from ⟨hlast, h6⟩)]; rfl
                    go_wp2
                    rw [← hw3]
                    clear hw3 d0 d1 d2 d3 d4 d5 r0 r1 r2 r3 r4 qp
                    go_ret3
                    exact ⟨ret_chk HF.out, FIN.out _ (Below.refl _ _)⟩
                · have hl' : ((s : Int) == (nb : Int) - 1) = false := by simp; omega
                  have hst2 : chkB p x f x.body 0 = if om = true then chkB p x f (x.body.drop (s + 1)) (s + 1) else some (7, (f : Int), (s : Int)) := by
                    rw [HST.out, if_neg (show ¬ (s + 1 = nb ∧ oc ≠ 6) from fun h => hlast h.1)]
                  have HS2 := hid hst2
                  clear hst2 HST
                  go_wp2_with fail
                  rw [← hw3]
                  clear hw3 d0 d1 d2 d3 d4 d5 r0 r1 r2 r3 r4 qp
                  refine (HOP.out _ hb3).mono ?_
                  rintro e w4 ⟨rfl, hb4⟩
                  cases om with
                  | true =>
                    have HS3 : Hid (chkB p x f x.body 0 = chkB p x f (x.body.drop (s + 1)) (s + 1)) := by show _ = _; rw [HS2.out]; rfl
                    go_wp2
                    go_roundw
                    case rel => exact ⟨s + 1, by go_num, by omega, HS3.out, hbo3.trans (hb4.mono hbo3.size)⟩
                    case measure => simp [intOf]; omega
                  | false =>
                    have HF : Hid (chk p = (7, (f : Int), (s : Int))) := by show _ = _; rw [HS.out, HS2.out]; rfl
                    go_wp2
                    go_ret3
                    exact ⟨ret_chk HF.out, FIN.out w4 hb4⟩
              · have HF : Hid (chk p = chkF p (p.drop (f + 1)) (f + 1)) := by
                  show _ = _
                  have h1 : chkB p x f x.body 0 = none := by rw [HB.out, List.drop_of_length_le (by rw [← HNB.out]; omega)]; rfl
                  rw [HS.out, h1]
                have hsl' : decide ((s : Int) < (nb : Int)) = false := by simp; omega
                clear HB HS HC HO
                go_wp2
                go_roundw
                case rel => exact ⟨f + 1, by go_num, by omega, HF.out, hbel0.trans (hbo.mono hsz0)⟩
                case measure => simp [intOf]; omega
        · have HF : Hid (chk p = (0, 0, 0)) := by show _ = _; rw [HC.out, List.drop_of_length_le (by rw [HL.out]; omega)]; rfl
          have hge : decide ((f : Int) < (len : Int)) = false := by simp; omega
          go_wp2
          go_ret3
          exact ⟨ret_chk HF.out, hbel⟩

end Go.Proofs.YthaganponmnanaaGreatDoor
namespace Go.Proofs.YthaganponmnanaaGreatDoor
open Go.RowKit

end Go.Proofs.YthaganponmnanaaGreatDoor
namespace Go.Proofs.YthaganponmnanaaGreatDoor
open Go.RowKit

end Go.Proofs.YthaganponmnanaaGreatDoor
namespace Go.Proofs.YthaganponmnanaaGreatDoor
open Go.RowKit

theorem set_self_loc {l : List Int} {k : Nat} {v : Int} (h : v = (l[k]?).getD 0) : l.set k v = l := by
  by_cases hk : k < l.length
  · rw [h, List.getElem?_eq_getElem hk]
    simp
  · exact List.set_eq_of_length_le (by omega)

end Go.Proofs.YthaganponmnanaaGreatDoor
namespace Go.Proofs.YthaganponmnanaaGreatDoor
open Go.RowKit

end Go.Proofs.YthaganponmnanaaGreatDoor
namespace Go.Proofs.YthaganponmnanaaGreatDoor
open Go.RowKit

def givenB (p : List FnD) (args : List Int) : Bool := args.all (fun n => withB n 1000) && ((args.length : Int) == (fnAt p 0).params)

theorem three_new (w : World) (a b c : Value) (t : TypeId) : ∀ j u, [a, b, c][j]? = some u → (w.alloc (.cells #[a, b, c] t)).cell? ((⟨w.heap.size, 0, none⟩ : Addr).add j) = some u := by
  intro i u hu
  match i, hu with
  | 0, hu => simp at hu; subst hu; simp [Addr.add]
  | 1, hu => simp at hu; subst hu; simp [Addr.add]
  | 2, hu => simp at hu; subst hu; simp [Addr.add]
theorem three_one_sf (a b : ByteArray) (n : Int) : ∀ u ∈ [Value.string a, .string b, .int .i64 n], u.oneCell' = true := by
  intro u hu; simp at hu; rcases hu with rfl | rfl | rfl <;> rfl

theorem Tryz.infoFrame : (Tryz.prog.info? 77).map (fun i => (i.zero, i.size, i.bytes)) = some (some (.agg #[.string ⟨#[]⟩, .string ⟨#[]⟩, .int .i64 0]), 3, 40) := by kernel_rfl
def tellD (p : List FnD) (x : LiveD) : FrameD := ⟨(fnOf p x).name, (fnOf p x).file, (opOf p x).line⟩

end Go.Proofs.YthaganponmnanaaGreatDoor
namespace Go.Proofs.YthaganponmnanaaGreatDoor
open Go.RowKit

/-- The error that Run answers. -/
def runE (p : List FnD) (args : List Int) (n : Int) : Int := if (chk p).1 ≠ 0 then (chk p).1 else if givenB p args = true ∧ 0 ≤ n ∧ n ≤ 2000 then 0 else 1
/-- How the run stands that Run tells of. -/
def runS (p : List FnD) (args : List Int) (n : Int) : StandD := if runE p args n = 0 then runD p (begunD p args) n.toNat else ⟨0, 0, []⟩

theorem chkB_seven {p : List FnD} {x : FnD} {f : Nat} : ∀ (l : List OpD) (s : Nat) e, chkB p x f l s = some e → e.1 = 7 := by
  intro l
  induction l with
  | nil => intro s e h; simp [chkB] at h
  | cons o r ih =>
    intro s e h
    unfold chkB at h
    split at h
    · exact ih _ _ h
    · cases h; rfl
theorem chkF_zero {p : List FnD} : ∀ (l : List FnD) (f : Nat), (chkF p l f).1 = 0 → chkF p l f = (0, 0, 0) := by
  intro l
  induction l with
  | nil => intro f _; rfl
  | cons x r ih =>
    intro f h
    unfold chkF at h ⊢
    split at h
    · next h1 =>
      rw [if_pos h1]
      split at h
      · next e he =>
        have := chkB_seven _ _ _ he
        omega
      · next he => exact ih _ h
    · simp at h
theorem chk_zero {p : List FnD} (h : (chk p).1 = 0) : chk p = (0, 0, 0) := by
  unfold chk at h ⊢
  split at h
  · simp at h
  · next h1 => rw [if_neg h1]; exact chkF_zero _ _ h

theorem given_true {p : List FnD} {args : List Int} (h : givenB p args = true) : (args.length : Int) = (fnAt p 0).params ∧ ∀ v ∈ args, 0 ≤ v ∧ v < 1000 := by
  obtain ⟨h1, h2⟩ := andB.1 h
  exact ⟨by simpa using h2, fun v hv => withB_true (List.all_eq_true.1 h1 v hv)⟩

theorem rdNone (W : World) : RdL 3 RdFrame W none 0 0 [] := ⟨rfl, Nat.le_refl _, by unfold maxLen; omega, fun i x hx => by simp at hx⟩
theorem rdFrame_of_owns {w : World} {B n : Nat} {v : Value} {l : List FrameD} (h : w.ownsRow B 77 3 v n (l.map frCells).flatten) (hl : l.length = n) : ∃ a cap, v = .slice a n cap ∧ RdL 3 RdFrame w a n cap l :=
  RdL_of_owns h (fun c hc => by obtain ⟨x, _, rfl⟩ := List.mem_map.1 hc; rfl) (by simp [hl]) hl (fun i x cs hx hcs => by
    rw [List.getElem?_map, hx] at hcs
    simp at hcs
    exact hcs.symm)

end Go.Proofs.YthaganponmnanaaGreatDoor
