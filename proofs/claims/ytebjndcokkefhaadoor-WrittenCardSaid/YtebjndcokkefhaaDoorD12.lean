/- Contracts of the developers' (*run.Run).step and Step: a step, and so many, of the plain run. -/
import Derived.Test.YtebjndcokkefhaaDoorZ29
import Derived.Test.YtebjndcokkefhaaDoorZ29
import Derived.Test.YtebjndcokkefhaaDoorZ29
import Derived.Test.YtebjndcokkefhaaDoorD10d
import Derived.Test.YtebjndcokkefhaaDoorD13
namespace Go.Proofs.YtebjndcokkefhaaDoor
open Go.RowKit

theorem RunAt.like {X : RX} {w0 w : World} {P : List FnD} {rb : Nat} {s s' : StandD} (h : RunAt X w0 P rb w s) (h1 : s'.status = s.status) (h2 : s'.value = s.value) (h3 : s'.live.map frmCells = s.live.map frmCells) : RunAt X w0 P rb w s' := by
  obtain ⟨pa, pcap, v, k1, k2, k3, k4, k5, k6, k7⟩ := h
  have hl : s'.live.length = s.live.length := by simpa using congrArg List.length h3
  exact ⟨pa, pcap, v, by rw [h1, h2]; exact k1, k2, k3, k4, by rw [hl, h3]; exact k5, k6, k7⟩

theorem calls_like {X : RX} {w0 w : World} {P : List FnD} {rb : Nat} {f : FuncId} {args : Array Value} {s s' : StandD} (h : Calls Tryd.prog f args w fun e w' => e = .returned (.tuple #[]) ∧ RunAt X w0 P rb w' s) (he : s = s') : Calls Tryd.prog f args w fun e w' => e = .returned (.tuple #[]) ∧ RunAt X w0 P rb w' s' := he ▸ h

theorem wf8 {P : List FnD} {x : LiveD} (hg : Good P) (hx : WfLive P x) : x.locals.length ≤ 8 := by
  have h1 := hx.locals
  have h2 := (hx.fnOk hg).locals
  omega

theorem step_any (X : RX) (w0 : World) (P : List FnD) (rb : Nat) (s : StandD) (w : World) (hgd : Good P) (hw : Wf P s) (hs : s.status = 0) (hR : RunAt X w0 P rb w s) :
    Calls Tryd.prog 85 #[.pointer (some ⟨rb, 0, none⟩)] w fun e w' => e = .returned (.tuple #[]) ∧ RunAt X w0 P rb w' (nextD P s) := by
  obtain ⟨st, vl, live⟩ := s
  obtain rfl : st = 0 := hs
  obtain ⟨hne, hv0⟩ := hw.runs rfl
  obtain rfl : vl = 0 := hv0
  obtain ⟨x, hx⟩ : ∃ x, live.getLast? = some x := by
    cases h : live.getLast? with
    | none => rw [List.getLast?_eq_none_iff] at h; exact absurd h hne
    | some x => exact ⟨x, rfl⟩
  have hl := dropLast_getLast hx
  have hnext : nextD P ⟨0, 0, live⟩ = stepTop P live.dropLast x := by unfold nextD; simp [hx]
  rw [hnext]
  have hlive := hw.live
  have hlen := hw.len
  have hcal := hw.calls
  dsimp only at hlive hlen hcal
  generalize live.dropLast = ini at *
  subst hl
  have wx : WfLive P x := hlive x (by simp)
  have wi : ∀ y ∈ ini, WfLive P y := fun y hy => hlive y (by simp [hy])
  have h8 : ∀ y ∈ ini, y.locals.length ≤ 8 := fun y hy => wf8 hgd (wi y hy)
  have hl1 : ini.length + 1 ≤ 20 := by simpa using hlen
  have ok := wx.opOk hgd
  have hc := ok.code
  have hxl := wx.locals
  unfold stepTop
  by_cases h5 : (opOf P x).code = 5
  · rw [if_pos h5]
    have hxc := ok.call h5
    have hfb := hgd.fns _ _ (fnAt_some ⟨hxc.1, hxc.2.1⟩)
    have hfl := hfb.locals
    have hfp := hfb.params
    have hpa := hxc.2.2.1
    refine (step_call X w0 P rb ini x w hgd hR wx h8 hl1 h5).mono fun e w' ⟨he, hr⟩ => ⟨he, ?_⟩
    by_cases h20 : ini.length + 1 = 20
    · rw [if_pos (by simpa using h20)] at hr
      rw [if_pos h20]
      exact hr
    · rw [if_neg (by simpa using h20)] at hr
      rw [if_neg h20]
      refine hr.like rfl rfl ?_
      simp only [List.map_append, List.map_cons, List.map_nil]
      congr 2
      unfold calleeD frmCells
      dsimp only
      have hml : ((opOf P x).args.map (locOf x)).length = (opOf P x).args.length := by simp
      rw [← hml, pad8_fill (by rw [hml]; omega) (by omega)]
  · rw [if_neg h5]
    by_cases h6 : (opOf P x).code = 6
    · rw [if_pos h6]
      cases hi : ini.getLast? with
      | none =>
        rw [List.getLast?_eq_none_iff] at hi
        subst hi
        exact step_ret X w0 P rb [] x w hgd hR wx h8 (by simp) h6 (fun v => ⟨1, v, []⟩) (fun W v h => ret_done X w0 P rb ⟨0, 0, []⟩ x v W h)
      | some c =>
        have hl2 := dropLast_getLast hi
        have hcw : WfLive P c := wi c (by rw [hl2]; simp)
        dsimp only
        generalize ini.dropLast = ini2 at *
        subst hl2
        have hb : ini2.length ≤ 100 := by simp at hl1; omega
        exact step_ret X w0 P rb (ini2 ++ [c]) x w hgd hR wx h8 (by simp at hl1 ⊢; omega) h6 (fun v => ⟨0, 0, ini2 ++ [setL c (opOf P c).a v (c.next + 1)]⟩) (fun W v h => ret_back X w0 P rb 0 0 ini2 c x v W hgd h hcw (fun y hy => h8 y (by simp [hy])) hb)
    · rw [if_neg h6]
      by_cases h4 : (opOf P x).code = 4
      · rw [if_pos h4]
        exact step_jump X w0 P rb ini x w hgd hR wx h8 (by omega) h4
      · rw [if_neg h4]
        have hlt : (opOf P x).code < 4 := by omega
        by_cases h0 : (opOf P x).code = 0
        · rw [if_pos h0]
          refine step_val X w0 P rb ini x w hgd hR wx h8 (by omega) hlt _ (fun W oa ocap => ?_)
          rw [h0]
          exact result_set x _ _ _ _ oa _ ocap W (wf8 hgd wx)
        · rw [if_neg h0]
          have h3 := ok.three (by omega)
          have eb : (opOf P x).b = ((opOf P x).b.toNat : Int) := by omega
          have ec : (opOf P x).c = ((opOf P x).c.toNat : Int) := by omega
          have hres := fun (W : World) (oa : Option Addr) (ocap : Nat) => result_num x (opOf P x).code (opOf P x).a (opOf P x).line (opOf P x).b.toNat (opOf P x).c.toNat oa (opOf P x).args.length ocap W (wf8 hgd wx) (by omega) (by omega) wx.vals (by omega)
          rw [← eb, ← ec] at hres
          by_cases hz : (opOf P x).code = 3 ∧ locOf x (opOf P x).c = 0
          · rw [if_pos hz]
            refine step_zero X w0 P rb ini x w hgd hR wx h8 (by omega) hlt (fun W oa ocap => ?_)
            have h := hres W oa ocap
            rw [if_pos hz, decide_eq_true hz] at h
            exact h
          · rw [if_neg hz]
            refine step_val X w0 P rb ini x w hgd hR wx h8 (by omega) hlt _ (fun W oa ocap => ?_)
            have h := hres W oa ocap
            rw [if_neg hz, decide_eq_false hz] at h
            exact h

theorem runD_stop {P : List FnD} {s : StandD} {j : Nat} (h : (runD P s j).status ≠ 0) : ∀ n, j ≤ n → runD P s n = runD P s j
  | 0, hn => by rw [Nat.le_zero.1 hn]
  | n + 1, hn => by
    rcases Nat.lt_or_eq_of_le hn with h1 | h1
    · have ih := runD_stop h n (by omega)
      show nextD P (runD P s n) = _
      rw [ih]
      unfold nextD
      rw [if_pos h]
    · rw [h1]

/-- How many of n steps are taken. -/
def takenD (P : List FnD) (s : StandD) : Nat → Nat
  | 0 => 0
  | n + 1 => if (runD P s n).status = 0 then takenD P s n + 1 else takenD P s n

theorem takenD_stop {P : List FnD} {s : StandD} {j : Nat} (h : (runD P s j).status ≠ 0) : ∀ n, j ≤ n → takenD P s n = takenD P s j
  | 0, hn => by rw [Nat.le_zero.1 hn]
  | n + 1, hn => by
    rcases Nat.lt_or_eq_of_le hn with h1 | h1
    · have ih := takenD_stop h n (by omega)
      show (if (runD P s n).status = 0 then takenD P s n + 1 else takenD P s n) = _
      rw [if_neg (by rw [runD_stop h n (by omega)]; exact h)]
      exact ih
    · rw [h1]

theorem takenD_go {P : List FnD} {s : StandD} {j : Nat} (h : (runD P s j).status = 0) (ht : takenD P s j = j) : takenD P s (j + 1) = j + 1 := by
  show (if (runD P s j).status = 0 then takenD P s j + 1 else takenD P s j) = _
  rw [if_pos h, ht]

set_option maxHeartbeats 4000000 in
set_option maxRecDepth 100000 in
theorem Step_any (X : RX) (w0 : World) (P : List FnD) (rb : Nat) (s : StandD) (n : Nat) (w : World) (hgd : Good P) (hw : Wf P s) (hR : RunAt X w0 P rb w s) (hn : n ≤ 2000) :
    Calls Tryd.prog 52 #[.pointer (some ⟨rb, 0, none⟩), .int .i64 n] w fun e w' => e = .returned (.tuple #[.int .i64 (takenD P s n : Nat), .int .i64 0]) ∧ RunAt X w0 P rb w' (runD P s n) := by
  have HW := hid (fun j => wf_run hgd hw j)
  have HG := hid hgd
  have HR := hid hR
  clear hw hgd hR
  have hn0 : decide ((n : Int) < 0) = false := by simp
  have hn1 : decide ((2000 : Int) < (n : Int)) = false := by simp; omega
  go_enter Tryd.func52, Tryd.ntmps52
  go_wp2
  clear hn0 hn1
  go_loopw [6] (fun i wr => ∃ j : Nat, i = .int .i64 j ∧ j ≤ n ∧ takenD P s j = j ∧ RunAt X w0 P rb wr (runD P s j)) (fun i _ => n - (intOf i).toNat)
  case atStart => exact ⟨0, rfl, by omega, rfl, HR.out⟩
  case round =>
    clear HR
    obtain ⟨j, rfl, hj, htk, hr⟩ := hrel
    by_cases hjn : j < n
    · have hjn' : (j : Int) < (n : Int) := by omega
      have hwj := HW.out j
      have hlj := hwj.len
      have hrj := hwj.runs
      have hr2 := hr
      obtain ⟨pa, pcap, fv, hk, -, -, -, hown, -, -⟩ := hr2
      obtain ⟨fa, fcap, rfl⟩ : ∃ fa fcap, fv = .slice fa (runD P s j).live.length fcap := by
        rcases hown.2 with ⟨h1, h2⟩ | ⟨g, c', cur, h1, _⟩
        · exact ⟨none, 0, by rw [h1, h2]⟩
        · exact ⟨_, _, h1⟩
      have HGO := hid (goesOn_any rb fa (runD P s j).live.length fcap (runD P s j).status wr (by simp [World.cell?, hk]) (by simp [World.cell?, hk]) (by omega) (fun h => by
        have := (hrj h).1
        exact List.length_pos_iff.2 this))
      have HRJ := hid hr
      clear hk hown hr
      by_cases hst : (runD P s j).status = 0
      · rw [hst] at HGO
        have HST := hid (fun (W : World) (hW : Below wr.heap.size wr W) => step_any X w0 P rb (runD P s j) W HG.out hwj hst (HRJ.out.below hW))
        have HTK := hid (takenD_go hst htk)
        clear hwj hrj hst htk
        go_wp2_with (go_at_call 84; refine HGO.out.mono ?_; rintro e w1 ⟨rfl, hb1⟩)
        go_wp2_with fail
        refine (HST.out _ hb1).mono ?_
        rintro e w2 ⟨rfl, hr2⟩
        have HR2 := hid hr2
        clear hr2
        go_wp2
        go_roundw
        case rel => exact ⟨j + 1, by go_num, by omega, HTK.out, HR2.out⟩
        case measure => simp [intOf]; omega
      · have hd : decide ((runD P s j).status = 0) = false := by simpa using hst
        rw [hd] at HGO
        have HE := hid (runD_stop hst n (by omega))
        have HT := hid (takenD_stop hst n (by omega))
        have HTK := hid htk
        clear hwj hrj hst hd htk
        go_wp2_with (go_at_call 84; refine HGO.out.mono ?_; rintro e w1 ⟨rfl, hb1⟩)
        go_wp2
        exact bodyPost_ret (v := .tuple #[.int .i64 j, .int .i64 0]) (by simp [results, Tryd.results52, go_sem]) rfl ⟨by rw [HT.out, HTK.out], by rw [HE.out]; exact HRJ.out.below hb1⟩
    · have hje : j = n := by omega
      subst hje
      have hjn' : decide ((j : Int) < (j : Int)) = false := by simp
      have HRJ := hid hr
      have HTK := hid htk
      clear hr htk
      go_wp2
      exact bodyPost_ret (v := .tuple #[.int .i64 j, .int .i64 0]) (by simp [results, Tryd.results52, go_sem]) rfl ⟨by rw [HTK.out], HRJ.out⟩

set_option maxHeartbeats 4000000 in
set_option maxRecDepth 100000 in
theorem Step_bad (rb : Nat) (n : Int) (w : World) (hb : ¬ (0 ≤ n ∧ n ≤ 2000)) :
    Calls Tryd.prog 52 #[.pointer (some ⟨rb, 0, none⟩), .int .i64 n] w fun e w' => e = .returned (.tuple #[.int .i64 0, .int .i64 1]) ∧ w' = w := by
  by_cases h0 : n < 0
  · go_enter Tryd.func52, Tryd.ntmps52
    go_wp2
    exact bodyPost_ret (v := .tuple #[.int .i64 0, .int .i64 1]) (by simp [results, Tryd.results52, go_sem]) rfl ⟨rfl, rfl⟩
  · have h1 : (2000 : Int) < n := by omega
    go_enter Tryd.func52, Tryd.ntmps52
    go_wp2
    exact bodyPost_ret (v := .tuple #[.int .i64 0, .int .i64 1]) (by simp [results, Tryd.results52, go_sem]) rfl ⟨rfl, rfl⟩
end Go.Proofs.YtebjndcokkefhaaDoor
