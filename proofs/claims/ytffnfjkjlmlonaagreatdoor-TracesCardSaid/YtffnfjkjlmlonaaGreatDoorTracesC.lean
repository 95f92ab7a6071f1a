/- Proved: called with any script whatever, in whatever memory in which the four listed package-level variables read as the program's text lays them, unfoldlaw.Traces returns true, and the script reads afterwards as it read before; the listed variables are tied to the program's text by the given card, which speaks of the pruned copy of the project. -/
import Derived.Test.YtffnfjkjlmlonaaGreatDoorRows
import Derived.Test.YtffnfjkjlmlonaaGreatDoorCards
import Derived.Test.YtffnfjkjlmlonaaGreatDoorTie
import Derived.Test.YtffnfjkjlmlonaaGreatDoorZ46
import Derived.Test.YtffnfjkjlmlonaaGreatDoorZ47
import Derived.WalkKit
import Derived.ProofKit
import Derived.OpenShut
import Derived.ChangeOld
import Derived.Below
import Derived.SizedLaws
import Derived.LaidMore
import Derived.SevenTiedAt
import Derived.Stop.Joined
namespace Go.Proofs.YtffnfjkjlmlonaaGreatDoor
open Go.ChangeShapes Go.WideShapes Go.ChangeAt Go.RowKit
set_option linter.unusedVariables false

theorem own : ownKnob Tryz.prog.godebug = none := by kernel_rfl
theorem laidOut : laidOutB Tryz.prog = true := by kernel_rfl

set_option maxHeartbeats 1000000 in
set_option maxRecDepth 100000 in
theorem walk (a : Option Addr) (cap : Nat) (l : List StepD) (w : World) (hr : RdL 9 RdStep w a l.length cap l) (ht : Tab w) :
    Calls Tryz.prog 7 #[.slice a l.length cap] w fun e w' => e = .returned (.bool true) ∧ Below w.heap.size w w' := by
  have HP := hid (upTo_oneI Tab (fun _ _ h hb => h.below hb) 17 (by decide) ⟨by decide, by decide⟩ step_gives_trace a cap l w hr ht)
  clear hr ht
  generalize l.length = n at *
  go_enter Tryz.func7, Tryz.ntmps7
  go_wp2_with fail
  refine HP.out.mono ?_
  rintro e w3 ⟨rfl, hb⟩
  go_wp2
  go_ret
  exact ⟨rfl, hb⟩

/-- The table that numbers are written by. -/
theorem tab_of_laid {W : World} (h : laidMetH Tryz.prog Rows.tracesRow.laid W) : Tab W := by
  rw [MakeChecks.laidMetH_plain _ _ _ (by kernel_rfl)] at h
  obtain ⟨ps, ⟨_, _, _, _, _, _, _, _, _, _, ⟨_, _, _, _, _, _, _, _, _, _, ⟨g, t, cs, fuel, p, q, hg, ht, hv, hd, _⟩, _⟩, _⟩, _, _⟩ := h
  obtain rfl := Option.some.inj ((show Tryz.prog.globalNamed "internal/strconv.uint64pow10" = some 1 by kernel_rfl).symm.trans hg)
  obtain rfl := Option.some.inj ((show (Tryz.prog.globals[1]?).map (·.type) = some 290 by kernel_rfl).symm.trans ht)
  have e : (Rows.laid_internal_strconv_uint64pow10 : DataW Unit) = Lib.tabData .u64 Lib.pow10Tab := by kernel_rfl
  rw [e] at hd
  unfold Tab Lib.TabIs
  rw [hv, ← Lib.cells_of_tab Tryz.underlying290 Tryz.underlying284 (by kernel_rfl) (by kernel_rfl) hd]

/-- The heap that start-up leaves meets the condition on the listed variables. -/
theorem door_met (os : Os) (args : Array Value) : laidMetH Tryz.prog Rows.tracesRow.laid ((World.doorLaid Tryz.prog 400 os).forCall (fun _ _ => 0) ⟨#[], args, []⟩).memory :=
  laidMetH_of_parts3 (fuel := 8) (laidMet_of_run' 8 (by kernel_rfl) (by kernel_rfl)) (by kernel_rfl) (by kernel_rfl)

set_option maxRecDepth 100000 in
theorem lifted (os : Os) (started : os.Started) (H : Type) (enc : TypeId × Value → H) :
    ReturnsInHanded {} Tryz.checked os 7 .any (fun w args => (Rows.tracesSpec.pre enc Tryz.prog Tryz.f7 [] false w args ∧ laidMetH Tryz.prog Rows.tracesRow.laid w) ∧ sizedMet enc Tryz.prog Tryz.f7 (OpenSpec.ofChange Rows.tracesSpec) false w args)
      (Rows.tracesSpec.post enc Tryz.prog Tryz.f7 false true false false) := by
  refine returnsInHanded_of_change_and (C := Tryz.checked) (X := fun w _ => laidMetH Tryz.prog Rows.tracesRow.laid w) (fun _ _ _ hh h => h.of_heap hh) own started (by kernel_rfl) Tryz.func7
    (ChangeSpec.witness_shaped (enc := enc) (C := Tryz.checked) (os := os) (X := fun w _ => laidMetH Tryz.prog Rows.tracesRow.laid w) false (World.doorLaid Tryz.prog 400 os) #[.slice none 0 0] 8 rfl (World.shaped_of_RefB (by kernel_rfl) (by kernel_rfl)) (by kernel_rfl) (by kernel_rfl) (by kernel_rfl) (door_met os _)) ?_
  intro W base args ds gs before hval0 hW hcnd hsized hL _
  have hsz : ∀ k ∈ DataW.weightsEach Tryz.prog (Tryz.f7.params.toList ++ Rows.tracesSpec.plain.varTypes Tryz.prog) (ds ++ gs), k ≤ reachBytes := fun k hk => by simpa using List.all_eq_true.1 hsized k hk
  have hval : ∀ (j : Nat) t v, Tryz.f7.params[j]? = some t → args[j]? = some v → Value.okWide Tryz.prog W .any base t v := hval0
  have hW' := hW
  obtain ⟨p, q, hA0, hV, rfl, hfz, hnd⟩ := hW
  have hA : DataW.TrodAll enc Tryz.prog W 0 (fun _ => true) true Tryz.f7.params.toList args.toList ds p := hA0
  rw [Tryz.params7] at hA hsz hval
  obtain ⟨v0, vs0, d0, ds0, p0, q0, hargs, rfl, rfl, h0, r0⟩ := trodAll_cons hA
  obtain ⟨rfl, rfl, rfl⟩ := trodAll_nil r0
  obtain rfl : args = #[v0] := by cases args; simp_all
  obtain ⟨rfl, rfl⟩ := trodVars_none hV
  obtain ⟨a0, len0, cap0, rfl⟩ := okWide_slice Tryz.underlying22 (hval 0 22 v0 rfl rfl)
  have k0 := h0
  have lt0 : ∀ x ∈ p0, x.block < W.heap.size := by obtain ⟨m, hm⟩ := k0; exact DataW.trod_lt m _ _ _ hm
  obtain ⟨l, hl, w0⟩ : ∃ l : List StepD, l.length = len0 ∧ RdL 9 RdStep W a0 l.length cap0 l := by
    obtain ⟨fuel, hf⟩ := h0
    obtain ⟨a, cap, l, e, hr⟩ := open_script hf (fun k hk => hsz k (DataW.weights_mem_each (j := 0) (t := 22) (d := d0) rfl rfl k hk))
    simp [Value.cells] at e
    obtain ⟨rfl, rfl, rfl⟩ := e
    exact ⟨l, rfl, hr⟩
  subst hl
  clear hA0 hval0
  refine (walk a0 cap0 l W w0 (tab_of_laid hL)).mono fun e W' ⟨he, bel⟩ => ?_
  subst he
  exact ⟨_, rfl, _, _, _, [], _, [], hW', trodAll_mk1 (shut_bool Tryz.underlying4 _), (trodAll_cons_mk (Below.trod laidOut (by kernel_rfl) (of_decide_eq_true (by kernel_rfl)) k0 bel lt0) trodAll_mk0), rfl, bel.frame _, fun h => by cases h⟩

theorem fact_wf : Rows.tracesRow.wf (OpenSpec.ofChange Rows.tracesSpec) = true := by kernel_rfl
theorem fact_laid : laidOutB Tryz.checked.prog = true := by kernel_rfl
theorem fact_maps : mapsRowed Tryz.checked.prog = true := by kernel_rfl
theorem fact_place : (Rows.tracesRow.inPlace == Tryz.checked.prog.inPlace 7) = true := by kernel_rfl
theorem fact_unf : (Rows.tracesRow.unfollowed == Tryz.checked.prog.unfollowed 7) = true := by kernel_rfl
theorem fact_rec : (Rows.tracesRow.recurses == Tryz.checked.prog.recurses 7) = true := by kernel_rfl
theorem fact_named : (Rows.tracesRow.named == Tryz.checked.prog.varsNamed 7) = true := by kernel_rfl
theorem fact_heard : Tryz.checked.prog.stopsHeard = true := by kernel_rfl
theorem fact_enter : Tryz.checked.prog.mayEnter = true := by kernel_rfl
theorem fact_lift : (Rows.tracesRow.lifted == Tryz.checked.prog.liftsFinal) = true := by kernel_rfl
theorem facts : joinedFacts Tryz.checked.prog 7 Tryz.f7 Rows.tracesSpec Rows.tracesRow = true := by
  unfold joinedFacts
  rw [fact_wf, fact_laid, fact_maps, fact_place, fact_unf, fact_rec, fact_named, fact_heard, fact_enter, fact_lift]
  kernel_rfl

theorem over : Rows.tracesRow.holds Tryz.pinned (OpenSpec.ofChange Rows.tracesSpec) :=
  OpenClaim.holds_of_wide 7 Tryz.f7 rfl rfl rfl rfl rfl rfl rfl ⟨rfl, rfl, rfl, rfl, rfl⟩ rfl rfl rfl rfl rfl (by kernel_rfl) Tryz.func7 facts
    (of_decide_eq_true (by kernel_rfl)) (by unfold Func.isWrapper; first | (rw [if_pos (by decide +kernel)]; kernel_rfl) | (rw [if_neg (by decide +kernel)]; exact ⟨rfl, rfl⟩))
    (fun os started H enc _ => lifted os started H enc)

theorem traces_holds : Rows.TracesCardSaid :=
  Claim7.holds_tied_plain_at .later [] [.data, .data, .data, .data] true Rows.tracesCard.stood.harness false
    over (fun _ h => by cases h) (by kernel_rfl) (fun _ h => by cases h) traces_row_tie rfl ⟨rfl, rfl⟩ (by kernel_rfl) rfl
    (fun f fn hf hfn => by
      obtain rfl : f = 7 := Option.some.inj ((show Tryz.prog.funcNamed "unfold/unfoldlaw.Traces" = some 7 by kernel_rfl).symm.trans hf) |>.symm
      obtain rfl : fn = Tryz.f7 := (Option.some.inj (Tryz.func7.symm.trans hfn)).symm
      exact ⟨by kernel_rfl, fun j t ht => by
        rw [Tryz.params7] at ht
        have hm : t ∈ [22] := by simpa using Array.mem_of_getElem? ht
        have hall : ([22].all fun u => !Tryz.prog.wantsStandIn u) = true := by kernel_rfl
        exact (show Tryz.prog.wantsStandIn t = false by simpa using List.all_eq_true.1 hall t hm)⟩)
    (by kernel_rfl)
#print axioms traces_holds
end Go.Proofs.YtffnfjkjlmlonaaGreatDoor
