/- Proved: called with any script whatever, in whatever memory in which the four listed package-level variables read as the program's text lays them, unfoldlaw.Symbols returns true, and the script reads afterwards as it read before; the listed variables are tied to the program's text by the given card, which speaks of the pruned copy of the project. -/
import Derived.Test.YtffnfjkjlmlonaaGreatDoorZB40
import Derived.Test.YtffnfjkjlmlonaaGreatDoorRows
import Derived.Test.YtffnfjkjlmlonaaGreatDoorCards
import Derived.Test.YtffnfjkjlmlonaaGreatDoorTie
import Derived.WalkKit
import Derived.ProofKit
import Derived.OpenShut
import Derived.ChangeOld
import Derived.Below
import Derived.SizedLaws
import Derived.LaidMore
import Derived.SevenTiedAt
import Derived.Stop.Joined
namespace Go.Proofs.YtffnfjkjlmlonaaGreatDoor
open Go.ChangeShapes Go.WideShapes Go.ChangeAt Go.RowKit
set_option linter.unusedVariables false
theorem own : ownKnob Tryz.prog.godebug = none := by kernel_rfl
theorem laidOut : laidOutB Tryz.prog = true := by kernel_rfl
set_option maxHeartbeats 1000000 in
set_option maxRecDepth 100000 in
theorem walk (a : Option Addr) (cap : Nat) (l : List StepS) (w : World) (hr : RdL 9 RdStepS w a l.length cap l) (hll : l.length ≤ 2199023255552) (hh : HeadAt w) (ht : Tab w) :
    Calls Tryz.prog 4 #[.slice a l.length cap] w fun e w' => e = .returned (.bool true) ∧ Below w.heap.size w w' := by
  have HP := hid (upTo_sym a cap l w hr hll hh ht)
  clear hr hh ht
  generalize l.length = n at *
  go_enter Tryz.func4, Tryz.ntmps4
  go_wp2_with fail
  refine HP.out.mono ?_
  rintro e w3 ⟨rfl, hb⟩
  go_wp2
  go_ret
  exact ⟨rfl, hb⟩
/-- The head of an image. -/
theorem head_of_laid {W : World} (h : laidMetH Tryz.prog Rows.symbolsRow.laid W) : HeadAt W := by
  have h1 : ∀ r, r < 3 → W.cell? ⟨0, r, none⟩ = some (.int .u8 ([(85 : Int), 70, 1].getD r 0)) := by
    intro r hr
    rw [MakeChecks.laidMetH_plain _ _ _ (by kernel_rfl)] at h
    obtain ⟨ps, ⟨_, _, _, _, _, _, _, _, _, _, ⟨_, _, _, _, _, _, _, _, _, _, ⟨_, _, _, _, _, _, _, _, _, _, ⟨g, t, cs, fuel, p, q, hg, ht, hv, hd, _, _⟩, _⟩, _⟩, _⟩, _, _⟩ := h
    obtain rfl := Option.some.inj ((show Tryz.prog.globalNamed "unfold/image.head" = some 0 by kernel_rfl).symm.trans hg)
    obtain rfl := Option.some.inj ((show (Tryz.prog.globals[0]?).map (·.type) = some 191 by kernel_rfl).symm.trans ht)
    obtain ⟨xs, m, _, ex, _, hl, hel⟩ := DataW.trod_array Tryz.underlying191 hd
    have c5 : Tryz.prog.cellsOf 5 = 1 := by kernel_rfl
    have hE := hel r hr
    rw [c5, Nat.mul_one, List.getElem?_eq_getElem (by omega)] at hE
    obtain ⟨z, e1, e2, _⟩ := DataW.trod_int Tryz.underlying5 hE
    have e3 : (xs.map (·.1)) = [(85 : Int), 70, 1].map fun n => .lit (.int .u8 n) := (DataW.agg.inj (Prod.mk.inj ex).1).symm
    have e4 : (xs.map (·.1))[r]? = ([(85 : Int), 70, 1].map fun n => (DataW.lit (.int .u8 n) : DataW Unit))[r]? := by rw [e3]
    rw [List.getElem?_map, List.getElem?_map, List.getElem?_eq_getElem (by omega : r < xs.length), List.getElem?_eq_getElem (show r < [(85 : Int), 70, 1].length from hr), e2] at e4
    have hz : z = [(85 : Int), 70, 1].getD r 0 := by
      simp only [Option.map_some, Option.some.injEq, DataW.lit.injEq, Lit.int.injEq, true_and] at e4
      rw [e4, List.getD, List.getElem?_eq_getElem (show r < [(85 : Int), 70, 1].length from hr)]; rfl
    rw [World.var?_cell hg hv r, ← hz]
    have : cs.toList[r]? = some (.int .u8 z) := by
      have h0 : ((cs.toList.drop r).take 1)[0]? = some (.int .u8 z) := by rw [e1]; rfl
      simpa using h0
    simpa using this
  exact ⟨h1 0 (by omega), h1 1 (by omega), h1 2 (by omega)⟩
/-- The table that numbers are written by. -/
theorem tab_of_laid {W : World} (h : laidMetH Tryz.prog Rows.symbolsRow.laid W) : Tab W := by
  rw [MakeChecks.laidMetH_plain _ _ _ (by kernel_rfl)] at h
  obtain ⟨ps, ⟨_, _, _, _, _, _, _, _, _, _, ⟨_, _, _, _, _, _, _, _, _, _, ⟨g, t, cs, fuel, p, q, hg, ht, hv, hd, _⟩, _⟩, _⟩, _, _⟩ := h
  obtain rfl := Option.some.inj ((show Tryz.prog.globalNamed "internal/strconv.uint64pow10" = some 1 by kernel_rfl).symm.trans hg)
  obtain rfl := Option.some.inj ((show (Tryz.prog.globals[1]?).map (·.type) = some 290 by kernel_rfl).symm.trans ht)
  have e : (Rows.laid_internal_strconv_uint64pow10 : DataW Unit) = Lib.tabData .u64 Lib.pow10Tab := by kernel_rfl
  rw [e] at hd
  unfold Tab Lib.TabIs
  rw [hv, ← Lib.cells_of_tab Tryz.underlying290 Tryz.underlying284 (by kernel_rfl) (by kernel_rfl) hd]
/-- The heap that start-up leaves meets the condition on the listed variables. -/
theorem door_met (os : Os) (args : Array Value) : laidMetH Tryz.prog Rows.symbolsRow.laid ((World.doorLaid Tryz.prog 400 os).forCall (fun _ _ => 0) ⟨#[], args, []⟩).memory :=
  laidMetH_of_parts3 (fuel := 8) (laidMet_of_run' 8 (by kernel_rfl) (by kernel_rfl)) (by kernel_rfl) (by kernel_rfl)
set_option maxRecDepth 100000 in
theorem lifted (os : Os) (started : os.Started) (H : Type) (enc : TypeId × Value → H) :
    ReturnsInHanded {} Tryz.checked os 4 .any (fun w args => (Rows.symbolsSpec.pre enc Tryz.prog Tryz.f4 [] false w args ∧ laidMetH Tryz.prog Rows.symbolsRow.laid w) ∧ sizedMet enc Tryz.prog Tryz.f4 (OpenSpec.ofChange Rows.symbolsSpec) false w args)
      (Rows.symbolsSpec.post enc Tryz.prog Tryz.f4 false true false false) := by
  refine returnsInHanded_of_change_and (C := Tryz.checked) (X := fun w _ => laidMetH Tryz.prog Rows.symbolsRow.laid w) (fun _ _ _ hh h => h.of_heap hh) own started (by kernel_rfl) Tryz.func4
    (ChangeSpec.witness_shaped (enc := enc) (C := Tryz.checked) (os := os) (X := fun w _ => laidMetH Tryz.prog Rows.symbolsRow.laid w) false (World.doorLaid Tryz.prog 400 os) #[.slice none 0 0] 8 rfl (World.shaped_of_RefB (by kernel_rfl) (by kernel_rfl)) (by kernel_rfl) (by kernel_rfl) (by kernel_rfl) (door_met os _)) ?_
  intro W base args ds gs before hval0 hW hcnd hsized hL _
  have hsz : ∀ k ∈ DataW.weightsEach Tryz.prog (Tryz.f4.params.toList ++ Rows.symbolsSpec.plain.varTypes Tryz.prog) (ds ++ gs), k ≤ reachBytes := fun k hk => by simpa using List.all_eq_true.1 hsized k hk
  have hval : ∀ (j : Nat) t v, Tryz.f4.params[j]? = some t → args[j]? = some v → Value.okWide Tryz.prog W .any base t v := hval0
  have hW' := hW
  obtain ⟨p, q, hA0, hV, rfl, hfz, hnd⟩ := hW
  have hA : DataW.TrodAll enc Tryz.prog W 0 (fun _ => true) true Tryz.f4.params.toList args.toList ds p := hA0
  rw [Tryz.params4] at hA hsz hval
  obtain ⟨v0, vs0, d0, ds0, p0, q0, hargs, rfl, rfl, h0, r0⟩ := trodAll_cons hA
  obtain ⟨rfl, rfl, rfl⟩ := trodAll_nil r0
  obtain rfl : args = #[v0] := by cases args; simp_all
  obtain ⟨rfl, rfl⟩ := trodVars_none hV
  obtain ⟨a0, len0, cap0, rfl⟩ := okWide_slice Tryz.underlying22 (hval 0 22 v0 rfl rfl)
  have k0 := h0
  have lt0 : ∀ x ∈ p0, x.block < W.heap.size := by obtain ⟨m, hm⟩ := k0; exact DataW.trod_lt m _ _ _ hm
  obtain ⟨l, hl, w0, hl41⟩ : ∃ l : List StepS, l.length = len0 ∧ RdL 9 RdStepS W a0 l.length cap0 l ∧ l.length ≤ 2199023255552 := by
    obtain ⟨fuel, hf⟩ := h0
    obtain ⟨a, cap, l, e, hr, hl41⟩ := open_scriptS hf (fun k hk => hsz k (DataW.weights_mem_each (j := 0) (t := 22) (d := d0) rfl rfl k hk))
    simp [Value.cells] at e
    obtain ⟨rfl, rfl, rfl⟩ := e
    exact ⟨l, rfl, hr, hl41⟩
  subst hl
  clear hA0 hval0
  refine (walk a0 cap0 l W w0 hl41 (head_of_laid hL) (tab_of_laid hL)).mono fun e W' ⟨he, bel⟩ => ?_
  subst he
  exact ⟨_, rfl, _, _, _, [], _, [], hW', trodAll_mk1 (shut_bool Tryz.underlying4 _), (trodAll_cons_mk (Below.trod laidOut (by kernel_rfl) (of_decide_eq_true (by kernel_rfl)) k0 bel lt0) trodAll_mk0), rfl, bel.frame _, fun h => by cases h⟩
theorem fact_wf : Rows.symbolsRow.wf (OpenSpec.ofChange Rows.symbolsSpec) = true := by kernel_rfl
theorem fact_laid : laidOutB Tryz.checked.prog = true := by kernel_rfl
theorem fact_maps : mapsRowed Tryz.checked.prog = true := by kernel_rfl
theorem fact_place : (Rows.symbolsRow.inPlace == Tryz.checked.prog.inPlace 4) = true := by kernel_rfl
theorem fact_unf : (Rows.symbolsRow.unfollowed == Tryz.checked.prog.unfollowed 4) = true := by kernel_rfl
theorem fact_rec : (Rows.symbolsRow.recurses == Tryz.checked.prog.recurses 4) = true := by kernel_rfl
theorem fact_named : (Rows.symbolsRow.named == Tryz.checked.prog.varsNamed 4) = true := by kernel_rfl
theorem fact_heard : Tryz.checked.prog.stopsHeard = true := by kernel_rfl
theorem fact_enter : Tryz.checked.prog.mayEnter = true := by kernel_rfl
theorem fact_lift : (Rows.symbolsRow.lifted == Tryz.checked.prog.liftsFinal) = true := by kernel_rfl
theorem facts : joinedFacts Tryz.checked.prog 4 Tryz.f4 Rows.symbolsSpec Rows.symbolsRow = true := by
  unfold joinedFacts
  rw [fact_wf, fact_laid, fact_maps, fact_place, fact_unf, fact_rec, fact_named, fact_heard, fact_enter, fact_lift]
  kernel_rfl
theorem over : Rows.symbolsRow.holds Tryz.pinned (OpenSpec.ofChange Rows.symbolsSpec) :=
  OpenClaim.holds_of_wide 4 Tryz.f4 rfl rfl rfl rfl rfl rfl rfl ⟨rfl, rfl, rfl, rfl, rfl⟩ rfl rfl rfl rfl rfl (by kernel_rfl) Tryz.func4 facts
    (of_decide_eq_true (by kernel_rfl)) (by unfold Func.isWrapper; first | (rw [if_pos (by decide +kernel)]; kernel_rfl) | (rw [if_neg (by decide +kernel)]; exact ⟨rfl, rfl⟩))
    (fun os started H enc _ => lifted os started H enc)
theorem symbols_holds : Rows.SymbolsCardSaid :=
  Claim7.holds_tied_plain_at .later [] [.data, .data, .data, .data] true Rows.symbolsCard.stood.harness false
    over (fun _ h => by cases h) (by kernel_rfl) (fun _ h => by cases h) symbols_row_tie rfl ⟨rfl, rfl⟩ (by kernel_rfl) rfl
    (fun f fn hf hfn => by
      obtain rfl : f = 4 := Option.some.inj ((show Tryz.prog.funcNamed "unfold/unfoldlaw.Symbols" = some 4 by kernel_rfl).symm.trans hf) |>.symm
      obtain rfl : fn = Tryz.f4 := (Option.some.inj (Tryz.func4.symm.trans hfn)).symm
      exact ⟨by kernel_rfl, fun j t ht => by
        rw [Tryz.params4] at ht
        have hm : t ∈ [22] := by simpa using Array.mem_of_getElem? ht
        have hall : ([22].all fun u => !Tryz.prog.wantsStandIn u) = true := by kernel_rfl
        exact (show Tryz.prog.wantsStandIn t = false by simpa using List.all_eq_true.1 hall t hm)⟩)
    (by kernel_rfl)
#print axioms symbols_holds
end Go.Proofs.YtffnfjkjlmlonaaGreatDoor
