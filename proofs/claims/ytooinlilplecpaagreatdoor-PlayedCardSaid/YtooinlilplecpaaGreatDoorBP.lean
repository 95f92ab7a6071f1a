/- Contracts of the statement's own step at a Run, and of upTo where Runs alone are played: -1, whatever the script, out of RunGives; the length of a script, out of its reach. Proved: called with any script whatever, in whatever memory in which the four listed package-level variables read as the program's text lays them, unfoldlaw.Played returns true, and the script reads afterwards as it read before; the listed variables are tied to the program's text by the given card, which speaks of the pruned copy of the project. -/
import Derived.Test.YtooinlilplecpaaGreatDoorBL
import Derived.Test.YtooinlilplecpaaGreatDoorBO
import Derived.Test.YtooinlilplecpaaGreatDoorRows
import Derived.Test.YtooinlilplecpaaGreatDoorCards
import Derived.Test.YtooinlilplecpaaGreatDoorTie
import Derived.Test.YtooinlilplecpaaGreatDoorBD2
import Derived.WalkKit
import Derived.ProofKit
import Derived.OpenShut
import Derived.ChangeOld
import Derived.Below
import Derived.SizedLaws
import Derived.LaidMore
import Derived.SevenTiedAt
import Derived.Stop.Joined
namespace Go.Proofs.YtooinlilplecpaaGreatDoor
open Go.RowKit

section
variable {H : Type} {enc : TypeId × Value → H} {w : World} {base : Nat} {spare : Nat → Bool} {held : Bool}
set_option maxRecDepth 100000 in
theorem open_script_len {n : Nat} {cs : List Value} {x : DataW H × List MemPlace} (h : DataW.trod enc Tryz.prog w base spare held n 22 cs = some x) (hw : ∀ k ∈ x.1.weights Tryz.prog 22, k ≤ reachBytes) :
    ∃ a cap l, cs = [.slice a l.length cap] ∧ RdL 9 RdStep w a l.length cap l ∧ l.length ≤ 2199023255552 := by
  obtain ⟨a, cap, l, e, hr, hlen, _⟩ := open_RdL (size := 9) (R := RdStep) (bnd := fun _ => True) Tryz.underlying22 (by kernel_rfl) (by omega) (fun _ _ _ h hw => open_step h hw) h hw
  have hb : Tryz.prog.bytesOf 46 = 168 := by kernel_rfl
  rw [hb] at hlen
  unfold reachBytes at hlen
  exact ⟨a, cap, l, e, hr, by omega⟩
end

set_option maxHeartbeats 2000000 in
set_option maxRecDepth 100000 in
theorem step_run (hR : RunGives) (g N : Nat) (n m : Int) (la : Option Addr) (lcap : Nat) (l : List Int) (v4 v5 v6 v7 : Value) (a : Option Addr) (cap : Nat) (p : List FnD) (ws w : World) (hws : ws.heap.size ≤ g) (hbs : Below ws.heap.size ws w) (hr : RdP ws a p.length cap p) (hl : Rd .i64 ws la l.length lcap l) (hn : R64 n)
    (hlen : p.length ≤ 2199023255552) (hll : l.length ≤ 17592186044416) (hbody : ∀ x ∈ p, x.body.length ≤ 2199023255552 ∧ ∀ o ∈ x.body, o.args.length ≤ 17592186044416) (hI : FsInv g w N) (hN : N + 2 ≤ 4398046511104) :
    Calls Tryz.prog 14 #[.pointer (some ⟨g, 0, none⟩), .agg #[.int .i64 7, .int .i64 n, .int .i64 m, .slice la l.length lcap, v4, v5, v6, v7, .slice a p.length cap]] w fun e w' => e = .returned (.bool true) ∧ FsInv g w' (N + 2) ∧ Below g w w' := by
  have hg := hI.lt
  have HS := hid (fun (W : World) (hW : Below w.heap.size w W) => source_run hR g N n m la lcap l v4 v5 v6 v7 a cap p ws W hws (hbs.trans (hW.mono hbs.size)) hr hl hn hlen hll hbody (hI.below hW) hN)
  clear hr hbody hR hl hI hn
  generalize p.length = pl at *
  generalize l.length = ll at *
  go_enter Tryz.func14, Tryz.ntmps14
  go_wp2_with fail
  refine (HS.out _ ((Below.refl _ _).alloc (Nat.le_refl _) _)).mono ?_
  rintro e w1 ⟨rfl, hI1, hb⟩
  go_wp2
  go_ret
  exact ⟨rfl, hI1, (((Below.refl _ _).alloc (Nat.le_refl _) _).mono (by omega)).trans hb⟩

set_option maxHeartbeats 4000000 in
set_option maxRecDepth 100000 in
theorem upTo_run (hR : RunGives) (a : Option Addr) (cap : Nat) (l : List StepD) (w : World) (hr : RdL 9 RdStep w a l.length cap l) (hll : l.length ≤ 2199023255552) :
    Calls Tryz.prog 13 #[.slice a l.length cap, .int .i64 7, .int .i64 7] w fun e w' => e = .returned (.int .i64 (-1)) ∧ Below w.heap.size w w' := by
  have hcap := hr.2.1
  have hmax := hr.2.2.1
  unfold maxLen at hmax
  have HC := hid hR
  have HR := hid hr
  clear hr hR
  obtain ⟨n, hn⟩ : ∃ n, n = l.length := ⟨_, rfl⟩
  rw [← hn] at HR hcap hll ⊢
  have HN := hid hn
  clear hn
  obtain ⟨g, hgv⟩ : ∃ g, g = w.heap.size := ⟨_, rfl⟩
  go_enter Tryz.func13, Tryz.ntmps13
  go_wp2_with fail
  obtain ⟨w1, hw1⟩ : ∃ w1, w1 = w.alloc (Obj.cells nils 34) := ⟨_, rfl⟩
  have hb1 : Below w.heap.size w w1 := by rw [hw1]; exact (Below.refl _ _).alloc (Nat.le_refl _) _
  have hs1 : w1.heap.size = w.heap.size + 1 := by rw [hw1]; simp
  have HB : Hid (FsInv w.heap.size w1 0) := Bare.fs (by unfold Bare; rw [hw1]; exact heap_alloc_new _ _)
  go_loopw [8] (fun i wr => ∃ (j N : Nat), i = .int .i64 j ∧ j ≤ n ∧ FsInv w.heap.size wr N ∧ N ≤ 2 * j ∧ Below w.heap.size w wr) (fun i _ => n - (intOf i).toNat)
  case atStart => exact ⟨0, 0, rfl, by omega, by have := HB.out; rw [hw1] at this; exact this, by omega, by have := hb1; rw [hw1] at this; exact this⟩
  case round =>
    clear hw1
    obtain ⟨j, N, rfl, hj, hI, hNj, hbe⟩ := hrel
    have hsz := hbe.size
    have hgl := hI.lt
    by_cases hjn : j < n
    · obtain ⟨s, hs⟩ : ∃ s, l[j]? = some s := ⟨_, List.getElem?_eq_getElem (by rw [← HN.out]; exact hjn)⟩
      obtain ⟨b, off, cs, rfl, _, hcells, hst⟩ := HR.out.2.2.2 j s hs
      have HLK := hid (fun (W : World) (M : Nat) (hW : FsInv w.heap.size W M) => looks_fs w.heap.size W M hW)
      obtain ⟨a3, k3, ⟨a4, n4, k4⟩, ⟨a5, n5, k5⟩, ⟨a6, n6, k6⟩, ⟨a7, n7, k7⟩, pa, pcap, rfl, hk, hn', hm, hr3, hb3, hrp, hx, hfit⟩ := hst
      have hc : ∀ k v, [Value.int .i64 s.k, .int .i64 s.n, .int .i64 s.m, .slice a3 s.l.length k3, .slice a4 n4 k4, .slice a5 n5 k5, .slice a6 n6 k6, .slice a7 n7 k7, .slice pa s.p.length pcap][k]? = some v → wr.cell? ⟨b, off + j * 9 + k, none⟩ = some v := fun k v h => by
        have := hcells k v h
        exact (hbe.cell (p := ⟨b, off + j * 9 + k, none⟩) (World.block_lt_of_cell? w _ this)).trans this
      have c0 : wr.cell? ⟨b, off + j * 9, none⟩ = _ := hc 0 _ rfl
      have c1 := hc 1 _ rfl
      have c2 := hc 2 _ rfl
      have c3 := hc 3 _ rfl
      have c4 := hc 4 _ rfl
      have c5 := hc 5 _ rfl
      have c6 := hc 6 _ rfl
      have c7 := hc 7 _ rfl
      have c8 := hc 8 _ rfl
      have HW := hid (fun (W : World) (hW : Below wr.heap.size wr W) => step_write_fs w.heap.size s.n s.m (.slice a3 s.l.length k3) (.slice a4 n4 k4) (.slice a5 n5 k5) (.slice a6 n6 k6) (.slice a7 n7 k7) (.slice pa s.p.length pcap) W N (hI.below hW) hm)
      have HST := hid (fun (W : World) (hW : Below wr.heap.size wr W) => step_run HC.out w.heap.size N s.n s.m a3 k3 s.l (.slice a4 n4 k4) (.slice a5 n5 k5) (.slice a6 n6 k6) (.slice a7 n7 k7) pa pcap s.p w W (Nat.le_refl _) (hbe.trans (hW.mono hbe.size)) hrp hr3 hn' hx hb3 hfit (hI.below hW) (by omega))
      have HI := hid hI
      clear hcells hc hs hI hr3 hrp hfit hgv
      have hjn' : (j : Int) < (n : Int) := by omega
      obtain ⟨hk1, hk2⟩ := hk
      by_cases h18 : s.k = 18
      · clear HST HC
        go_wp2_with fail
        refine (HW.out _ ((Below.refl _ _).alloc (Nat.le_refl _) _)).mono ?_
        rintro e w2 ⟨rfl, hb2⟩
        have hb2' := ((Below.refl wr.heap.size wr).alloc (Nat.le_refl _) _).trans (hb2.mono (by simp))
        go_wp2_with fail
        refine (HLK.out _ N (HI.out.below hb2')).mono ?_
        rintro e w3 ⟨rfl, hb3'⟩
        have hb3 := hb2'.trans (hb3'.mono hb2'.size)
        go_wp2
        go_roundw
        case rel => exact ⟨j + 1, N, by go_num, by omega, HI.out.below hb3, by omega, hbe.trans (hb3.mono hsz)⟩
        case measure => simp [intOf]; omega
      · by_cases hKk : s.k = 7
        · clear HC HW
          rw [hKk] at c0
          have hkk : Hid (s.k = 7) := hKk
          clear hKk h18 hk1 hk2
          go_wp2_with fail
          refine (HST.out _ ((Below.refl _ _).alloc (Nat.le_refl _) _)).mono ?_
          rintro e w2 ⟨rfl, hI2, hb2⟩
          have hb2' : Below w.heap.size wr w2 := (((Below.refl wr.heap.size wr).alloc (Nat.le_refl _) _).mono (by omega)).trans hb2
          go_wp2_with fail
          refine (HLK.out _ (N + 2) hI2).mono ?_
          rintro e w3 ⟨rfl, hb3'⟩
          have hsz2 := hb2'.size
          have hb3 := hb2'.trans (hb3'.mono (by omega))
          go_wp2
          go_roundw
          case rel => exact ⟨j + 1, N + 2, by go_num, by omega, hI2.below hb3', by omega, hbe.trans hb3⟩
          case measure => simp [intOf]; omega
        · clear HST HC HW HLK
          have hbr : Below wr.heap.size wr (wr.alloc (Obj.cells #[.int .i64 s.k, .int .i64 s.n, .int .i64 s.m, .slice a3 s.l.length k3, .slice a4 n4 k4, .slice a5 n5 k5, .slice a6 n6 k6, .slice a7 n7 k7, .slice pa s.p.length pcap] 46)) := (Below.refl _ _).alloc (Nat.le_refl _) _
          have HBR := hid hbr
          clear hbr
          by_cases hlt : s.k < 7
          · have hge : decide (7 ≤ s.k) = false := by simp; omega
            go_wp2
            go_roundw
            case rel => exact ⟨j + 1, N, by go_num, by omega, HI.out.below HBR.out, by omega, hbe.trans (HBR.out.mono hsz)⟩
            case measure => simp [intOf]; omega
          · have hge : decide (7 ≤ s.k) = true := by simp; omega
            have hle : decide (s.k ≤ 7) = false := by simp; omega
            go_wp2
            go_roundw
            case rel => exact ⟨j + 1, N, by go_num, by omega, HI.out.below HBR.out, by omega, hbe.trans (HBR.out.mono hsz)⟩
            case measure => simp [intOf]; omega
    · go_wp2
      go_ret
      exact ⟨rfl, hbe⟩
end Go.Proofs.YtooinlilplecpaaGreatDoor
namespace Go.Proofs.YtooinlilplecpaaGreatDoor
open Go.ChangeShapes Go.WideShapes Go.ChangeAt Go.RowKit
set_option linter.unusedVariables false

theorem own : ownKnob Tryz.prog.godebug = none := by kernel_rfl
theorem laidOut : laidOutB Tryz.prog = true := by kernel_rfl

set_option maxHeartbeats 1000000 in
set_option maxRecDepth 100000 in
theorem walk (a : Option Addr) (cap : Nat) (l : List StepD) (w : World) (hr : RdL 9 RdStep w a l.length cap l) (hll : l.length ≤ 2199023255552) :
    Calls Tryz.prog 6 #[.slice a l.length cap] w fun e w' => e = .returned (.bool true) ∧ Below w.heap.size w w' := by
  have HP := hid (upTo_run run_gives a cap l w hr hll)
  clear hr
  generalize l.length = n at *
  go_enter Tryz.func6, Tryz.ntmps6
  go_wp2_with fail
  refine HP.out.mono ?_
  rintro e w3 ⟨rfl, hb⟩
  go_wp2
  go_ret
  exact ⟨rfl, hb⟩

/-- The heap that start-up leaves meets the condition on the listed variables. -/
theorem door_met (os : Os) (args : Array Value) : laidMetH Tryz.prog Rows.playedRow.laid ((World.doorLaid Tryz.prog 400 os).forCall (fun _ _ => 0) ⟨#[], args, []⟩).memory :=
  laidMetH_of_parts3 (fuel := 8) (laidMet_of_run' 8 (by kernel_rfl) (by kernel_rfl)) (by kernel_rfl) (by kernel_rfl)

set_option maxRecDepth 100000 in
theorem lifted (os : Os) (started : os.Started) (H : Type) (enc : TypeId × Value → H) :
    ReturnsInHanded {} Tryz.checked os 6 .any (fun w args => (Rows.playedSpec.pre enc Tryz.prog Tryz.f6 [] false w args ∧ laidMetH Tryz.prog Rows.playedRow.laid w) ∧ sizedMet enc Tryz.prog Tryz.f6 (OpenSpec.ofChange Rows.playedSpec) false w args)
      (Rows.playedSpec.post enc Tryz.prog Tryz.f6 false true false false) := by
  refine returnsInHanded_of_change_and (C := Tryz.checked) (X := fun w _ => laidMetH Tryz.prog Rows.playedRow.laid w) (fun _ _ _ hh h => h.of_heap hh) own started (by kernel_rfl) Tryz.func6
    (ChangeSpec.witness_shaped (enc := enc) (C := Tryz.checked) (os := os) (X := fun w _ => laidMetH Tryz.prog Rows.playedRow.laid w) false (World.doorLaid Tryz.prog 400 os) #[.slice none 0 0] 8 rfl (World.shaped_of_RefB (by kernel_rfl) (by kernel_rfl)) (by kernel_rfl) (by kernel_rfl) (by kernel_rfl) (door_met os _)) ?_
  intro W base args ds gs before hval0 hW hcnd hsized _ _
  have hsz : ∀ k ∈ DataW.weightsEach Tryz.prog (Tryz.f6.params.toList ++ Rows.playedSpec.plain.varTypes Tryz.prog) (ds ++ gs), k ≤ reachBytes := fun k hk => by simpa using List.all_eq_true.1 hsized k hk
  have hval : ∀ (j : Nat) t v, Tryz.f6.params[j]? = some t → args[j]? = some v → Value.okWide Tryz.prog W .any base t v := hval0
  have hW' := hW
  obtain ⟨p, q, hA0, hV, rfl, hfz, hnd⟩ := hW
  have hA : DataW.TrodAll enc Tryz.prog W 0 (fun _ => true) true Tryz.f6.params.toList args.toList ds p := hA0
  rw [Tryz.params6] at hA hsz hval
  obtain ⟨v0, vs0, d0, ds0, p0, q0, hargs, rfl, rfl, h0, r0⟩ := trodAll_cons hA
  obtain ⟨rfl, rfl, rfl⟩ := trodAll_nil r0
  obtain rfl : args = #[v0] := by cases args; simp_all
  obtain ⟨rfl, rfl⟩ := trodVars_none hV
  obtain ⟨a0, len0, cap0, rfl⟩ := okWide_slice Tryz.underlying22 (hval 0 22 v0 rfl rfl)
  have k0 := h0
  have lt0 : ∀ x ∈ p0, x.block < W.heap.size := by obtain ⟨m, hm⟩ := k0; exact DataW.trod_lt m _ _ _ hm
  obtain ⟨l, hl, w0, hll⟩ : ∃ l : List StepD, l.length = len0 ∧ RdL 9 RdStep W a0 l.length cap0 l ∧ l.length ≤ 2199023255552 := by
    obtain ⟨fuel, hf⟩ := h0
    obtain ⟨a, cap, l, e, hr, hlb⟩ := open_script_len hf (fun k hk => hsz k (DataW.weights_mem_each (j := 0) (t := 22) (d := d0) rfl rfl k hk))
    simp [Value.cells] at e
    obtain ⟨rfl, rfl, rfl⟩ := e
    exact ⟨l, rfl, hr, hlb⟩
  subst hl
  clear hA0 hval0
  refine (walk a0 cap0 l W w0 hll).mono fun e W' ⟨he, bel⟩ => ?_
  subst he
  exact ⟨_, rfl, _, _, _, [], _, [], hW', trodAll_mk1 (shut_bool Tryz.underlying4 _), (trodAll_cons_mk (Below.trod laidOut (by kernel_rfl) (of_decide_eq_true (by kernel_rfl)) k0 bel lt0) trodAll_mk0), rfl, bel.frame _, fun h => by cases h⟩

theorem fact_wf : Rows.playedRow.wf (OpenSpec.ofChange Rows.playedSpec) = true := by kernel_rfl
theorem fact_laid : laidOutB Tryz.checked.prog = true := by kernel_rfl
theorem fact_maps : mapsRowed Tryz.checked.prog = true := by kernel_rfl
theorem fact_place : (Rows.playedRow.inPlace == Tryz.checked.prog.inPlace 6) = true := by kernel_rfl
theorem fact_unf : (Rows.playedRow.unfollowed == Tryz.checked.prog.unfollowed 6) = true := by kernel_rfl
theorem fact_rec : (Rows.playedRow.recurses == Tryz.checked.prog.recurses 6) = true := by kernel_rfl
theorem fact_named : (Rows.playedRow.named == Tryz.checked.prog.varsNamed 6) = true := by kernel_rfl
theorem fact_heard : Tryz.checked.prog.stopsHeard = true := by kernel_rfl
theorem fact_enter : Tryz.checked.prog.mayEnter = true := by kernel_rfl
theorem fact_lift : (Rows.playedRow.lifted == Tryz.checked.prog.liftsFinal) = true := by kernel_rfl
theorem facts : joinedFacts Tryz.checked.prog 6 Tryz.f6 Rows.playedSpec Rows.playedRow = true := by
  unfold joinedFacts
  rw [fact_wf, fact_laid, fact_maps, fact_place, fact_unf, fact_rec, fact_named, fact_heard, fact_enter, fact_lift]
  kernel_rfl

theorem over : Rows.playedRow.holds Tryz.pinned (OpenSpec.ofChange Rows.playedSpec) :=
  OpenClaim.holds_of_wide 6 Tryz.f6 rfl rfl rfl rfl rfl rfl rfl ⟨rfl, rfl, rfl, rfl, rfl⟩ rfl rfl rfl rfl rfl (by kernel_rfl) Tryz.func6 facts
    (of_decide_eq_true (by kernel_rfl)) (by unfold Func.isWrapper; first | (rw [if_pos (by decide +kernel)]; kernel_rfl) | (rw [if_neg (by decide +kernel)]; exact ⟨rfl, rfl⟩))
    (fun os started H enc _ => lifted os started H enc)

theorem played_holds : Rows.PlayedCardSaid :=
  Claim7.holds_tied_plain_at .later [] [.data, .data, .data, .data] true Rows.playedCard.stood.harness false
    over (fun _ h => by cases h) (by kernel_rfl) (fun _ h => by cases h) played_row_tie rfl ⟨rfl, rfl⟩ (by kernel_rfl) rfl
    (fun f fn hf hfn => by
      obtain rfl : f = 6 := Option.some.inj ((show Tryz.prog.funcNamed "unfold/unfoldlaw.Played" = some 6 by kernel_rfl).symm.trans hf) |>.symm
      obtain rfl : fn = Tryz.f6 := (Option.some.inj (Tryz.func6.symm.trans hfn)).symm
      exact ⟨by kernel_rfl, fun j t ht => by
        rw [Tryz.params6] at ht
        have hm : t ∈ [22] := by simpa using Array.mem_of_getElem? ht
        have hall : ([22].all fun u => !Tryz.prog.wantsStandIn u) = true := by kernel_rfl
        exact (show Tryz.prog.wantsStandIn t = false by simpa using List.all_eq_true.1 hall t hm)⟩)
    (by kernel_rfl)
#print axioms played_holds
end Go.Proofs.YtooinlilplecpaaGreatDoor
