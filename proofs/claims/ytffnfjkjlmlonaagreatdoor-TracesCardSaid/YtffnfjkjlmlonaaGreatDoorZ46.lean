/- Contracts of the developers' run.Behind and unfold.Run: they answer as the plain run does. Contracts of machine.Trace and unfold.Trace, whatever they are given. Contracts of the statement's own builds and step at a Trace. A script's steps opened: out of the reading of what came in, how each step and its program lie in memory; of no program beyond the types' own tables. -/
import Derived.Test.YtffnfjkjlmlonaaGreatDoorZ40
import Derived.Test.YtffnfjkjlmlonaaGreatDoorD11
import Derived.Test.YtffnfjkjlmlonaaGreatDoorZ45
import Derived.Test.YtffnfjkjlmlonaaGreatDoorZ44
import Derived.Test.YtffnfjkjlmlonaaGreatDoorZ33
import Derived.Test.YtffnfjkjlmlonaaGreatDoorZ27
import Derived.Test.YtffnfjkjlmlonaaGreatDoorZ2
import Derived.Deep.Slices
import Derived.SizedLaws
import Derived.ProofKit
namespace Go.Proofs.YtffnfjkjlmlonaaGreatDoor
open Go.RowKit

theorem strip_len (p : List FnD) : (strip p).length = p.length := by unfold strip; simp

/-- What is asked of run.Behind, and of unfold.Run. -/
def Answers (f : FuncId) : Prop := ∀ (pa : Option Addr) (pcap : Nat) (p : List FnD) (aa : Option Addr) (acap : Nat) (args : List Int) (n : Int) (w : World), RdP w pa p.length pcap p → Rd .i64 w aa args.length acap args → R64 n →
  Calls Tryz.prog f #[.agg #[.slice pa p.length pcap], .slice aa args.length acap, .int .i64 n] w fun e w' =>
    ∃ a cap, e = .returned (.tuple #[.agg #[.int .i64 (runS p args n).status, .int .i64 (runS p args n).value, .slice a (toldD p (runS p args n)).length cap], .int .i64 (runE p args n)]) ∧
      w'.ownsRow w.heap.size 107 3 (.slice a (toldD p (runS p args n)).length cap) (toldD p (runS p args n)).length ((toldD p (runS p args n)).map frCells).flatten ∧ Below w.heap.size w w'

set_option maxHeartbeats 4000000 in
set_option maxRecDepth 100000 in
theorem Behind_any : Answers 93 := by
  intro pa pcap p aa acap args n w hp ha hn
  have HNW := hid (fun (W : World) (hW : Below w.heap.size w W) => New_any pa pcap p aa acap args W (hp.below hW) (ha.below hW (Nat.le_refl _)))
  obtain ⟨hn1, hn2⟩ := hn
  obtain ⟨wb, hwb⟩ : ∃ wb, wb = (w.alloc (Obj.cells #[.slice pa p.length pcap] 44)).alloc (Obj.cells #[.int .i64 0, .int .i64 0, .slice none 0 0] 72) := ⟨_, rfl⟩
  have hbb : Below w.heap.size w wb := by rw [hwb]; exact ((Below.refl _ _).alloc (Nat.le_refl _) _).alloc (by simp) _
  have hbs : wb.heap.size = w.heap.size + 2 := by rw [hwb]; simp
  have k1 : wb.heap[w.heap.size + 1]? = some (.cells #[.int .i64 0, .int .i64 0, .slice none 0 0] 72 (0, 0)) := by rw [hwb]; exact heap_new_at (by simp)
  have HNB := hid (HNW.out wb hbb)
  have hE : runE p args n = if (chk p).1 ≠ 0 then (chk p).1 else if givenB p args = true ∧ 0 ≤ n ∧ n ≤ 2000 then 0 else 1 := rfl
  have hS : runS p args n = if runE p args n = 0 then runD p (begunD p args) n.toNat else ⟨0, 0, []⟩ := rfl
  obtain ⟨E, hE2⟩ : ∃ E, E = runE p args n := ⟨_, rfl⟩
  obtain ⟨R, hS2⟩ : ∃ R, R = runS p args n := ⟨_, rfl⟩
  rw [← hE2, ← hS2]
  rw [← hE2] at hE hS
  rw [← hS2] at hS
  clear hE2 hS2 HNW hp ha
  have HE := hid hE
  have HS := hid hS
  have HK1 := hid k1
  clear hE hS k1
  obtain ⟨pl, hpl2⟩ : ∃ v, v = p.length := ⟨_, rfl⟩
  obtain ⟨al, hal2⟩ : ∃ v, v = args.length := ⟨_, rfl⟩
  rw [← hpl2] at HNB hwb ⊢
  rw [← hal2] at HNB ⊢
  have HPL := hid hpl2
  have HAL := hid hal2
  clear hpl2 hal2
  go_enter Tryz.func93, Tryz.ntmps93
  go_wp2_with fail
  rw [← hwb]
  clear hwb
  refine HNB.out.mono ?_
  clear HNB
  rintro e w1 ⟨hb1, hcase⟩
  have hs1 := hb1.size
  have hbw1 := hbb.trans (hb1.mono hbb.size)
  have j1 := (hb1.block (w.heap.size + 1) (by omega)).trans HK1.out
  have x0 : w1.cell? ⟨w.heap.size + 1, 0, none⟩ = some (.int .i64 0) := by simp [World.cell?, j1]
  have x1 : w1.cell? ⟨w.heap.size + 1, 1, none⟩ = some (.int .i64 0) := by simp [World.cell?, j1]
  have x2 : w1.cell? ⟨w.heap.size + 1, 2, none⟩ = some (.slice none 0 0) := by simp [World.cell?, j1]
  have f0 : w1.frozen? ⟨w.heap.size + 1, 0, none⟩ = false := by simp [World.frozen?, j1]
  have f1 : w1.frozen? ⟨w.heap.size + 1, 1, none⟩ = false := by simp [World.frozen?, j1]
  have f2 : w1.frozen? ⟨w.heap.size + 1, 2, none⟩ = false := by simp [World.frozen?, j1]
  have lt1 : w.heap.size + 1 < w1.heap.size := by omega
  have hsw := hbw1.size
  rcases hcase with ⟨hc, rfl⟩ | ⟨hc, hgv, rfl⟩ | ⟨hc, hgv, qa, qcap, v, w0, rfl, hrp, hbw0, hb01, hrow⟩
  · have hE1 : E = (chk p).1 := by rw [HE.out, if_pos hc]
    have hS1 : R = ⟨0, 0, []⟩ := by rw [HS.out, if_neg (by rw [hE1]; exact hc)]
    rw [← hE1] at hc ⊢
    have hc' : (E != 0) = true := by simpa using hc
    subst hS1
    simp only [noRun]
    have HBE := hid (fun (A : Obj) => (below_boxed (bx := w.heap.size + 1) hbw1 (by omega) (.int .i64 0) (.int .i64 0) (.slice none 0 0)).alloc (by simp; omega) A)
    clear hE1 HE HS j1
    go_wp2
    exact bodyPost_ret (v := .tuple #[.agg #[.int .i64 0, .int .i64 0, .slice none 0 0], .int .i64 E]) (by simp [results, Tryz.results93, go_sem, x0, x1, x2, lt1]) rfl ⟨none, 0, rfl, World.ownsRow_nil _ _ _ _, HBE.out _⟩
  · have hE1 : E = 1 := by rw [HE.out, if_neg (by simpa using hc), if_neg (fun h => by rw [hgv] at h; cases h.1)]
    have hS1 : R = ⟨0, 0, []⟩ := by rw [HS.out, if_neg (by rw [hE1]; decide)]
    subst hS1
    subst hE1
    simp only [noRun]
    have HBE := hid (fun (A : Obj) => (below_boxed (bx := w.heap.size + 1) hbw1 (by omega) (.int .i64 0) (.int .i64 0) (.slice none 0 0)).alloc (by simp; omega) A)
    clear HE HS j1
    go_wp2
    exact bodyPost_ret (v := .tuple #[.agg #[.int .i64 0, .int .i64 0, .slice none 0 0], .int .i64 1]) (by simp [results, Tryz.results93, go_sem, x0, x1, x2, lt1]) rfl ⟨none, 0, rfl, World.ownsRow_nil _ _ _ _, HBE.out _⟩
  · obtain ⟨va, vc, rfl⟩ : ∃ va vc, v = .slice va 1 vc := by
      rcases hrow.2 with ⟨h1, h2⟩ | ⟨g, c', cur, h1, _⟩
      · omega
      · exact ⟨_, _, h1⟩
    have hg := good_of (chk_zero hc)
    have hgt := given_true hgv
    have hf0 := hg.fns 0 _ (fnAt_some (p := p) (n := 0) (by have := hg.len; omega))
    obtain ⟨w2, hw2⟩ : ∃ w2, w2 = w1.alloc (Obj.cells #[.slice qa pl qcap, .slice va 1 vc, .int .i64 0, .int .i64 0] 164) := ⟨_, rfl⟩
    have hb2 : Below w1.heap.size w1 w2 := by rw [hw2]; exact (Below.refl _ _).alloc (Nat.le_refl _) _
    have hs2 : w2.heap.size = w1.heap.size + 1 := by rw [hw2]; simp
    have hs01 := hb01.size
    have hR : RunAt ⟨164, [], fun _ => none⟩ w0 (strip p) w1.heap.size w2 (begunD (strip p) args) := by
      rw [begunD_strip]
      have hfl := hf0.locals
      have hfp := hf0.params
      have hfm : ((begunD p args).live.map frmCells).flatten = frmCells ⟨0, 0, args⟩ := by
        show (([(⟨0, 0, fillI args (fnAt p 0).locals.toNat args.length⟩ : LiveD)]).map frmCells).flatten = _
        simp only [List.map_cons, List.map_nil, List.flatten_cons, List.flatten_nil, List.append_nil]
        unfold frmCells
        dsimp only
        rw [pad8_fill (by have := hgt.1; omega) (by omega)]
      refine ⟨qa, qcap, .slice va 1 vc, ?_, ?_, hb01.trans (hb2.mono hs01), hs01, ?_, fun e => ?_, fun _ _ h => by cases h⟩
      · rw [hw2, strip_len, ← HPL.out]
        exact heap_new_at rfl
      · rw [strip_len, ← HPL.out]; exact hrp w0 (fun _ _ _ => rfl)
      · rw [hfm]
        exact ownsRow_below hrow hb2
      · have := (hrow.lt _ e).2
        omega
    by_cases hnn : 0 ≤ n ∧ n ≤ 2000
    · have hE1 : E = 0 := by rw [HE.out, if_neg (by simpa using hc), if_pos ⟨hgv, hnn⟩]
      have hS1 : R = runD p (begunD p args) n.toNat := by rw [HS.out, if_pos hE1]
      obtain ⟨nN, rfl⟩ : ∃ nN : Nat, n = (nN : Int) := ⟨n.toNat, by omega⟩
      have hS2 : R = runD (strip p) (begunD (strip p) args) nN := by rw [hS1, runD_strip, begunD_strip]; simp
      have hT : toldD p R = toldD (strip p) R := (toldD_strip p R).symm
      have HT := hid hT
      have hgs := good_strip hg
      have hwfs : Wf (strip p) (begunD (strip p) args) := wf_begun hgs (by rw [fnAt_strip]; exact hgt.1) hgt.2
      have HST := hid (Step_any _ w0 (strip p) w1.heap.size (begunD (strip p) args) nN w2 hgs hwfs hR (by omega))
      have HWR := hid (wf_run hgs hwfs nN)
      rw [← hS2] at HST HWR
      have HGS := hid hgs
      subst hE1
      have h1' : (nN : Int) ≤ 2000 := hnn.2
      clear hS1 hS2 hT hgs hwfs hR HE HS hgt hf0 hrow hrp hc hgv hg
      go_wp2_with fail
      rw [← hw2]
      refine HST.out.mono ?_
      clear HST hw2 x0 x1 x2 f0 f1 f2
      rintro e w3 ⟨rfl, hr3⟩
      have hb03 : Below w0.heap.size w0 w3 := by
        obtain ⟨_, _, _, _, _, h, _, _⟩ := hr3
        exact h
      have HSA := hid (State_any _ w0 (strip p) w1.heap.size R w3 HGS.out HWR.out hr3)
      have hs03 := hb03.size
      have hsb0 := hbw0.size
      have hbb3 := hbw0.trans (hb03.mono hsb0)
      have hs3 := hbb3.size
      clear hr3
      go_wp2_with fail
      refine HSA.out.mono ?_
      clear HSA
      rintro e w4 ⟨a, cap, rfl, how, hb4⟩
      have hbb4 := hbb3.trans (hb4.mono hs3)
      have hbw4 := hbb.trans (hbb4.mono hbb.size)
      have j4 := (hbb4.block (w.heap.size + 1) (by omega)).trans HK1.out
      have x0 : w4.cell? ⟨w.heap.size + 1, 0, none⟩ = some (.int .i64 0) := by simp [World.cell?, j4]
      have x1 : w4.cell? ⟨w.heap.size + 1, 1, none⟩ = some (.int .i64 0) := by simp [World.cell?, j4]
      have x2 : w4.cell? ⟨w.heap.size + 1, 2, none⟩ = some (.slice none 0 0) := by simp [World.cell?, j4]
      have f0 : w4.frozen? ⟨w.heap.size + 1, 0, none⟩ = false := by simp [World.frozen?, j4]
      have f1 : w4.frozen? ⟨w.heap.size + 1, 1, none⟩ = false := by simp [World.frozen?, j4]
      have f2 : w4.frozen? ⟨w.heap.size + 1, 2, none⟩ = false := by simp [World.frozen?, j4]
      obtain ⟨tl, htl⟩ : ∃ v, v = (toldD (strip p) R).length := ⟨_, rfl⟩
      rw [← htl] at how
      rw [← htl]
      have hne : (Value.slice a tl cap).ownBlock ≠ some (w.heap.size + 1) := fun e => by have := (how.lt _ e).1; omega
      have HBE := hid (below_boxed (bx := w.heap.size + 1) hbw4 (by omega) (.int .i64 R.status) (.int .i64 R.value) (.slice a tl cap))
      have h3 := ownsRow_setCell_other (ownsRow_setCell_other (ownsRow_setCell_other how (a := ⟨w.heap.size + 1, 0, none⟩) hne (.int .i64 R.status)) (a := ⟨w.heap.size + 1, 1, none⟩) hne (.int .i64 R.value)) (a := ⟨w.heap.size + 1, 2, none⟩) hne (.slice a tl cap)
      have HOW := hid (owns_lower h3 (base' := w.heap.size) (by omega))
      have HTL := hid htl
      clear how h3 j4 htl
      go_wp2
      exact bodyPost_ret (v := .tuple #[.agg #[.int .i64 R.status, .int .i64 R.value, .slice a tl cap], .int .i64 0]) (by simp [results, Tryz.results93, go_sem, x0, x1, x2]) rfl ⟨a, cap, by rw [HT.out, ← HTL.out], by rw [HT.out, ← HTL.out]; exact HOW.out, HBE.out⟩
    · have hE1 : E = 1 := by rw [HE.out, if_neg (by simpa using hc), if_neg (fun h => hnn h.2)]
      have hS1 : R = ⟨0, 0, []⟩ := by rw [HS.out, if_neg (by rw [hE1]; decide)]
      subst hS1
      subst hE1
      have HBE := hid (fun (A : Obj) => (below_boxed (bx := w.heap.size + 1) hbw1 (by omega) (.int .i64 0) (.int .i64 0) (.slice none 0 0)).alloc (by simp; omega) A)
      clear HE HS j1 hw2 hR hgt hf0 hrow hrp hc hgv hg hb2
      have HSB := hid (fun (W : World) => Step_bad w1.heap.size n W hnn)
      go_wp2_with fail
      refine (HSB.out _).mono ?_
      rintro e w3 ⟨rfl, rfl⟩
      go_wp2
      exact bodyPost_ret (v := .tuple #[.agg #[.int .i64 0, .int .i64 0, .slice none 0 0], .int .i64 1]) (by simp [results, Tryz.results93, go_sem, x0, x1, x2, lt1]) rfl ⟨none, 0, rfl, World.ownsRow_nil _ _ _ _, HBE.out _⟩

set_option maxHeartbeats 4000000 in
set_option maxRecDepth 100000 in
theorem run_answers : Answers 45 := by
  intro pa pcap p aa acap args n w hp ha hn
  have HB := hid (fun (W : World) (hW : Below w.heap.size w W) => Behind_any pa pcap p aa acap args n W (hp.below hW) (ha.below hW (Nat.le_refl _)) hn)
  obtain ⟨wb, hwb⟩ : ∃ wb, wb = (w.alloc (Obj.cells #[.slice pa p.length pcap] 44)).alloc (Obj.cells #[.int .i64 0, .int .i64 0, .slice none 0 0] 72) := ⟨_, rfl⟩
  have hbb : Below w.heap.size w wb := by rw [hwb]; exact ((Below.refl _ _).alloc (Nat.le_refl _) _).alloc (by simp) _
  have hbs : wb.heap.size = w.heap.size + 2 := by rw [hwb]; simp
  have k1 : wb.heap[w.heap.size + 1]? = some (.cells #[.int .i64 0, .int .i64 0, .slice none 0 0] 72 (0, 0)) := by rw [hwb]; exact heap_new_at (by simp)
  have HBB := hid (HB.out wb hbb)
  clear HB hp ha
  generalize runE p args n = E at *
  generalize runS p args n = R at *
  generalize toldD p R = fr at *
  obtain ⟨tl, htl⟩ : ∃ v, v = fr.length := ⟨_, rfl⟩
  rw [← htl] at HBB ⊢
  have HK1 := hid k1
  generalize p.length = pl at *
  generalize args.length = al at *
  clear k1 htl
  go_enter Tryz.func45, Tryz.ntmps45
  go_wp2_with fail
  rw [← hwb]
  clear hwb
  refine HBB.out.mono ?_
  clear HBB
  rintro e w4 ⟨a, cap, rfl, how, hb4⟩
  have hbw4 := hbb.trans (hb4.mono hbb.size)
  have j4 := (hb4.block (w.heap.size + 1) (by omega)).trans HK1.out
  have x0 : w4.cell? ⟨w.heap.size + 1, 0, none⟩ = some (.int .i64 0) := by simp [World.cell?, j4]
  have x1 : w4.cell? ⟨w.heap.size + 1, 1, none⟩ = some (.int .i64 0) := by simp [World.cell?, j4]
  have x2 : w4.cell? ⟨w.heap.size + 1, 2, none⟩ = some (.slice none 0 0) := by simp [World.cell?, j4]
  have f0 : w4.frozen? ⟨w.heap.size + 1, 0, none⟩ = false := by simp [World.frozen?, j4]
  have f1 : w4.frozen? ⟨w.heap.size + 1, 1, none⟩ = false := by simp [World.frozen?, j4]
  have f2 : w4.frozen? ⟨w.heap.size + 1, 2, none⟩ = false := by simp [World.frozen?, j4]
  have hne : (Value.slice a tl cap).ownBlock ≠ some (w.heap.size + 1) := fun e => by have := (how.lt _ e).1; omega
  have HBE := hid (below_boxed (bx := w.heap.size + 1) hbw4 (by omega) (.int .i64 R.status) (.int .i64 R.value) (.slice a tl cap))
  have h3 := ownsRow_setCell_other (ownsRow_setCell_other (ownsRow_setCell_other how (a := ⟨w.heap.size + 1, 0, none⟩) hne (.int .i64 R.status)) (a := ⟨w.heap.size + 1, 1, none⟩) hne (.int .i64 R.value)) (a := ⟨w.heap.size + 1, 2, none⟩) hne (.slice a tl cap)
  have HOW := hid (owns_lower h3 (base' := w.heap.size) (by omega))
  clear how h3 j4
  go_wp2
  exact bodyPost_ret (v := .tuple #[.agg #[.int .i64 R.status, .int .i64 R.value, .slice a tl cap], .int .i64 E]) (by simp [results, Tryz.results45, go_sem, x0, x1, x2]) rfl ⟨a, cap, rfl, HOW.out, HBE.out⟩

theorem run_gives : RunGives := run_answers
end Go.Proofs.YtffnfjkjlmlonaaGreatDoor
namespace Go.Proofs.YtffnfjkjlmlonaaGreatDoor
open Go.RowKit

theorem rdF_own5 {w : World} {base : Nat} {a : Option Addr} {cap : Nat} {fr : List FrameD} (h : w.ownsRow base 107 3 (.slice a fr.length cap) fr.length (fr.map frCells).flatten) : RdL 3 RdFrame w a fr.length cap fr := by
  obtain ⟨a', cap', e, hr⟩ := rdFrame_of_owns h rfl
  cases e
  exact hr

set_option maxHeartbeats 4000000 in
set_option maxRecDepth 100000 in
theorem mTraceG_any (pa : Option Addr) (pcap : Nat) (p : List FnD) (bud : Int) (aa : Option Addr) (acap : Nat) (args : List Int) (n : Int) (w : World) (hp : RdP w pa p.length pcap p) (ha : Rd .i64 w aa args.length acap args) (hn : R64 n) (hb : R64 bud) (ht : Tab w) :
    Calls Tryz.prog 116 #[.agg #[.slice pa p.length pcap], .int .i64 bud, .slice aa args.length acap, .int .i64 n] w fun e w' =>
      e = .returned (.tuple #[.string (trS p bud args n), .int .i64 (trE p bud args n)]) ∧ Below w.heap.size w w' := by
  obtain ⟨wA, hwA⟩ : ∃ v, v = w.alloc (Obj.cells #[.slice pa p.length pcap] 44) := ⟨_, rfl⟩
  have hbA : Below w.heap.size w wA := by rw [hwA]; exact (Below.refl _ _).alloc (Nat.le_refl _) _
  have hsA : wA.heap.size = w.heap.size + 1 := by rw [hwA]; simp
  have kA : wA.heap[w.heap.size]? = some (.cells #[.slice pa p.length pcap] 44 (0, 0)) := by rw [hwA]; exact heap_new_at rfl
  have HRUN := hid (Behind_any pa pcap p aa acap args n wA (hp.below hbA) (ha.below hbA (Nat.le_refl _)) hn)
  have HLAY := hid (fun (W : World) (hW : Below w.heap.size w W) => Lay_any pa pcap p bud W (hp.below hW) hb)
  have HT := hid ht
  have HKA := hid kA
  have HBA := hid hbA
  obtain ⟨E, hE⟩ : ∃ v, v = trE p bud args n := ⟨_, rfl⟩
  obtain ⟨S, hS⟩ : ∃ v, v = trS p bud args n := ⟨_, rfl⟩
  rw [← hE, ← hS]
  have HE : Hid (E = if runE p args n ≠ 0 then runE p args n else layE p bud) := hid hE
  have HS : Hid (S = if E = 0 then strOfNums (printD (toldD p (runD p (begunD p args) n.toNat))) else strOfNums []) := hid (by rw [hS, hE]; rfl)
  have HOKF : Hid (runE p args n = 0 → (∀ f ∈ toldD p (runS p args n), FrOk f) ∧ (toldD p (runS p args n)).length ≤ 20 ∧ runS p args n = runD p (begunD p args) n.toNat) := hid (fun h0 => by
    have hS : runS p args n = runD p (begunD p args) n.toNat := by unfold runS; rw [if_pos h0]
    unfold runE at h0
    have hc : (chk p).1 = 0 := Decidable.byContradiction fun h => by rw [if_pos h] at h0; exact h h0
    rw [if_neg (by simpa using hc)] at h0
    have hgv : givenB p args = true ∧ 0 ≤ n ∧ n ≤ 2000 := Decidable.byContradiction fun h => by rw [if_neg h] at h0; cases h0
    have hck := chk_zero hc
    obtain ⟨hga, hgv2⟩ := given_true hgv.1
    have hwf := wf_run (good_of hck) (wf_begun (good_of hck) hga hgv2) n.toNat
    rw [hS]
    exact ⟨told_ok2 hck hwf, by have := hwf.len; unfold toldD; simpa using this, rfl⟩)
  generalize hfr : toldD p (runS p args n) = fr at *
  generalize hsN : runS p args n = sN at *
  generalize runE p args n = re at *
  have HSN : Hid (re = 0 → toldD p (runD p (begunD p args) n.toNat) = fr) := hid (fun h => by rw [← (HOKF.out h).2.2, hfr])
  generalize toldD p (runD p (begunD p args) n.toNat) = fr2 at *
  generalize layE p bud = le at *
  generalize p.length = pl at *
  generalize args.length = al at *
  clear hE hS hp ha ht kA hbA hfr hsN
  go_enter Tryz.func116, Tryz.ntmps116
  go_wp2_with fail
  rw [← hwA]
  clear hwA
  refine HRUN.out.mono ?_
  rintro e w1 ⟨fa, fcap, rfl, hfo, hb1⟩
  have hs1 := hb1.size
  obtain ⟨w2, hw2⟩ : ∃ v, v = w1.alloc (Obj.cells #[.int .i64 sN.status, .int .i64 sN.value, .slice fa fr.length fcap] 72) := ⟨_, rfl⟩
  have hb2 : Below w1.heap.size w1 w2 := by rw [hw2]; exact (Below.refl _ _).alloc (Nat.le_refl _) _
  have hs2 : w2.heap.size = w1.heap.size + 1 := by rw [hw2]; simp
  have k2 : w2.heap[w1.heap.size]? = some (.cells #[.int .i64 sN.status, .int .i64 sN.value, .slice fa fr.length fcap] 72 (0, 0)) := by rw [hw2]; exact heap_new_at rfl
  have hbA2 : Below wA.heap.size wA w2 := hb1.trans (hb2.mono hs1)
  have kA1 := (hb1.block w.heap.size (by omega)).trans HKA.out
  have p1 : w1.cell? ⟨w.heap.size, 0, none⟩ = some (.slice pa pl pcap) := by simp [World.cell?, kA1]
  have hlt : w.heap.size < w1.heap.size := by omega
  have hbw2 : Below w.heap.size w w2 := HBA.out.trans (hbA2.mono HBA.out.size)
  have HLY := hid (HLAY.out w2 hbw2)
  have HFR2 := hid (rdF_own5 (ownsRow_below hfo hb2))
  have HBW2 := hid hbw2
  have HK2 := hid k2
  clear hfo hb1 hb2 k2 hbA2 kA1 hbw2 HRUN HLAY
  by_cases hre : re = 0
  · subst hre
    obtain ⟨hok, h20, -⟩ := HOKF.out rfl
    have hf2 := HSN.out rfl
    subst hf2
    have HOK := hid hok
    have HFL := hid h20
    have HE2 : Hid (E = le) := hid (by rw [HE.out]; simp)
    clear HOKF HSN hok h20 HE
    go_wp2_with fail
    rw [← hw2]
    clear hw2 p1
    refine HLY.out.mono ?_
    rintro e w3 ⟨hb3, hcase⟩
    have HB3 := hid hb3
    rcases hcase with ⟨h, rfl⟩ | ⟨h, cs, ca, ccap, -, rfl, -⟩
    · have hle : (le != 0) = true := by simpa using h
      have hs : S = strOfNums [] := by rw [HS.out, if_neg (by rw [HE2.out]; exact h)]
      have he := HE2.out
      subst he
      subst hs
      have HF := hid (HBW2.out.trans (hb3.mono HBW2.out.size))
      clear hb3 HB3 HS HE2 HLY
      go_wp2
      exact bodyPost_ret (v := .tuple #[.string ⟨#[]⟩, .int .i64 E]) (by simp [results, Tryz.results116, go_sem]) rfl ⟨rfl, HF.out⟩
    · subst h
      have he := HE2.out
      subst he
      have hs : S = strOfNums (printD fr2) := by rw [HS.out, if_pos rfl]
      subst hs
      have hs3 := hb3.size
      have k3 := (hb3.block w1.heap.size (by omega)).trans HK2.out
      have z3 : w3.cell? ⟨w1.heap.size, 2, none⟩ = some (.slice fa fr2.length fcap) := by simp [World.cell?, k3]
      have hbw3 : Below w.heap.size w w3 := HBW2.out.trans (hb3.mono HBW2.out.size)
      have HPR := hid (fPrint_any fa fcap fr2 w3 (HFR2.out.below hb3 (fun _ _ h => h)) HOK.out HFL.out (HT.out.below hbw3))
      have HBW3 := hid hbw3
      clear hb3 k3 hbw3 HLY HFR2 HB3 HS HE2
      go_wp2_with fail
      refine HPR.out.mono ?_
      rintro e w4 ⟨rfl, hb4⟩
      have HF := hid (HBW3.out.trans (hb4.mono HBW3.out.size))
      clear hb4
      go_wp2
      exact bodyPost_ret (v := .tuple #[.string (strOfNums (printD fr2)), .int .i64 0]) (by simp [results, Tryz.results116, go_sem]) rfl ⟨rfl, HF.out⟩
  · have hre' : (re != 0) = true := by simpa using hre
    have he : E = re := by rw [HE.out, if_pos hre]
    have hs : S = strOfNums [] := by rw [HS.out, if_neg (by rw [he]; exact hre)]
    subst he
    subst hs
    clear HOKF HSN HE HS HLY
    go_wp2
    rw [← hw2]
    exact bodyPost_ret (v := .tuple #[.string ⟨#[]⟩, .int .i64 E]) (by simp [results, Tryz.results116, go_sem]) rfl ⟨rfl, HBW2.out⟩

set_option maxHeartbeats 4000000 in
set_option maxRecDepth 100000 in
theorem uTraceG_any (pa : Option Addr) (pcap : Nat) (p : List FnD) (bud : Int) (aa : Option Addr) (acap : Nat) (args : List Int) (n : Int) (w : World) (hp : RdP w pa p.length pcap p) (ha : Rd .i64 w aa args.length acap args) (hn : R64 n) (hb : R64 bud) (ht : Tab w) :
    Calls Tryz.prog 65 #[.agg #[.slice pa p.length pcap], .int .i64 bud, .slice aa args.length acap, .int .i64 n] w fun e w' =>
      e = .returned (.tuple #[.string (trS p bud args n), .int .i64 (trE p bud args n)]) ∧ Below w.heap.size w w' := by
  obtain ⟨wA, hwA⟩ : ∃ v, v = w.alloc (Obj.cells #[.slice pa p.length pcap] 44) := ⟨_, rfl⟩
  have hbA : Below w.heap.size w wA := by rw [hwA]; exact (Below.refl _ _).alloc (Nat.le_refl _) _
  have HM := hid (mTraceG_any pa pcap p bud aa acap args n wA (hp.below hbA) (ha.below hbA (Nat.le_refl _)) hn hb (ht.below hbA))
  have HBA := hid hbA
  generalize trS p bud args n = str at *
  generalize trE p bud args n = E at *
  generalize p.length = pl at *
  generalize args.length = al at *
  clear hp ha ht hbA
  go_enter Tryz.func65, Tryz.ntmps65
  go_wp2_with fail
  rw [← hwA]
  clear hwA
  refine HM.out.mono ?_
  rintro e w1 ⟨rfl, hb1⟩
  have HF := hid (HBA.out.trans (hb1.mono HBA.out.size))
  clear hb1
  go_wp2
  exact bodyPost_ret (v := .tuple #[.string str, .int .i64 E]) (by simp [results, Tryz.results65, go_sem]) rfl ⟨rfl, HF.out⟩
end Go.Proofs.YtffnfjkjlmlonaaGreatDoor
namespace Go.Proofs.YtffnfjkjlmlonaaGreatDoor
open Go.RowKit

set_option maxHeartbeats 4000000 in
set_option maxRecDepth 100000 in
theorem builds_trace (r : Value) (n m : Int) (la : Option Addr) (lcap : Nat) (l : List Int) (v4 v5 v6 v7 : Value) (a : Option Addr) (cap : Nat) (p : List FnD) (w : World) (hr : RdP w a p.length cap p) (hl : Rd .i64 w la l.length lcap l) (hn : R64 n) (hm : R64 m)
    (hlen : p.length ≤ 2199023255552) (hll : l.length ≤ 17592186044416) (hbody : ∀ x ∈ p, x.body.length ≤ 2199023255552 ∧ ∀ o ∈ x.body, o.args.length ≤ 17592186044416) (ht : Tab w) :
    Calls Tryz.prog 16 #[r, .agg #[.int .i64 17, .int .i64 n, .int .i64 m, .slice la l.length lcap, v4, v5, v6, v7, .slice a p.length cap]] w fun e w' => e = .returned (.bool true) ∧ Below w.heap.size w w' := by
  have hnames : ∀ x ∈ p, x.name.size ≤ maxLen ∧ x.file.size ≤ maxLen := by
    intro x hx
    obtain ⟨i, hi⟩ := List.mem_iff_getElem?.1 hx
    obtain ⟨_, _, _, _, _, _, _, _, _, _, _, _, h1, h2⟩ := hr.at i x hi
    exact ⟨h1, h2⟩
  obtain ⟨w1, hw1⟩ : ∃ v, v = w.alloc (Obj.cells #[.int .i64 17, .int .i64 n, .int .i64 m, .slice la l.length lcap, v4, v5, v6, v7, .slice a p.length cap] 46) := ⟨_, rfl⟩
  have hb1 : Below w.heap.size w w1 := by rw [hw1]; exact (Below.refl _ _).alloc (Nat.le_refl _) _
  have hs1 : w1.heap.size = w.heap.size + 1 := by rw [hw1]; simp
  have k1 : w1.heap[w.heap.size]? = some (.cells #[.int .i64 17, .int .i64 n, .int .i64 m, .slice la l.length lcap, v4, v5, v6, v7, .slice a p.length cap] 46 (0, 0)) := by rw [hw1]; exact heap_alloc_new _ _
  have hr1 := hr.below hb1
  have hl1 := hl.below hb1 (Nat.le_refl _)
  have HPO := hid (programOf_any a cap p w1 hr1 hlen hbody)
  have HPS := hid (fun (W : World) (g : Nat) (h : HdP W w1.heap.size w1 a p g) (hW : Below w1.heap.size w1 W) => programStill_any w1.heap.size w1 g p a cap W h (hr1.below hW) hW hlen hbody)
  have HIO := hid (fun (W : World) (hW : Below w1.heap.size w1 W) => intsOf_any la l.length lcap l W (hl1.below hW (Nat.le_refl _)) hll)
  have HIS := hid (fun (W : World) (base : Nat) (hv : Value) (hh : HdI W base la l hv) (hW : Below w1.heap.size w1 W) => intsStill_any base la l.length lcap l hv W hh (hl1.below hW (Nat.le_refl _)) hll)
  have HTR := hid (fun (W : World) (g : Nat) (ha : Option Addr) (hcap : Nat) (h : HdP W w1.heap.size w1 a p g) (hrd : Rd .i64 W ha l.length hcap l) (hW : Below w.heap.size w W) => uTraceG_any (some ⟨g, 0, none⟩) (p.length + 8) p m ha hcap l n W (h.read hnames) hrd hn hm (ht.below hW))
  have HRT := hid (fun (W : World) (hW : Below w1.heap.size w1 W) => refTrace_any a cap p m la lcap l n W (hr1.below hW) (hl1.below hW (Nat.le_refl _)) hn)
  have HREAD := hid (fun (W : World) (base : Nat) (hv : Value) (hh : HdI W base la l hv) => hh.read)
  have HK1 := hid k1
  have HB1 := hid hb1
  generalize trS p m l n = str at *
  generalize trE p m l n = E at *
  generalize p.length = pl at *
  generalize l.length = ll at *
  clear hr hl hr1 hl1 hnames hbody ht k1 hb1 hn hm
  go_enter Tryz.func16, Tryz.ntmps16
  go_wp2_with fail
  rw [← hw1]
  clear hw1
  refine HPO.out.mono ?_
  rintro e w2 ⟨g, rfl, hh2, hb2⟩
  have hs2 := hb2.size
  obtain ⟨w3, hw3⟩ : ∃ v, v = w2.alloc (Obj.cells #[.slice (some ⟨g, 0, none⟩) pl (pl + 8)] 44) := ⟨_, rfl⟩
  have hb3 : Below w2.heap.size w2 w3 := by rw [hw3]; exact (Below.refl _ _).alloc (Nat.le_refl _) _
  have hs3 : w3.heap.size = w2.heap.size + 1 := by rw [hw3]; simp
  have k3 : w3.heap[w2.heap.size]? = some (.cells #[.slice (some ⟨g, 0, none⟩) pl (pl + 8)] 44 (0, 0)) := by rw [hw3]; exact heap_alloc_new _ _
  have hb13 : Below w1.heap.size w1 w3 := hb2.trans (hb3.mono hs2)
  have o2 := (hb2.block w.heap.size (by omega)).trans HK1.out
  have q0 : w2.cell? ⟨w.heap.size, 0, none⟩ = some (.int .i64 17) := by simp [World.cell?, o2]
  have q3 : w2.cell? ⟨w.heap.size, 3, none⟩ = some (.slice la ll lcap) := by simp [World.cell?, o2]
  have lt2 : w.heap.size < w2.heap.size := by omega
  have HI := hid (HIO.out w3 hb13)
  have HH3 := hid (hh2.below hb3)
  have HB13 := hid hb13
  have HK3 := hid k3
  clear hh2 hb2 hb3 hb13 k3 o2 HPO HIO
  go_wp2_with fail
  rw [← hw3]
  clear hw3 q0 q3
  refine HI.out.mono ?_
  rintro e w4 ⟨hv, rfl, hi4, hb4⟩
  have hs4 := hb4.size
  obtain ⟨ha, hcap, rfl, hrd4⟩ := HREAD.out w4 _ hv hi4
  have hhc1 := hrd4.hcap
  have hhc2 := hrd4.hmax
  unfold maxLen at hhc2
  have hb14 : Below w1.heap.size w1 w4 := HB13.out.trans (hb4.mono (by omega))
  have hbw4 : Below w.heap.size w w4 := HB1.out.trans (hb14.mono (by omega))
  have hh4 := HH3.out.below hb4
  have HT4 := hid (HTR.out w4 g ha hcap hh4 hrd4 hbw4)
  have k4 := (hb4.block w2.heap.size (by omega)).trans HK3.out
  have o4 := (hb14.block w.heap.size (by omega)).trans HK1.out
  have p4 : w4.cell? ⟨w2.heap.size, 0, none⟩ = some (.slice (some ⟨g, 0, none⟩) pl (pl + 8)) := by simp [World.cell?, k4]
  have m4 : w4.cell? ⟨w.heap.size, 2, none⟩ = some (.int .i64 m) := by simp [World.cell?, o4]
  have n4 : w4.cell? ⟨w.heap.size, 1, none⟩ = some (.int .i64 n) := by simp [World.cell?, o4]
  have lt4 : w.heap.size < w4.heap.size := by omega
  have lt4b : w2.heap.size < w4.heap.size := by omega
  have HH4 := hid hh4
  have HI4 := hid hi4
  have HB14 := hid hb14
  have HK4 := hid k4
  have HO4 := hid o4
  clear hi4 hb4 hrd4 hb14 hbw4 hh4 k4 o4 HI HTR HREAD
  go_wp2_with fail
  refine HT4.out.mono ?_
  rintro e w5 ⟨rfl, hb5⟩
  have hs5 := hb5.size
  have hb15 : Below w1.heap.size w1 w5 := HB14.out.trans (hb5.mono (by omega))
  have k5 := (hb5.block w2.heap.size (by omega)).trans HK4.out
  have o5 := (hb5.block w.heap.size (by omega)).trans HO4.out
  have p5 : w5.cell? ⟨w2.heap.size, 0, none⟩ = some (.slice (some ⟨g, 0, none⟩) pl (pl + 8)) := by simp [World.cell?, k5]
  have q5 : w5.cell? ⟨w.heap.size, 8, none⟩ = some (.slice a pl cap) := by simp [World.cell?, o5]
  have lt5 : w.heap.size < w5.heap.size := by omega
  have lt5b : w2.heap.size < w5.heap.size := by omega
  have HP5 := hid (HPS.out w5 g (HH4.out.below hb5) hb15)
  have HI5 := hid (HI4.out.below hb5)
  have HB15 := hid hb15
  have HO5 := hid o5
  clear hb5 hb15 k5 o5 p4 m4 n4 HT4 HPS HI4
  go_wp2_with fail
  clear p5 q5
  refine HP5.out.mono ?_
  rintro e w6 ⟨rfl, hb6⟩
  have hs6 := hb6.size
  have hb16 : Below w1.heap.size w1 w6 := HB15.out.trans (hb6.mono (by omega))
  have o6 := (hb6.block w.heap.size (by omega)).trans HO5.out
  have q6 : w6.cell? ⟨w.heap.size, 3, none⟩ = some (.slice la ll lcap) := by simp [World.cell?, o6]
  have lt6 : w.heap.size < w6.heap.size := by omega
  have HIS6 := hid (HIS.out w6 _ _ (HI5.out.below hb6) hb16)
  have HB16 := hid hb16
  have HO6 := hid o6
  clear hb6 hb16 o6 HP5 HIS HI5
  go_wp2_with fail
  clear q6
  refine HIS6.out.mono ?_
  rintro e w7 ⟨rfl, hb7⟩
  have hs7 := hb7.size
  have hb17 : Below w1.heap.size w1 w7 := HB16.out.trans (hb7.mono (by omega))
  have o7 := (hb7.block w.heap.size (by omega)).trans HO6.out
  have a7 : w7.cell? ⟨w.heap.size, 8, none⟩ = some (.slice a pl cap) := by simp [World.cell?, o7]
  have b7 : w7.cell? ⟨w.heap.size, 2, none⟩ = some (.int .i64 m) := by simp [World.cell?, o7]
  have c7 : w7.cell? ⟨w.heap.size, 3, none⟩ = some (.slice la ll lcap) := by simp [World.cell?, o7]
  have d7 : w7.cell? ⟨w.heap.size, 1, none⟩ = some (.int .i64 n) := by simp [World.cell?, o7]
  have lt7 : w.heap.size < w7.heap.size := by omega
  have HR7 := hid (HRT.out w7 hb17)
  have HB17 := hid hb17
  clear hb7 hb17 o7 HIS6 HRT
  go_wp2_with fail
  clear a7 b7 c7 d7
  refine HR7.out.mono ?_
  rintro e w8 ⟨rfl, hb8⟩
  have HF := hid (HB1.out.trans ((HB17.out.trans (hb8.mono (by omega))).mono HB1.out.size))
  clear hb8 HR7
  go_wp2
  go_ret
  exact ⟨by simp, HF.out⟩

set_option maxHeartbeats 2000000 in
set_option maxRecDepth 100000 in
theorem step_trace (r : Value) (n m : Int) (la : Option Addr) (lcap : Nat) (l : List Int) (v4 v5 v6 v7 : Value) (a : Option Addr) (cap : Nat) (p : List FnD) (w : World) (hr : RdP w a p.length cap p) (hl : Rd .i64 w la l.length lcap l) (hn : R64 n) (hm : R64 m)
    (hlen : p.length ≤ 2199023255552) (hll : l.length ≤ 17592186044416) (hbody : ∀ x ∈ p, x.body.length ≤ 2199023255552 ∧ ∀ o ∈ x.body, o.args.length ≤ 17592186044416) (ht : Tab w) :
    Calls Tryz.prog 9 #[r, .agg #[.int .i64 17, .int .i64 n, .int .i64 m, .slice la l.length lcap, v4, v5, v6, v7, .slice a p.length cap]] w fun e w' => e = .returned (.bool true) ∧ Below w.heap.size w w' := by
  have HS := hid (fun (W : World) (hW : Below w.heap.size w W) => builds_trace r n m la lcap l v4 v5 v6 v7 a cap p W (hr.below hW) (hl.below hW (Nat.le_refl _)) hn hm hlen hll hbody (ht.below hW))
  clear hr hl hbody ht
  generalize p.length = pl at *
  generalize l.length = ll at *
  go_enter Tryz.func9, Tryz.ntmps9
  go_wp2_with fail
  refine (HS.out _ ((Below.refl _ _).alloc (Nat.le_refl _) _)).mono ?_
  rintro e w1 ⟨rfl, hb⟩
  go_wp2
  go_ret
  exact ⟨rfl, ((Below.refl _ _).alloc (Nat.le_refl _) _).trans (hb.mono (by simp))⟩
end Go.Proofs.YtffnfjkjlmlonaaGreatDoor
namespace Go.Proofs.YtffnfjkjlmlonaaGreatDoor
open Go.ChangeShapes Go.WideShapes Go.ChangeAt Go.RowKit

theorem weights_all {H : Type} {P : Program} {e : TypeId} : ∀ {l : List (DataW H)} {d : DataW H}, d ∈ l → ∀ k ∈ d.weights P e, k ∈ DataW.weightsAll P e l
  | [], _, h => by cases h
  | x :: r, d, h => by
    intro k hk
    unfold DataW.weightsAll
    rcases List.mem_cons.1 h with rfl | h
    · exact List.mem_append_left _ hk
    · exact List.mem_append_right _ (weights_all h k hk)

section
variable {H : Type} {enc : TypeId × Value → H} {P : Program} {w : World} {base : Nat} {spare : Nat → Bool} {held : Bool}

theorem weights_field {t : TypeId} {fs : Array Field} {parts : List (DataW H)} (ht : P.underlying t = some (.struct fs)) (hw : ∀ k ∈ (DataW.agg parts).weights P t, k ≤ reachBytes)
    {j : Nat} {f : Field} {d : DataW H} (hf : fs[j]? = some f) (hd : parts[j]? = some d) : ∀ k ∈ d.weights P f.type, k ≤ reachBytes := by
  intro k hk
  refine hw k ?_
  unfold DataW.weights
  rw [ht]
  exact DataW.weights_mem_each (j := j) (by simp [hf]) hd k hk

theorem spot_none {a : Addr} {v : Value} (h : w.cell? (a.add 0) = some v) : a.spot = none := by
  have := World.cell?_spot h
  unfold Addr.add at this
  split at this <;> simp_all

theorem add_none (b off i : Nat) : (⟨b, off, none⟩ : Addr).add i = ⟨b, off + i, none⟩ := by unfold Addr.add; split <;> simp_all

theorem open_RdL {α : Type} [Inhabited α] {t e : TypeId} {size : Nat} {R : World → List Value → α → Prop} {bnd : α → Prop} (ht : P.underlying t = some (.slice e)) (hs : P.cellsOf e = size) (hs0 : 0 < size)
    (hE : ∀ n cs x, DataW.trod enc P w base spare held n e cs = some x → (∀ k ∈ x.1.weights P e, k ≤ reachBytes) → ∃ o, R w cs o ∧ bnd o)
    {fuel : Nat} {cs : List Value} {x : DataW H × List MemPlace} (h : DataW.trod enc P w base spare held fuel t cs = some x) (hw : ∀ k ∈ x.1.weights P t, k ≤ reachBytes) :
    ∃ a cap l, cs = [.slice a l.length cap] ∧ RdL size R w a l.length cap l ∧ l.length * P.bytesOf e ≤ reachBytes ∧ ∀ o ∈ l, bnd o := by
  rcases Deep.open_slice ht h with ⟨rfl, rfl⟩ | ⟨a, len, cap, m, n, D, Pl, rfl, hb, hl, hm, hmm, rfl, hel⟩
  · exact ⟨none, 0, [], rfl, ⟨rfl, Nat.le_refl _, by unfold maxLen; omega, fun i x hx => by simp at hx⟩, by simp, fun o ho => by cases ho⟩
  · have hlm : len ≤ m := by rw [hmm]; split <;> omega
    unfold DataW.weights at hw
    rw [ht] at hw
    simp only [List.mem_cons, List.mem_append, List.length_map, List.length_range] at hw
    have hlen : len * P.bytesOf e ≤ reachBytes := Nat.le_trans (Nat.mul_le_mul_right _ (Nat.le_add_right _ _)) (hw _ (.inl rfl))
    have hall : ∀ i, i < len → ∃ o cs', (w.cells? base (a.add (i * P.cellsOf e)) (P.cellsOf e) = some cs') ∧ R w cs' o ∧ bnd o := by
      intro i hi
      obtain ⟨cs', h1, h2⟩ := hel i (by omega)
      obtain ⟨o, h3, h4⟩ := hE n cs' _ h2 (fun k hk => hw k (.inr (.inl (weights_all (List.mem_map.2 ⟨i, List.mem_range.2 hi, rfl⟩) k hk))))
      exact ⟨o, cs', h1, h3, h4⟩
    obtain ⟨f, hf⟩ := Deep.choose_lt hall
    refine ⟨some a, cap, (List.range len).map f, by simp, ⟨rfl, by simpa using hl, hm, fun i x hx => ?_⟩, by simpa using hlen, fun o ho => ?_⟩
    · have hi : i < len := by
        have := (List.getElem?_eq_some_iff.1 hx).1
        simpa using this
      obtain rfl : f i = x := by simpa [hi] using hx
      obtain ⟨cs', h1, h2, _⟩ := hf i hi
      rw [hs] at h1
      obtain ⟨_, g2, g3⟩ := World.cells?_some h1
      obtain ⟨b, off, spot⟩ := a
      have hcell : ∀ j v, cs'[j]? = some v → w.cell? (((⟨b, off, spot⟩ : Addr).add (i * size)).add j) = some v := by
        intro j v hv
        have hj := (List.getElem?_eq_some_iff.1 hv).1
        exact (g3 j (by omega)).trans hv
      have hsp : spot = none := by
        obtain ⟨cs0, k1, _, _⟩ := hf 0 (by omega)
        rw [hs] at k1
        obtain ⟨_, k2, k3⟩ := World.cells?_some k1
        have := (k3 0 hs0).trans (List.getElem?_eq_getElem (by omega))
        rw [Deep.add_add, Nat.zero_mul] at this
        exact spot_none this
      subst hsp
      refine ⟨b, off, cs', rfl, g2, fun j v hv => ?_, h2⟩
      have := hcell j v hv
      rw [add_none, add_none] at this
      exact this
    · obtain ⟨i, hi, rfl⟩ := List.mem_map.1 ho
      obtain ⟨_, _, _, h4⟩ := hf i (List.mem_range.1 hi)
      exact h4

end
end Go.Proofs.YtffnfjkjlmlonaaGreatDoor
