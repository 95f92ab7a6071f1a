/- Contracts of the statement's own write and source at a Run, where lists of frames have come out, out of a contract of unfold.Run that is taken as a premise. Contracts of the developers' run.Behind and unfold.Run: they answer as the plain run does. Programs of at most three functions, of at most eight ops, whose Calls are of later functions alone: by the greatest budget their code is not too much; their pcs. Nothing is claimed of the program here. The contract of the statement's agrees, where the machine stands as the run. -/
import Derived.Test.YthaganponmnanaaGreatDoorZ44
import Derived.Test.YthaganponmnanaaGreatDoorZ24
import Derived.Test.YthaganponmnanaaGreatDoorZ32
import Derived.Test.YthaganponmnanaaGreatDoorD11
import Derived.Test.YthaganponmnanaaGreatDoorZ42
import Derived.Test.YthaganponmnanaaGreatDoorZ43
import Derived.Test.YthaganponmnanaaGreatDoorZ39
import Derived.Test.YthaganponmnanaaGreatDoorZ18
namespace Go.Proofs.YthaganponmnanaaGreatDoor
open Go.RowKit

/-- What is asked of unfold.Run: the plain answer, its frames in a list of their own; nothing that was there is written. -/
def RunGives : Prop := ∀ (pa : Option Addr) (pcap : Nat) (p : List FnD) (aa : Option Addr) (acap : Nat) (args : List Int) (n : Int) (w : World), RdP w pa p.length pcap p → Rd .i64 w aa args.length acap args → R64 n →
  Calls Tryz.prog 14 #[.agg #[.slice pa p.length pcap], .slice aa args.length acap, .int .i64 n] w fun e w' =>
    ∃ a cap, e = .returned (.tuple #[.agg #[.int .i64 (runS p args n).status, .int .i64 (runS p args n).value, .slice a (toldD p (runS p args n)).length cap], .int .i64 (runE p args n)]) ∧
      w'.ownsRow w.heap.size 77 3 (.slice a (toldD p (runS p args n)).length cap) (toldD p (runS p args n)).length ((toldD p (runS p args n)).map frCells).flatten ∧ Below w.heap.size w w'

end Go.Proofs.YthaganponmnanaaGreatDoor
namespace Go.Proofs.YthaganponmnanaaGreatDoor
open Go.RowKit

theorem strip_len (p : List FnD) : (strip p).length = p.length := by unfold strip; simp

/-- What is asked of run.Behind, and of unfold.Run. -/
def Answers (f : FuncId) : Prop := ∀ (pa : Option Addr) (pcap : Nat) (p : List FnD) (aa : Option Addr) (acap : Nat) (args : List Int) (n : Int) (w : World), RdP w pa p.length pcap p → Rd .i64 w aa args.length acap args → R64 n →
  Calls Tryz.prog f #[.agg #[.slice pa p.length pcap], .slice aa args.length acap, .int .i64 n] w fun e w' =>
    ∃ a cap, e = .returned (.tuple #[.agg #[.int .i64 (runS p args n).status, .int .i64 (runS p args n).value, .slice a (toldD p (runS p args n)).length cap], .int .i64 (runE p args n)]) ∧
      w'.ownsRow w.heap.size 77 3 (.slice a (toldD p (runS p args n)).length cap) (toldD p (runS p args n)).length ((toldD p (runS p args n)).map frCells).flatten ∧ Below w.heap.size w w'

set_option maxHeartbeats 4000000 in
set_option maxRecDepth 100000 in
theorem Behind_any : Answers 25 := by
  intro pa pcap p aa acap args n w hp ha hn
  have HNW := hid (fun (W : World) (hW : Below w.heap.size w W) => New_any pa pcap p aa acap args W (hp.below hW) (ha.below hW (Nat.le_refl _)))
  obtain ⟨hn1, hn2⟩ := hn
  obtain ⟨wb, hwb⟩ : ∃ wb, wb = (w.alloc (Obj.cells #[.slice pa p.length pcap] 24)).alloc (Obj.cells #[.int .i64 0, .int .i64 0, .slice none 0 0] 59) := ⟨_, rfl⟩
  have hbb : Below w.heap.size w wb := by rw [hwb]; exact ((Below.refl _ _).alloc (Nat.le_refl _) _).alloc (by simp) _
  have hbs : wb.heap.size = w.heap.size + 2 := by rw [hwb]; simp
  have k1 : wb.heap[w.heap.size + 1]? = some (.cells #[.int .i64 0, .int .i64 0, .slice none 0 0] 59 (0, 0)) := by rw [hwb]; exact heap_new_at (by simp)
  have HNB := hid (HNW.out wb hbb)
  have hE : runE p args n = if (chk p).1 ≠ 0 then (chk p).1 else if givenB p args = true ∧ 0 ≤ n ∧ n ≤ 2000 then 0 else 1 := rfl
  have hS : runS p args n = if runE p args n = 0 then runD p (begunD p args) n.toNat else ⟨0, 0, []⟩ := rfl
  obtain ⟨E, hE2⟩ : ∃ E, E = runE p args n := ⟨_, rfl⟩
  obtain ⟨R, hS2⟩ : ∃ R, R = runS p args n := ⟨_, rfl⟩
  rw [← hE2, ← hS2]
  rw [← hE2] at hE hS
  rw [← hS2] at hS
  clear hE2 hS2 HNW hp ha
  have HE := hid hE
  have HS := hid hS
  have HK1 := hid k1
  clear hE hS k1
  obtain ⟨pl, hpl2⟩ : ∃ v, v = p.length := ⟨_, rfl⟩
  obtain ⟨al, hal2⟩ : ∃ v, v = args.length := ⟨_, rfl⟩
  rw [← hpl2] at HNB hwb ⊢
  rw [← hal2] at HNB ⊢
  have HPL := hid hpl2
  have HAL := hid hal2
  clear hpl2 hal2
  go_enter Tryz.func25, Tryz.ntmps25
  go_wp2_with fail
  rw [← hwb]
  clear hwb
  refine HNB.out.mono ?_
  clear HNB
  rintro e w1 ⟨hb1, hcase⟩
  have hs1 := hb1.size
  have hbw1 := hbb.trans (hb1.mono hbb.size)
  have j1 := (hb1.block (w.heap.size + 1) (by omega)).trans HK1.out
  have x0 : w1.cell? ⟨w.heap.size + 1, 0, none⟩ = some (.int .i64 0) := by simp [World.cell?, j1]
  have x1 : w1.cell? ⟨w.heap.size + 1, 1, none⟩ = some (.int .i64 0) := by simp [World.cell?, j1]
  have x2 : w1.cell? ⟨w.heap.size + 1, 2, none⟩ = some (.slice none 0 0) := by simp [World.cell?, j1]
  have f0 : w1.frozen? ⟨w.heap.size + 1, 0, none⟩ = false := by simp [World.frozen?, j1]
  have f1 : w1.frozen? ⟨w.heap.size + 1, 1, none⟩ = false := by simp [World.frozen?, j1]
  have f2 : w1.frozen? ⟨w.heap.size + 1, 2, none⟩ = false := by simp [World.frozen?, j1]
  have lt1 : w.heap.size + 1 < w1.heap.size := by omega
  have hsw := hbw1.size
  rcases hcase with ⟨hc, rfl⟩ | ⟨hc, hgv, rfl⟩ | ⟨hc, hgv, qa, qcap, v, w0, rfl, hrp, hbw0, hb01, hrow⟩
  · have hE1 : E = (chk p).1 := by rw [HE.out, if_pos hc]
    have hS1 : R = ⟨0, 0, []⟩ := by rw [HS.out, if_neg (by rw [hE1]; exact hc)]
    rw [← hE1] at hc ⊢
    have hc' : (E != 0) = true := by simpa using hc
    subst hS1
    simp only [noRun]
    have HBE := hid (fun (A : Obj) => (below_boxed (bx := w.heap.size + 1) hbw1 (by omega) (.int .i64 0) (.int .i64 0) (.slice none 0 0)).alloc (by simp; omega) A)
    clear hE1 HE HS j1
    go_wp2
    exact bodyPost_ret (v := .tuple #[.agg #[.int .i64 0, .int .i64 0, .slice none 0 0], .int .i64 E]) (by simp [results, Tryz.results25, go_sem, x0, x1, x2, lt1]) rfl ⟨none, 0, rfl, World.ownsRow_nil _ _ _ _, HBE.out _⟩
  · have hE1 : E = 1 := by rw [HE.out, if_neg (by simpa using hc), if_neg (fun h => by rw [hgv] at h; cases h.1)]
    have hS1 : R = ⟨0, 0, []⟩ := by rw [HS.out, if_neg (by rw [hE1]; decide)]
    subst hS1
    subst hE1
    simp only [noRun]
    have HBE := hid (fun (A : Obj) => (below_boxed (bx := w.heap.size + 1) hbw1 (by omega) (.int .i64 0) (.int .i64 0) (.slice none 0 0)).alloc (by simp; omega) A)
    clear HE HS j1
    go_wp2
    exact bodyPost_ret (v := .tuple #[.agg #[.int .i64 0, .int .i64 0, .slice none 0 0], .int .i64 1]) (by simp [results, Tryz.results25, go_sem, x0, x1, x2, lt1]) rfl ⟨none, 0, rfl, World.ownsRow_nil _ _ _ _, HBE.out _⟩
  · obtain ⟨va, vc, rfl⟩ : ∃ va vc, v = .slice va 1 vc := by
      rcases hrow.2 with ⟨h1, h2⟩ | ⟨g, c', cur, h1, _⟩
      · omega
      · exact ⟨_, _, h1⟩
    have hg := good_of (chk_zero hc)
    have hgt := given_true hgv
    have hf0 := hg.fns 0 _ (fnAt_some (p := p) (n := 0) (by have := hg.len; omega))
    obtain ⟨w2, hw2⟩ : ∃ w2, w2 = w1.alloc (Obj.cells #[.slice qa pl qcap, .slice va 1 vc, .int .i64 0, .int .i64 0] 49) := ⟨_, rfl⟩
    have hb2 : Below w1.heap.size w1 w2 := by rw [hw2]; exact (Below.refl _ _).alloc (Nat.le_refl _) _
    have hs2 : w2.heap.size = w1.heap.size + 1 := by rw [hw2]; simp
    have hs01 := hb01.size
    have hR : RunAt ⟨49, [], fun _ => none⟩ w0 (strip p) w1.heap.size w2 (begunD (strip p) args) := by
      rw [begunD_strip]
      have hfl := hf0.locals
      have hfp := hf0.params
      have hfm : ((begunD p args).live.map frmCells).flatten = frmCells ⟨0, 0, args⟩ := by
        show (([(⟨0, 0, fillI args (fnAt p 0).locals.toNat args.length⟩ : LiveD)]).map frmCells).flatten = _
        simp only [List.map_cons, List.map_nil, List.flatten_cons, List.flatten_nil, List.append_nil]
        unfold frmCells
        dsimp only
        rw [pad8_fill (by have := hgt.1; omega) (by omega)]
      refine ⟨qa, qcap, .slice va 1 vc, ?_, ?_, hb01.trans (hb2.mono hs01), hs01, ?_, fun e => ?_, fun _ _ h => by cases h⟩
      · rw [hw2, strip_len, ← HPL.out]
        exact heap_new_at rfl
      · rw [strip_len, ← HPL.out]; exact hrp w0 (fun _ _ _ => rfl)
      · rw [hfm]
        exact ownsRow_below hrow hb2
      · have := (hrow.lt _ e).2
        omega
    by_cases hnn : 0 ≤ n ∧ n ≤ 2000
    · have hE1 : E = 0 := by rw [HE.out, if_neg (by simpa using hc), if_pos ⟨hgv, hnn⟩]
      have hS1 : R = runD p (begunD p args) n.toNat := by rw [HS.out, if_pos hE1]
      obtain ⟨nN, rfl⟩ : ∃ nN : Nat, n = (nN : Int) := ⟨n.toNat, by omega⟩
      have hS2 : R = runD (strip p) (begunD (strip p) args) nN := by rw [hS1, runD_strip, begunD_strip]; simp
      have hT : toldD p R = toldD (strip p) R := (toldD_strip p R).symm
      have HT := hid hT
      have hgs := good_strip hg
      have hwfs : Wf (strip p) (begunD (strip p) args) := wf_begun hgs (by rw [fnAt_strip]; exact hgt.1) hgt.2
      have HST := hid (Step_any _ w0 (strip p) w1.heap.size (begunD (strip p) args) nN w2 hgs hwfs hR (by omega))
      have HWR := hid (wf_run hgs hwfs nN)
      rw [← hS2] at HST HWR
      have HGS := hid hgs
      subst hE1
      have h1' : (nN : Int) ≤ 2000 := hnn.2
      clear hS1 hS2 hT hgs hwfs hR HE HS hgt hf0 hrow hrp hc hgv hg
      go_wp2_with fail
      rw [← hw2]
      refine HST.out.mono ?_
      clear HST hw2 x0 x1 x2 f0 f1 f2
      rintro e w3 ⟨rfl, hr3⟩
      have hb03 : Below w0.heap.size w0 w3 := by
        obtain ⟨_, _, _, _, _, h, _, _⟩ := hr3
        exact h
      have HSA := hid (State_any _ w0 (strip p) w1.heap.size R w3 HGS.out HWR.out hr3)
      have hs03 := hb03.size
      have hsb0 := hbw0.size
      have hbb3 := hbw0.trans (hb03.mono hsb0)
      have hs3 := hbb3.size
      clear hr3
      go_wp2_with fail
      refine HSA.out.mono ?_
      clear HSA
      rintro e w4 ⟨a, cap, rfl, how, hb4⟩
      have hbb4 := hbb3.trans (hb4.mono hs3)
      have hbw4 := hbb.trans (hbb4.mono hbb.size)
      have j4 := (hbb4.block (w.heap.size + 1) (by omega)).trans HK1.out
      have x0 : w4.cell? ⟨w.heap.size + 1, 0, none⟩ = some (.int .i64 0) := by simp [World.cell?, j4]
      have x1 : w4.cell? ⟨w.heap.size + 1, 1, none⟩ = some (.int .i64 0) := by simp [World.cell?, j4]
      have x2 : w4.cell? ⟨w.heap.size + 1, 2, none⟩ = some (.slice none 0 0) := by simp [World.cell?, j4]
      have f0 : w4.frozen? ⟨w.heap.size + 1, 0, none⟩ = false := by simp [World.frozen?, j4]
      have f1 : w4.frozen? ⟨w.heap.size + 1, 1, none⟩ = false := by simp [World.frozen?, j4]
      have f2 : w4.frozen? ⟨w.heap.size + 1, 2, none⟩ = false := by simp [World.frozen?, j4]
      obtain ⟨tl, htl⟩ : ∃ v, v = (toldD (strip p) R).length := ⟨_, rfl⟩
      rw [← htl] at how
      rw [← htl]
      have hne : (Value.slice a tl cap).ownBlock ≠ some (w.heap.size + 1) := fun e => by have := (how.lt _ e).1; omega
      have HBE := hid (below_boxed (bx := w.heap.size + 1) hbw4 (by omega) (.int .i64 R.status) (.int .i64 R.value) (.slice a tl cap))
      have h3 := ownsRow_setCell_other (ownsRow_setCell_other (ownsRow_setCell_other how (a := ⟨w.heap.size + 1, 0, none⟩) hne (.int .i64 R.status)) (a := ⟨w.heap.size + 1, 1, none⟩) hne (.int .i64 R.value)) (a := ⟨w.heap.size + 1, 2, none⟩) hne (.slice a tl cap)
      have HOW := hid (owns_lower h3 (base' := w.heap.size) (by omega))
      have HTL := hid htl
      clear how h3 j4 htl
      go_wp2
      exact bodyPost_ret (v := .tuple #[.agg #[.int .i64 R.status, .int .i64 R.value, .slice a tl cap], .int .i64 0]) (by simp [results, Tryz.results25, go_sem, x0, x1, x2]) rfl ⟨a, cap, by rw [HT.out, ← HTL.out], by rw [HT.out, ← HTL.out]; exact HOW.out, HBE.out⟩
    · have hE1 : E = 1 := by rw [HE.out, if_neg (by simpa using hc), if_neg (fun h => hnn h.2)]
      have hS1 : R = ⟨0, 0, []⟩ := by rw [HS.out, if_neg (by rw [hE1]; decide)]
      subst hS1
      subst hE1
      have HBE := hid (fun (A : Obj) => (below_boxed (bx := w.heap.size + 1) hbw1 (by omega) (.int .i64 0) (.int .i64 0) (.slice none 0 0)).alloc (by simp; omega) A)
      clear HE HS j1 hw2 hR hgt hf0 hrow hrp hc hgv hg hb2
      have HSB := hid (fun (W : World) => Step_bad w1.heap.size n W hnn)
      go_wp2_with fail
      refine (HSB.out _).mono ?_
      rintro e w3 ⟨rfl, rfl⟩
      go_wp2
      exact bodyPost_ret (v := .tuple #[.agg #[.int .i64 0, .int .i64 0, .slice none 0 0], .int .i64 1]) (by simp [results, Tryz.results25, go_sem, x0, x1, x2, lt1]) rfl ⟨none, 0, rfl, World.ownsRow_nil _ _ _ _, HBE.out _⟩

set_option maxHeartbeats 4000000 in
set_option maxRecDepth 100000 in
theorem run_answers : Answers 14 := by
  intro pa pcap p aa acap args n w hp ha hn
  have HB := hid (fun (W : World) (hW : Below w.heap.size w W) => Behind_any pa pcap p aa acap args n W (hp.below hW) (ha.below hW (Nat.le_refl _)) hn)
  obtain ⟨wb, hwb⟩ : ∃ wb, wb = (w.alloc (Obj.cells #[.slice pa p.length pcap] 24)).alloc (Obj.cells #[.int .i64 0, .int .i64 0, .slice none 0 0] 59) := ⟨_, rfl⟩
  have hbb : Below w.heap.size w wb := by rw [hwb]; exact ((Below.refl _ _).alloc (Nat.le_refl _) _).alloc (by simp) _
  have hbs : wb.heap.size = w.heap.size + 2 := by rw [hwb]; simp
  have k1 : wb.heap[w.heap.size + 1]? = some (.cells #[.int .i64 0, .int .i64 0, .slice none 0 0] 59 (0, 0)) := by rw [hwb]; exact heap_new_at (by simp)
  have HBB := hid (HB.out wb hbb)
  clear HB hp ha
  generalize runE p args n = E at *
  generalize runS p args n = R at *
  generalize toldD p R = fr at *
  obtain ⟨tl, htl⟩ : ∃ v, v = fr.length := ⟨_, rfl⟩
  rw [← htl] at HBB ⊢
  have HK1 := hid k1
  generalize p.length = pl at *
  generalize args.length = al at *
  clear k1 htl
  go_enter Tryz.func14, Tryz.ntmps14
  go_wp2_with fail
  rw [← hwb]
  clear hwb
  refine HBB.out.mono ?_
  clear HBB
  rintro e w4 ⟨a, cap, rfl, how, hb4⟩
  have hbw4 := hbb.trans (hb4.mono hbb.size)
  have j4 := (hb4.block (w.heap.size + 1) (by omega)).trans HK1.out
  have x0 : w4.cell? ⟨w.heap.size + 1, 0, none⟩ = some (.int .i64 0) := by simp [World.cell?, j4]
  have x1 : w4.cell? ⟨w.heap.size + 1, 1, none⟩ = some (.int .i64 0) := by simp [World.cell?, j4]
  have x2 : w4.cell? ⟨w.heap.size + 1, 2, none⟩ = some (.slice none 0 0) := by simp [World.cell?, j4]
  have f0 : w4.frozen? ⟨w.heap.size + 1, 0, none⟩ = false := by simp [World.frozen?, j4]
  have f1 : w4.frozen? ⟨w.heap.size + 1, 1, none⟩ = false := by simp [World.frozen?, j4]
  have f2 : w4.frozen? ⟨w.heap.size + 1, 2, none⟩ = false := by simp [World.frozen?, j4]
  have hne : (Value.slice a tl cap).ownBlock ≠ some (w.heap.size + 1) := fun e => by have := (how.lt _ e).1; omega
  have HBE := hid (below_boxed (bx := w.heap.size + 1) hbw4 (by omega) (.int .i64 R.status) (.int .i64 R.value) (.slice a tl cap))
  have h3 := ownsRow_setCell_other (ownsRow_setCell_other (ownsRow_setCell_other how (a := ⟨w.heap.size + 1, 0, none⟩) hne (.int .i64 R.status)) (a := ⟨w.heap.size + 1, 1, none⟩) hne (.int .i64 R.value)) (a := ⟨w.heap.size + 1, 2, none⟩) hne (.slice a tl cap)
  have HOW := hid (owns_lower h3 (base' := w.heap.size) (by omega))
  clear how h3 j4
  go_wp2
  exact bodyPost_ret (v := .tuple #[.agg #[.int .i64 R.status, .int .i64 R.value, .slice a tl cap], .int .i64 E]) (by simp [results, Tryz.results14, go_sem, x0, x1, x2]) rfl ⟨a, cap, rfl, HOW.out, HBE.out⟩

theorem run_gives : RunGives := run_answers
end Go.Proofs.YthaganponmnanaaGreatDoor
namespace Go.Proofs.YthaganponmnanaaGreatDoor
open Go.RowKit

theorem sizB_le {rec : Int → List Int → Nat} {p : List FnD} {bud : Int} {ar : List Int} {M : Nat} : ∀ l : List OpD, (∀ o ∈ l, o.code = 5 → rec o.b ar ≤ M) → sizB rec p bud ar l ≤ l.length * (1 + M)
  | [], _ => by simp [sizB]
  | o :: r, h => by
    have ih := sizB_le (rec := rec) (p := p) (bud := bud) (ar := ar) (M := M) r (fun x hx => h x (List.mem_cons_of_mem _ hx))
    have h0 := h o (List.mem_cons_self ..)
    show 1 + (if inlB p bud ar o = true then rec o.b ar else 0) + sizB rec p bud ar r ≤ _
    rw [List.length_cons, Nat.add_mul, Nat.one_mul]
    split
    · next hi =>
      have := h0 (inlB_true hi).1
      omega
    · omega

/-- At most three functions, of at most eight ops, Calls of later functions alone. -/
structure Small (q : List FnD) : Prop where
  chk : Proofs.YthaganponmnanaaGreatDoor.chk q = (0, 0, 0)
  few : q.length ≤ 3
  short : ∀ x ∈ q, x.body.length ≤ 8
  ahead : ∀ (f : Nat) (x : FnD), q[f]? = some x → ∀ o ∈ x.body, o.code = 5 → (f : Int) < o.b

theorem Small.body {q : List FnD} (h : Small q) (fn : Int) : (fnAt q fn).body.length ≤ 8 := by
  unfold fnAt
  cases hx : q[fn.toNat]? with
  | none => simp [noFn]
  | some x => exact h.short x (List.mem_of_getElem? hx)
theorem Small.ahead' {q : List FnD} (h : Small q) : Ahead q := fun fn h0 o ho hc => by
  unfold fnAt at ho
  cases hx : q[fn.toNat]? with
  | none => rw [hx] at ho; simp [noFn] at ho
  | some x =>
    rw [hx] at ho
    have := h.ahead fn.toNat x hx o ho hc
    omega
theorem Small.callee {q : List FnD} (h : Small q) {fn : Int} (h0 : 0 ≤ fn) {o : OpD} (ho : o ∈ (fnAt q fn).body) (hc : o.code = 5) : fn < o.b ∧ o.b < 3 := by
  have h1 := h.ahead' fn h0 o ho hc
  refine ⟨h1, ?_⟩
  have hg := good_of h.chk
  unfold fnAt at ho
  cases hx : q[fn.toNat]? with
  | none => rw [hx] at ho; simp [noFn] at ho
  | some x =>
    rw [hx] at ho
    obtain ⟨s, hs⟩ := List.mem_iff_getElem?.1 ho
    have := ((hg.fns _ _ hx).ops s o hs).call hc
    have := h.few
    omega
theorem Small.siz {q : List FnD} (h : Small q) (bud : Int) : ∀ (f : Nat) (ar : List Int), sizI q bud f 2 ar ≤ 8 ∧ sizI q bud f 1 ar ≤ 72 ∧ sizI q bud f 0 ar ≤ 584
  | 0, _ => ⟨Nat.zero_le _, Nat.zero_le _, Nat.zero_le _⟩
  | f + 1, ar => by
    have ih := fun ar => h.siz bud f ar
    refine ⟨?_, ?_, ?_⟩
    · have := sizB_le (rec := sizI q bud f) (p := q) (bud := bud) (ar := 2 :: ar) (M := 0) (fnAt q 2).body (fun o ho hc => by have := h.callee (by omega) ho hc; omega)
      have hb := h.body 2
      show sizB (sizI q bud f) q bud (2 :: ar) (fnAt q 2).body ≤ 8
      omega
    · have := sizB_le (rec := sizI q bud f) (p := q) (bud := bud) (ar := 1 :: ar) (M := 8) (fnAt q 1).body (fun o ho hc => by
        have := h.callee (by omega) ho hc
        have e : o.b = 2 := by omega
        rw [e]; exact (ih _).1)
      have hb := h.body 1
      show sizB (sizI q bud f) q bud (1 :: ar) (fnAt q 1).body ≤ 72
      omega
    · have := sizB_le (rec := sizI q bud f) (p := q) (bud := bud) (ar := 0 :: ar) (M := 72) (fnAt q 0).body (fun o ho hc => by
        have := h.callee (by omega) ho hc
        rcases (by omega : o.b = 1 ∨ o.b = 2) with e | e
        · rw [e]; exact (ih _).2.1
        · rw [e]; exact Nat.le_trans (ih _).1 (by omega))
      have hb := h.body 0
      show sizB (sizI q bud f) q bud (0 :: ar) (fnAt q 0).body ≤ 584
      omega

/-- How many places the codes of n functions from fn on have. -/
def totS (p : List FnD) (bud : Int) : Nat → Nat → Nat
  | 0, _ => 0
  | n + 1, fn => sizI p bud 12 fn [] + totS p bud n (fn + 1)
theorem layAll_tot (p : List FnD) (bud : Int) : ∀ (n fn : Nat) (room : Int) (l : List CodeD), (totS p bud n fn : Int) ≤ room → (layAll p bud n fn room l).isSome = true
  | 0, _, _, _, _ => rfl
  | n + 1, fn, room, l, h => by
    have h' : ((sizI p bud 12 fn [] + totS p bud n (fn + 1) : Nat) : Int) ≤ room := h
    unfold layAll
    obtain ⟨r1, -⟩ := layI_room p bud 12 fn [] ⟨room, [], []⟩ (by dsimp only; omega)
    dsimp only at r1
    obtain ⟨q1, -⟩ := r1 (by omega)
    rw [if_neg (by omega)]
    exact layAll_tot p bud n (fn + 1) _ _ (by omega)
theorem Small.lay {q : List FnD} (h : Small q) {bud : Int} (h0 : 0 ≤ bud) (h1 : bud ≤ 30) : layE q bud = 0 ∧ ∃ cs, codesD q bud = some cs := by
  have hs : (codesD q bud).isSome = true := by
    refine layAll_tot q bud q.length 0 1000 [] ?_
    have hf := h.few
    obtain ⟨a, b, c⟩ := h.siz bud 12 []
    have hle : totS q bud q.length 0 ≤ 664 := by
      match hn : q.length, hf with
      | 0, _ => simp [totS]
      | 1, _ => simp only [totS]; have : sizI q bud 12 ((0 : Nat) : Int) [] ≤ 584 := c; omega
      | 2, _ => simp only [totS]; have : sizI q bud 12 ((0 : Nat) : Int) [] ≤ 584 := c; have : sizI q bud 12 ((0 + 1 : Nat) : Int) [] ≤ 72 := b; omega
      | 3, _ => simp only [totS]; have : sizI q bud 12 ((0 : Nat) : Int) [] ≤ 584 := c; have : sizI q bud 12 ((0 + 1 : Nat) : Int) [] ≤ 72 := b; have : sizI q bud 12 ((0 + 1 + 1 : Nat) : Int) [] ≤ 8 := a; omega
    omega
  refine ⟨?_, Option.isSome_iff_exists.1 hs⟩
  unfold layE
  rw [h.chk, if_neg (by simp), if_pos ⟨h0, h1⟩, if_pos hs]

/-- The pcs of a run, by the greatest budget and by none. -/
theorem Small.pcs {q : List FnD} (h : Small q) {cs cs0 : List CodeD} (hc : codesD q 30 = some cs) (hc0 : codesD q 0 = some cs0) (args : List Int) (n : Nat) (hw : Wf q (runD q (begunD q args) n)) :
    (pcsD cs0 (runD q (begunD q args) n).live).length = (runD q (begunD q args) n).live.length ∧
    ((runD q (begunD q args) n).live = [] → pcsD cs (runD q (begunD q args) n).live = []) ∧
    ((runD q (begunD q args) n).live ≠ [] → ∃ (c : CodeD) (i : Nat), cs[0]? = some c ∧ i < c.places.length ∧ pcsD cs (runD q (begunD q args) n).live = [(i : Int)]) := by
  have hch := chn_run (chn_begun q args) n
  have hg := good_of h.chk
  generalize runD q (begunD q args) n = s at *
  refine ⟨?_, fun he => by rw [he]; rfl, fun hne => ?_⟩
  · unfold pcsD
    rw [List.length_reverse, pcsF_all (layAll_none (layOk_of hg) q.length 0 1000 [] cs0 (by omega) hc0 (fun c hc => by cases hc))]
    simp
  · obtain ⟨-, hl, hall⟩ := img_wf h.chk hc
    obtain ⟨c, hcc⟩ : ∃ c, cs[0]? = some c := ⟨_, List.getElem?_eq_getElem (by have := hg.len; omega)⟩
    obtain ⟨g1, g2, g3⟩ := hall 0 c hcc
    have hai := layAll_all (bud := 30) h.ahead' (fun fn => by have := h.body fn; omega) q.length 0 1000 [] cs hc (fun c hc => by cases hc) c (List.mem_of_getElem? hcc)
    obtain ⟨x, hx⟩ : ∃ x, s.live[0]? = some x := ⟨_, List.getElem?_eq_getElem (List.length_pos_iff.2 hne)⟩
    have hx0 := hch.head x hx
    obtain ⟨i, hi, he⟩ := pcsF_one (cs := cs) g1 g2 hai s.live noCode 0 x hx hw.live hch.call (Nat.zero_le _) (by unfold fnK; rw [if_pos rfl, hx0]) (by unfold codeAt; rw [if_pos rfl, hx0]; show (cs[0]?).getD noCode = c; rw [hcc]; rfl)
    refine ⟨c, i, hcc, hi, ?_⟩
    unfold pcsD
    rw [he, g3]
    simp
/-- A run has no frames just where it is done. -/
def Ends (s : StandD) : Prop := (s.status = 1 → s.live = []) ∧ (s.status ≠ 1 → s.live ≠ [])
theorem ends_stepTop (p : List FnD) (ini : List LiveD) (x : LiveD) : Ends (stepTop p ini x) := by
  unfold stepTop
  split
  · split
    · exact ⟨fun h => by simp at h, fun _ => by simp⟩
    · exact ⟨fun h => by simp at h, fun _ => by simp⟩
  · split
    · split
      · exact ⟨fun _ => rfl, fun h => absurd rfl h⟩
      · exact ⟨fun h => by simp at h, fun _ => by simp⟩
    · split
      · exact ⟨fun h => by simp at h, fun _ => by simp⟩
      · split
        · exact ⟨fun h => by simp at h, fun _ => by simp⟩
        · split
          · exact ⟨fun h => by simp at h, fun _ => by simp⟩
          · exact ⟨fun h => by simp at h, fun _ => by simp⟩
theorem ends_run {p : List FnD} {s : StandD} (h : Ends s) : ∀ n, Ends (runD p s n)
  | 0 => h
  | n + 1 => by
    show Ends (nextD p (runD p s n))
    unfold nextD
    split
    · exact ends_run h n
    · split
      · exact ends_run h n
      · exact ends_stepTop _ _ _
theorem ends_begun (p : List FnD) (args : List Int) : Ends (begunD p args) := ⟨fun h => by simp [begunD] at h, fun _ => by simp [begunD]⟩
end Go.Proofs.YthaganponmnanaaGreatDoor
namespace Go.Proofs.YthaganponmnanaaGreatDoor
open Go.RowKit

theorem rdF_own2 {w : World} {base : Nat} {a : Option Addr} {cap : Nat} {fr : List FrameD} (h : w.ownsRow base 77 3 (.slice a fr.length cap) fr.length (fr.map frCells).flatten) : RdL 3 RdFrame w a fr.length cap fr := by
  have hb : RdBut 3 RdFrame (fun _ => False) w (fr.map frCells) fr := ⟨by simp, fun i cs x h1 h2 => by
    rw [List.getElem?_map, h2] at h1
    obtain rfl : frCells x = cs := by simpa using h1
    exact ⟨rfl, fun _ _ => rfl⟩⟩
  obtain ⟨a', cap', e, hr⟩ := hb.rd h
  cases e
  exact hr
theorem pcN_le {n : Nat} : ∀ (r : List EntD), (∀ x ∈ r, EntG n x) → pcN r ≤ 1000 * r.length
  | [], _ => by simp [pcN]
  | x :: r, h => by
    have h1 := pcN_le r (fun y hy => h y (List.mem_cons_of_mem _ hy))
    have h2 := (h x (List.mem_cons_self ..)).most
    unfold pcN at h1 ⊢
    rw [List.map_cons, List.sum_cons, List.length_cons]
    omega
theorem plcD_le2 {L : List EntD} (hwf : wfI L = true) : (plcD L).length ≤ 12000 := by
  have hg := wfI_entG hwf
  have hL12 : L.length ≤ 12 := by
    have h := hwf
    unfold wfI at h
    rw [Bool.and_eq_true] at h
    exact (of_decide_eq_true h.1).2
  have h1 := plcF_len L 0 [] hg
  have h2 := pcN_le L hg
  have h3 : (plcD L).length = pcN L := by simpa [plcD, pcN] using h1
  omega
theorem pcsB_mem (n : Int) : ∀ (l : List Int) (k : Nat), pcsB n l k = true → ∀ x ∈ l, 0 ≤ x ∧ x < n + 1
  | [], _, _, x, hx => by cases hx
  | y :: r, k, h, x, hx => by
    have h' : (decide ((if k = 0 then 0 else 1) ≤ y ∧ y < n + (if k = 0 then 0 else 1)) && pcsB n r (k + 1)) = true := h
    rw [Bool.and_eq_true, decide_eq_true_eq] at h'
    rcases List.mem_cons.1 hx with rfl | hx
    · have := h'.1
      split at this <;> omega
    · exact pcsB_mem n r (k + 1) h'.2 x hx

set_option maxHeartbeats 8000000 in
set_option maxRecDepth 100000 in
theorem agrees_any (pa : Option Addr) (pcap : Nat) (p : List FnD) (bud : Int) (cs : List CodeD) (hcg : CG p bud cs) (mb : Nat) (X : RX) (w0 : World) (aa : Option Addr) (acap : Nat) (args : List Int) (n : Nat) (bb boff N bcap : Nat) (bs : List Int) (w : World)
    (hp : RdP w pa p.length pcap p) (ha : Rd .i64 w aa args.length acap args) (hg : givenB p args = true) (hn : n ≤ 2000) (hb : Rd .u8 w (some ⟨bb, boff, none⟩) N bcap bs) (hbb : bb < w.heap.size) (hbx : ∀ j, 0 ≤ bs.getD j 0 ∧ bs.getD j 0 ≤ 255) (hdec : decI bs = (imgD p cs, 0, 0)) (hH : HeadAt w)
    (hm : MachAt p bud mb X w0 w (runD (strip p) (begunD (strip p) args) n)) :
    Calls Tryz.prog 9 #[.pointer (some ⟨mb, 0, none⟩), .slice (some ⟨bb, boff, none⟩) N bcap, .agg #[.slice pa p.length pcap], .slice aa args.length acap, .int .i64 n] w fun e w' =>
      e = .returned (.tuple #[.int .i64 (runD p (begunD p args) n).status, .bool true]) ∧ Below w.heap.size w w' := by
  obtain ⟨wA, hwA⟩ : ∃ v, v = w.alloc (Obj.cells #[.slice pa p.length pcap] 24) := ⟨_, rfl⟩
  have hbA : Below w.heap.size w wA := by rw [hwA]; exact (Below.refl _ _).alloc (Nat.le_refl _) _
  have hsA : wA.heap.size = w.heap.size + 1 := by rw [hwA]; simp
  have hc := hcg.chk
  have hgd := good_strip (good_of hc)
  have hgt := given_true hg
  have hwb0 : Wf (strip p) (begunD (strip p) args) := wf_begun hgd (by rw [fnAt_strip]; exact hgt.1) hgt.2
  have hwNs : Wf (strip p) (runD (strip p) (begunD (strip p) args) n) := wf_run hgd hwb0 n
  have hwN : Wf p (runD p (begunD p args) n) := wf_run (good_of hc) (wf_begun (good_of hc) hgt.1 hgt.2) n
  have hends : Ends (runD p (begunD p args) n) := ends_run (ends_begun p args) n
  have hre : runE p args (n : Int) = 0 := by
    unfold runE
    rw [hc, hg]
    simp
    omega
  have hrs : runS p args (n : Int) = runD p (begunD p args) n := by
    unfold runS
    rw [if_pos hre]
    rfl
  have HRUN := hid (run_answers pa pcap p aa acap args (n : Int) wA (hp.below hbA) (ha.below hbA (Nat.le_refl _)) ⟨by omega, by omega⟩)
  rw [hre, hrs] at HRUN
  have HST := hid (fun (W : World) (hW : Below w.heap.size w W) => uState_any p bud mb X w0 (runD (strip p) (begunD (strip p) args) n) W hgd hwNs (hm.below hW))
  have HPC := hid (fun (W : World) (hW : Below w.heap.size w W) => uPcs_any p bud mb X w0 (runD (strip p) (begunD (strip p) args) n) W cs hcg.codes hgd hwNs (hm.below hW))
  rw [runD_strip, begunD_strip] at HST HPC
  obtain ⟨hwf, -, -⟩ := img_wf hc hcg.codes
  obtain ⟨hsb, hsf, hle⟩ := hcg.read hwN (chn_run (chn_begun p args) n)
  have hpl := plcD_le2 hwf
  have hR : ∀ x ∈ pcsD cs (runD p (begunD p args) n).live, R64 x := fun x hx => by
    have h := hsb
    unfold symB at h
    rw [Bool.and_eq_true] at h
    have := pcsB_mem _ _ _ h.2 x hx
    exact ⟨by omega, by omega⟩
  have HSY := hid (fun (W : World) (hW : Below w.heap.size w W) (la : Option Addr) (lcap : Nat) (hl : Rd .i64 W la (pcsD cs (runD p (begunD p args) n).live).length lcap (pcsD cs (runD p (begunD p args) n).live)) =>
    uSym_any (some ⟨bb, boff, none⟩) N bcap bs (imgD p cs) la lcap (pcsD cs (runD p (begunD p args) n).live) W (hb.below hW (Nat.le_refl _)) (fun q hq => by cases hq; exact Nat.lt_of_lt_of_le hbb hW.size) hbx (hH.below hW (Nat.le_refl _)) hdec hwf hl hR)
  rw [hsb, hsf] at HSY
  have HFR : Hid ((toldD p (runD p (begunD p args) n)).length = (runD p (begunD p args) n).live.length) := hid (by unfold toldD; simp)
  have HLE := hid hle
  have HEND := hid hends
  have HBA := hid hbA
  have hbc1 := hb.hcap
  have hbc2 := hb.hmax
  unfold maxLen at hbc2
  have hac1 := ha.hcap
  have hac2 := ha.hmax
  unfold maxLen at hac2
  have hpc1 := hp.2.1
  have hpc2 := hp.2.2.1
  unfold maxLen at hpc2
  generalize toldD p (runD p (begunD p args) n) = fr at *
  generalize runD p (begunD p args) n = sN at *
  generalize p.length = pl at *
  generalize args.length = al at *
  clear hp ha hc hgd hgt hwb0 hwNs hwN hends hre hrs hm hwf hsb hsf hle hpl hR hb hbx hdec hH hg hcg hbA
  go_enter Tryz.func9, Tryz.ntmps9
  go_wp2_with fail
  rw [← hwA]
  clear hwA
  refine HRUN.out.mono ?_
  rintro e w1 ⟨fa, fcap, rfl, hfo, hb1⟩
  have hs1 := hb1.size
  obtain ⟨w2, hw2⟩ : ∃ v, v = w1.alloc (Obj.cells #[.int .i64 sN.status, .int .i64 sN.value, .slice fa fr.length fcap] 59) := ⟨_, rfl⟩
  have hb2 : Below w1.heap.size w1 w2 := by rw [hw2]; exact (Below.refl _ _).alloc (Nat.le_refl _) _
  have hs2 : w2.heap.size = w1.heap.size + 1 := by rw [hw2]; simp
  have k2 : w2.heap[w1.heap.size]? = some (.cells #[.int .i64 sN.status, .int .i64 sN.value, .slice fa fr.length fcap] 59 (0, 0)) := by rw [hw2]; exact heap_new_at rfl
  have hbw2 : Below w.heap.size w w2 := (HBA.out.trans (hb1.mono HBA.out.size)).trans (hb2.mono (by omega))
  have HFO := hid (ownsRow_below hfo hb2)
  have HS := hid (HST.out w2 hbw2)
  have HBW2 := hid hbw2
  have HK2 := hid k2
  clear hfo hb1 hb2 k2 hbw2 HRUN HST
  go_wp2_with fail
  rw [← hw2]
  clear hw2
  refine HS.out.mono ?_
  rintro e w3 ⟨rfl, hb3⟩
  have hs3 := hb3.size
  have hbw3 : Below w.heap.size w w3 := HBW2.out.trans (hb3.mono HBW2.out.size)
  have HP := hid (HPC.out w3 hbw3)
  have HB23 := hid hb3
  have HBW3 := hid hbw3
  clear hb3 hbw3 HS HPC
  go_wp2_with fail
  refine HP.out.mono ?_
  rintro e w4 ⟨la, lcap, rfl, hol, hb4⟩
  have hs4 := hb4.size
  obtain ⟨la', lcap', el, hrl⟩ := rdI_owns hol
  cases el
  have hlc1 := hrl.hcap
  have hlc2 := hrl.hmax
  unfold maxLen at hlc2
  have hbw4 : Below w.heap.size w w4 := HBW3.out.trans (hb4.mono HBW3.out.size)
  have HSM := hid (HSY.out w4 hbw4 la lcap hrl)
  have HB24 := hid (HB23.out.trans (hb4.mono (by omega)))
  have HBW4 := hid hbw4
  obtain ⟨nl, hnl⟩ : ∃ v, v = (pcsD cs sN.live).length := ⟨_, rfl⟩
  rw [← hnl] at HLE HSM hlc1 ⊢
  clear hb4 hrl hol hbw4 HP HSY hnl
  go_wp2_with fail
  refine HSM.out.mono ?_
  rintro e w5 ⟨hb5, ⟨h, -⟩ | ⟨-, xa, xcap, rfl, hox⟩⟩
  · cases h
  have hs5 := hb5.size
  have hb25 : Below w2.heap.size w2 w5 := HB24.out.trans (hb5.mono (by omega))
  have hrf := rdF_own2 (ownsRow_below HFO.out hb25)
  have hrx := rdF_own2 hox
  have hfc1 := hrf.2.1
  have hfc2 := hrf.2.2.1
  have hxc1 := hrx.2.1
  have hxc2 := hrx.2.2.1
  unfold maxLen at hfc2 hxc2
  have HSA := hid (kSame_any xa fr.length xcap fr fa fcap w5 hrx hrf)
  have k5 := (hb25.block w1.heap.size (by omega)).trans HK2.out
  have z2 : w5.cell? ⟨w1.heap.size, 2, none⟩ = some (.slice fa fr.length fcap) := by simp [World.cell?, k5]
  have lt5 : w1.heap.size < w5.heap.size := by omega
  have HB25 := hid hb25
  have HBW5 := hid (HBW4.out.trans (hb5.mono HBW4.out.size))
  obtain ⟨nf, hnf⟩ : ∃ v, v = fr.length := ⟨_, rfl⟩
  rw [← hnf] at HSA HK2 z2 hfc1 hxc1 HFR ⊢
  clear hb5 hox hrf hrx hb25 k5 hnf HSM HFO
  go_wp2_with fail
  refine HSA.out.mono ?_
  rintro e w6 ⟨rfl, hb6⟩
  have hs6 := hb6.size
  have k6 := ((HB25.out.trans (hb6.mono (by omega))).block w1.heap.size (by omega)).trans HK2.out
  have y0 : w6.cell? ⟨w1.heap.size, 0, none⟩ = some (.int .i64 sN.status) := by simp [World.cell?, k6]
  have y1 : w6.cell? ⟨w1.heap.size, 1, none⟩ = some (.int .i64 sN.value) := by simp [World.cell?, k6]
  have HF := hid (HBW5.out.trans (hb6.mono HBW5.out.size))
  have lt6 : w1.heap.size < w6.heap.size := by omega
  have hlen : (nl : Int) ≤ (nf : Int) := by have := HLE.out; have := HFR.out; omega
  have hlend : decide ((nl : Int) ≤ (nf : Int)) = true := decide_eq_true hlen
  clear hb6 k6 z2 HSA
  obtain ⟨st, hst⟩ : ∃ v, v = sN.status := ⟨_, rfl⟩
  obtain ⟨vl, hvl⟩ : ∃ v, v = sN.value := ⟨_, rfl⟩
  rw [← hst] at y0 ⊢
  rw [← hvl] at y1 ⊢
  have HST1 : Hid ((st == 1) = decide ((nf : Int) = 0)) := hid (by
    by_cases h1 : sN.status = 1
    · have e := HFR.out
      rw [HEND.out.1 h1] at e
      have : nf = 0 := e
      subst this
      rw [hst, h1]
      rfl
    · have e := HFR.out
      have := List.length_pos_iff.2 (HEND.out.2 h1)
      rw [hst, decide_eq_false (by omega)]
      simpa using h1)
  have HSE := hid hst
  clear hst hvl
  go_wp2
  exact bodyPost_ret (v := .tuple #[.int .i64 st, .bool true]) (by simp [results, Tryz.results9, go_sem]) rfl ⟨by rw [HSE.out], HF.out⟩
end Go.Proofs.YthaganponmnanaaGreatDoor
