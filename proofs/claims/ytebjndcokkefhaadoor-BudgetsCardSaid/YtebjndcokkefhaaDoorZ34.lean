/- Contracts of the developers' run.Behind and unfold.Run: they answer as the plain run does. Contracts of table.At and table.Put: they give what the plain functions give; what comes out lies in a row of the call's own; nothing that was there is written. Contracts of unfold.PutTable, unfold.GetTable and unfold.At: they hand on what table.Put, table.Get and table.At give. The contract of unfoldkeep.pick: for whatever integer it gives its fold into the numbers below n, the world being left as it was. The contract of the law's own function rolled: it gives the spans of some values, in a row of the call's own; nothing that was there is written. Plain mathematics of rolled: the spans of some values make a table of just these values; no program is spoken of. -/
import Derived.Test.YtebjndcokkefhaaDoorZ29
import Derived.Test.YtebjndcokkefhaaDoorD11
import Derived.Test.YtebjndcokkefhaaDoorZ33
import Derived.Test.YtebjndcokkefhaaDoorZ4
import Derived.Test.YtebjndcokkefhaaDoorZ0
import Derived.Deep.QuietTactic
import Derived.BigQuiet
import Derived.Test.YtebjndcokkefhaaDoorZ5
namespace Go.Proofs.YtebjndcokkefhaaDoor
open Go.RowKit

theorem strip_len (p : List FnD) : (strip p).length = p.length := by unfold strip; simp

/-- What is asked of run.Behind, and of unfold.Run. -/
def Answers (f : FuncId) : Prop := ∀ (pa : Option Addr) (pcap : Nat) (p : List FnD) (aa : Option Addr) (acap : Nat) (args : List Int) (n : Int) (w : World), RdP w pa p.length pcap p → Rd .i64 w aa args.length acap args → R64 n →
  Calls Tryd.prog f #[.agg #[.slice pa p.length pcap], .slice aa args.length acap, .int .i64 n] w fun e w' =>
    ∃ a cap, e = .returned (.tuple #[.agg #[.int .i64 (runS p args n).status, .int .i64 (runS p args n).value, .slice a (toldD p (runS p args n)).length cap], .int .i64 (runE p args n)]) ∧
      w'.ownsRow w.heap.size 93 3 (.slice a (toldD p (runS p args n)).length cap) (toldD p (runS p args n)).length ((toldD p (runS p args n)).map frCells).flatten ∧ Below w.heap.size w w'

set_option maxHeartbeats 4000000 in
set_option maxRecDepth 100000 in
theorem Behind_any : Answers 30 := by
  intro pa pcap p aa acap args n w hp ha hn
  have HNW := hid (fun (W : World) (hW : Below w.heap.size w W) => New_any pa pcap p aa acap args W (hp.below hW) (ha.below hW (Nat.le_refl _)))
  obtain ⟨hn1, hn2⟩ := hn
  obtain ⟨wb, hwb⟩ : ∃ wb, wb = (w.alloc (Obj.cells #[.slice pa p.length pcap] 24)).alloc (Obj.cells #[.int .i64 0, .int .i64 0, .slice none 0 0] 47) := ⟨_, rfl⟩
  have hbb : Below w.heap.size w wb := by rw [hwb]; exact ((Below.refl _ _).alloc (Nat.le_refl _) _).alloc (by simp) _
  have hbs : wb.heap.size = w.heap.size + 2 := by rw [hwb]; simp
  have k1 : wb.heap[w.heap.size + 1]? = some (.cells #[.int .i64 0, .int .i64 0, .slice none 0 0] 47 (0, 0)) := by rw [hwb]; exact heap_new_at (by simp)
  have HNB := hid (HNW.out wb hbb)
  have hE : runE p args n = if (chk p).1 ≠ 0 then (chk p).1 else if givenB p args = true ∧ 0 ≤ n ∧ n ≤ 2000 then 0 else 1 := rfl
  have hS : runS p args n = if runE p args n = 0 then runD p (begunD p args) n.toNat else ⟨0, 0, []⟩ := rfl
  obtain ⟨E, hE2⟩ : ∃ E, E = runE p args n := ⟨_, rfl⟩
  obtain ⟨R, hS2⟩ : ∃ R, R = runS p args n := ⟨_, rfl⟩
  rw [← hE2, ← hS2]
  rw [← hE2] at hE hS
  rw [← hS2] at hS
  clear hE2 hS2 HNW hp ha
  have HE := hid hE
  have HS := hid hS
  have HK1 := hid k1
  clear hE hS k1
  obtain ⟨pl, hpl2⟩ : ∃ v, v = p.length := ⟨_, rfl⟩
  obtain ⟨al, hal2⟩ : ∃ v, v = args.length := ⟨_, rfl⟩
  rw [← hpl2] at HNB hwb ⊢
  rw [← hal2] at HNB ⊢
  have HPL := hid hpl2
  have HAL := hid hal2
  clear hpl2 hal2
  go_enter Tryd.func30, Tryd.ntmps30
  go_wp2_with fail
  rw [← hwb]
  clear hwb
  refine HNB.out.mono ?_
  clear HNB
  rintro e w1 ⟨hb1, hcase⟩
  have hs1 := hb1.size
  have hbw1 := hbb.trans (hb1.mono hbb.size)
  have j1 := (hb1.block (w.heap.size + 1) (by omega)).trans HK1.out
  have x0 : w1.cell? ⟨w.heap.size + 1, 0, none⟩ = some (.int .i64 0) := by simp [World.cell?, j1]
  have x1 : w1.cell? ⟨w.heap.size + 1, 1, none⟩ = some (.int .i64 0) := by simp [World.cell?, j1]
  have x2 : w1.cell? ⟨w.heap.size + 1, 2, none⟩ = some (.slice none 0 0) := by simp [World.cell?, j1]
  have f0 : w1.frozen? ⟨w.heap.size + 1, 0, none⟩ = false := by simp [World.frozen?, j1]
  have f1 : w1.frozen? ⟨w.heap.size + 1, 1, none⟩ = false := by simp [World.frozen?, j1]
  have f2 : w1.frozen? ⟨w.heap.size + 1, 2, none⟩ = false := by simp [World.frozen?, j1]
  have lt1 : w.heap.size + 1 < w1.heap.size := by omega
  have hsw := hbw1.size
  rcases hcase with ⟨hc, rfl⟩ | ⟨hc, hgv, rfl⟩ | ⟨hc, hgv, qa, qcap, v, w0, rfl, hrp, hbw0, hb01, hrow⟩
  · have hE1 : E = (chk p).1 := by rw [HE.out, if_pos hc]
    have hS1 : R = ⟨0, 0, []⟩ := by rw [HS.out, if_neg (by rw [hE1]; exact hc)]
    rw [← hE1] at hc ⊢
    have hc' : (E != 0) = true := by simpa using hc
    subst hS1
    simp only [noRun]
    have HBE := hid (fun (A : Obj) => (below_boxed (bx := w.heap.size + 1) hbw1 (by omega) (.int .i64 0) (.int .i64 0) (.slice none 0 0)).alloc (by simp; omega) A)
    clear hE1 HE HS j1
    go_wp2
    exact bodyPost_ret (v := .tuple #[.agg #[.int .i64 0, .int .i64 0, .slice none 0 0], .int .i64 E]) (by simp [results, Tryd.results30, go_sem, x0, x1, x2, lt1]) rfl ⟨none, 0, rfl, World.ownsRow_nil _ _ _ _, HBE.out _⟩
  · have hE1 : E = 1 := by rw [HE.out, if_neg (by simpa using hc), if_neg (fun h => by rw [hgv] at h; cases h.1)]
    have hS1 : R = ⟨0, 0, []⟩ := by rw [HS.out, if_neg (by rw [hE1]; decide)]
    subst hS1
    subst hE1
    simp only [noRun]
    have HBE := hid (fun (A : Obj) => (below_boxed (bx := w.heap.size + 1) hbw1 (by omega) (.int .i64 0) (.int .i64 0) (.slice none 0 0)).alloc (by simp; omega) A)
    clear HE HS j1
    go_wp2
    exact bodyPost_ret (v := .tuple #[.agg #[.int .i64 0, .int .i64 0, .slice none 0 0], .int .i64 1]) (by simp [results, Tryd.results30, go_sem, x0, x1, x2, lt1]) rfl ⟨none, 0, rfl, World.ownsRow_nil _ _ _ _, HBE.out _⟩
  · obtain ⟨va, vc, rfl⟩ : ∃ va vc, v = .slice va 1 vc := by
      rcases hrow.2 with ⟨h1, h2⟩ | ⟨g, c', cur, h1, _⟩
      · omega
      · exact ⟨_, _, h1⟩
    have hg := good_of (chk_zero hc)
    have hgt := given_true hgv
    have hf0 := hg.fns 0 _ (fnAt_some (p := p) (n := 0) (by have := hg.len; omega))
    obtain ⟨w2, hw2⟩ : ∃ w2, w2 = w1.alloc (Obj.cells #[.slice qa pl qcap, .slice va 1 vc, .int .i64 0, .int .i64 0] 81) := ⟨_, rfl⟩
    have hb2 : Below w1.heap.size w1 w2 := by rw [hw2]; exact (Below.refl _ _).alloc (Nat.le_refl _) _
    have hs2 : w2.heap.size = w1.heap.size + 1 := by rw [hw2]; simp
    have hs01 := hb01.size
    have hR : RunAt ⟨81, [], fun _ => none⟩ w0 (strip p) w1.heap.size w2 (begunD (strip p) args) := by
      rw [begunD_strip]
      have hfl := hf0.locals
      have hfp := hf0.params
      have hfm : ((begunD p args).live.map frmCells).flatten = frmCells ⟨0, 0, args⟩ := by
        show (([(⟨0, 0, fillI args (fnAt p 0).locals.toNat args.length⟩ : LiveD)]).map frmCells).flatten = _
        simp only [List.map_cons, List.map_nil, List.flatten_cons, List.flatten_nil, List.append_nil]
        unfold frmCells
        dsimp only
        rw [pad8_fill (by have := hgt.1; omega) (by omega)]
      refine ⟨qa, qcap, .slice va 1 vc, ?_, ?_, hb01.trans (hb2.mono hs01), hs01, ?_, fun e => ?_, fun _ _ h => by cases h⟩
      · rw [hw2, strip_len, ← HPL.out]
        exact heap_new_at rfl
      · rw [strip_len, ← HPL.out]; exact hrp w0 (fun _ _ _ => rfl)
      · rw [hfm]
        exact ownsRow_below hrow hb2
      · have := (hrow.lt _ e).2
        omega
    by_cases hnn : 0 ≤ n ∧ n ≤ 2000
    · have hE1 : E = 0 := by rw [HE.out, if_neg (by simpa using hc), if_pos ⟨hgv, hnn⟩]
      have hS1 : R = runD p (begunD p args) n.toNat := by rw [HS.out, if_pos hE1]
      obtain ⟨nN, rfl⟩ : ∃ nN : Nat, n = (nN : Int) := ⟨n.toNat, by omega⟩
      have hS2 : R = runD (strip p) (begunD (strip p) args) nN := by rw [hS1, runD_strip, begunD_strip]; simp
      have hT : toldD p R = toldD (strip p) R := (toldD_strip p R).symm
      have HT := hid hT
      have hgs := good_strip hg
      have hwfs : Wf (strip p) (begunD (strip p) args) := wf_begun hgs (by rw [fnAt_strip]; exact hgt.1) hgt.2
      have HST := hid (Step_any _ w0 (strip p) w1.heap.size (begunD (strip p) args) nN w2 hgs hwfs hR (by omega))
      have HWR := hid (wf_run hgs hwfs nN)
      rw [← hS2] at HST HWR
      have HGS := hid hgs
      subst hE1
      have h1' : (nN : Int) ≤ 2000 := hnn.2
      clear hS1 hS2 hT hgs hwfs hR HE HS hgt hf0 hrow hrp hc hgv hg
      go_wp2_with fail
      rw [← hw2]
      refine HST.out.mono ?_
      clear HST hw2 x0 x1 x2 f0 f1 f2
      rintro e w3 ⟨rfl, hr3⟩
      have hb03 : Below w0.heap.size w0 w3 := by
        obtain ⟨_, _, _, _, _, h, _, _⟩ := hr3
        exact h
      have HSA := hid (State_any _ w0 (strip p) w1.heap.size R w3 HGS.out HWR.out hr3)
      have hs03 := hb03.size
      have hsb0 := hbw0.size
      have hbb3 := hbw0.trans (hb03.mono hsb0)
      have hs3 := hbb3.size
      clear hr3
      go_wp2_with fail
      refine HSA.out.mono ?_
      clear HSA
      rintro e w4 ⟨a, cap, rfl, how, hb4⟩
      have hbb4 := hbb3.trans (hb4.mono hs3)
      have hbw4 := hbb.trans (hbb4.mono hbb.size)
      have j4 := (hbb4.block (w.heap.size + 1) (by omega)).trans HK1.out
      have x0 : w4.cell? ⟨w.heap.size + 1, 0, none⟩ = some (.int .i64 0) := by simp [World.cell?, j4]
      have x1 : w4.cell? ⟨w.heap.size + 1, 1, none⟩ = some (.int .i64 0) := by simp [World.cell?, j4]
      have x2 : w4.cell? ⟨w.heap.size + 1, 2, none⟩ = some (.slice none 0 0) := by simp [World.cell?, j4]
      have f0 : w4.frozen? ⟨w.heap.size + 1, 0, none⟩ = false := by simp [World.frozen?, j4]
      have f1 : w4.frozen? ⟨w.heap.size + 1, 1, none⟩ = false := by simp [World.frozen?, j4]
      have f2 : w4.frozen? ⟨w.heap.size + 1, 2, none⟩ = false := by simp [World.frozen?, j4]
      obtain ⟨tl, htl⟩ : ∃ v, v = (toldD (strip p) R).length := ⟨_, rfl⟩
      rw [← htl] at how
      rw [← htl]
      have hne : (Value.slice a tl cap).ownBlock ≠ some (w.heap.size + 1) := fun e => by have := (how.lt _ e).1; omega
      have HBE := hid (below_boxed (bx := w.heap.size + 1) hbw4 (by omega) (.int .i64 R.status) (.int .i64 R.value) (.slice a tl cap))
      have h3 := ownsRow_setCell_other (ownsRow_setCell_other (ownsRow_setCell_other how (a := ⟨w.heap.size + 1, 0, none⟩) hne (.int .i64 R.status)) (a := ⟨w.heap.size + 1, 1, none⟩) hne (.int .i64 R.value)) (a := ⟨w.heap.size + 1, 2, none⟩) hne (.slice a tl cap)
      have HOW := hid (owns_lower h3 (base' := w.heap.size) (by omega))
      have HTL := hid htl
      clear how h3 j4 htl
      go_wp2
      exact bodyPost_ret (v := .tuple #[.agg #[.int .i64 R.status, .int .i64 R.value, .slice a tl cap], .int .i64 0]) (by simp [results, Tryd.results30, go_sem, x0, x1, x2]) rfl ⟨a, cap, by rw [HT.out, ← HTL.out], by rw [HT.out, ← HTL.out]; exact HOW.out, HBE.out⟩
    · have hE1 : E = 1 := by rw [HE.out, if_neg (by simpa using hc), if_neg (fun h => hnn h.2)]
      have hS1 : R = ⟨0, 0, []⟩ := by rw [HS.out, if_neg (by rw [hE1]; decide)]
      subst hS1
      subst hE1
      have HBE := hid (fun (A : Obj) => (below_boxed (bx := w.heap.size + 1) hbw1 (by omega) (.int .i64 0) (.int .i64 0) (.slice none 0 0)).alloc (by simp; omega) A)
      clear HE HS j1 hw2 hR hgt hf0 hrow hrp hc hgv hg hb2
      have HSB := hid (fun (W : World) => Step_bad w1.heap.size n W hnn)
      go_wp2_with fail
      refine (HSB.out _).mono ?_
      rintro e w3 ⟨rfl, rfl⟩
      go_wp2
      exact bodyPost_ret (v := .tuple #[.agg #[.int .i64 0, .int .i64 0, .slice none 0 0], .int .i64 1]) (by simp [results, Tryd.results30, go_sem, x0, x1, x2, lt1]) rfl ⟨none, 0, rfl, World.ownsRow_nil _ _ _ _, HBE.out _⟩

set_option maxHeartbeats 4000000 in
set_option maxRecDepth 100000 in
theorem run_answers : Answers 16 := by
  intro pa pcap p aa acap args n w hp ha hn
  have HB := hid (fun (W : World) (hW : Below w.heap.size w W) => Behind_any pa pcap p aa acap args n W (hp.below hW) (ha.below hW (Nat.le_refl _)) hn)
  obtain ⟨wb, hwb⟩ : ∃ wb, wb = (w.alloc (Obj.cells #[.slice pa p.length pcap] 24)).alloc (Obj.cells #[.int .i64 0, .int .i64 0, .slice none 0 0] 47) := ⟨_, rfl⟩
  have hbb : Below w.heap.size w wb := by rw [hwb]; exact ((Below.refl _ _).alloc (Nat.le_refl _) _).alloc (by simp) _
  have hbs : wb.heap.size = w.heap.size + 2 := by rw [hwb]; simp
  have k1 : wb.heap[w.heap.size + 1]? = some (.cells #[.int .i64 0, .int .i64 0, .slice none 0 0] 47 (0, 0)) := by rw [hwb]; exact heap_new_at (by simp)
  have HBB := hid (HB.out wb hbb)
  clear HB hp ha
  generalize runE p args n = E at *
  generalize runS p args n = R at *
  generalize toldD p R = fr at *
  obtain ⟨tl, htl⟩ : ∃ v, v = fr.length := ⟨_, rfl⟩
  rw [← htl] at HBB ⊢
  have HK1 := hid k1
  generalize p.length = pl at *
  generalize args.length = al at *
  clear k1 htl
  go_enter Tryd.func16, Tryd.ntmps16
  go_wp2_with fail
  rw [← hwb]
  clear hwb
  refine HBB.out.mono ?_
  clear HBB
  rintro e w4 ⟨a, cap, rfl, how, hb4⟩
  have hbw4 := hbb.trans (hb4.mono hbb.size)
  have j4 := (hb4.block (w.heap.size + 1) (by omega)).trans HK1.out
  have x0 : w4.cell? ⟨w.heap.size + 1, 0, none⟩ = some (.int .i64 0) := by simp [World.cell?, j4]
  have x1 : w4.cell? ⟨w.heap.size + 1, 1, none⟩ = some (.int .i64 0) := by simp [World.cell?, j4]
  have x2 : w4.cell? ⟨w.heap.size + 1, 2, none⟩ = some (.slice none 0 0) := by simp [World.cell?, j4]
  have f0 : w4.frozen? ⟨w.heap.size + 1, 0, none⟩ = false := by simp [World.frozen?, j4]
  have f1 : w4.frozen? ⟨w.heap.size + 1, 1, none⟩ = false := by simp [World.frozen?, j4]
  have f2 : w4.frozen? ⟨w.heap.size + 1, 2, none⟩ = false := by simp [World.frozen?, j4]
  have hne : (Value.slice a tl cap).ownBlock ≠ some (w.heap.size + 1) := fun e => by have := (how.lt _ e).1; omega
  have HBE := hid (below_boxed (bx := w.heap.size + 1) hbw4 (by omega) (.int .i64 R.status) (.int .i64 R.value) (.slice a tl cap))
  have h3 := ownsRow_setCell_other (ownsRow_setCell_other (ownsRow_setCell_other how (a := ⟨w.heap.size + 1, 0, none⟩) hne (.int .i64 R.status)) (a := ⟨w.heap.size + 1, 1, none⟩) hne (.int .i64 R.value)) (a := ⟨w.heap.size + 1, 2, none⟩) hne (.slice a tl cap)
  have HOW := hid (owns_lower h3 (base' := w.heap.size) (by omega))
  clear how h3 j4
  go_wp2
  exact bodyPost_ret (v := .tuple #[.agg #[.int .i64 R.status, .int .i64 R.value, .slice a tl cap], .int .i64 E]) (by simp [results, Tryd.results16, go_sem, x0, x1, x2]) rfl ⟨a, cap, rfl, HOW.out, HBE.out⟩

theorem run_gives : RunGives := run_answers
end Go.Proofs.YtebjndcokkefhaaDoor
namespace Go.Proofs.YtebjndcokkefhaaDoor
open Go.RowKit

/-- The relation of table.At's loop. -/
def RelA (w : World) (l : List (Int × Int)) (pc0 : Int) (pc i : Value) (wr : World) : Prop :=
  ∃ (k : Nat) (q : Int), pc = .int .i64 q ∧ i = .int .i64 k ∧ k ≤ l.length ∧ 0 ≤ q ∧ q ≤ 9223372036854775807 ∧ atS l pc0 = atS (l.drop k) q ∧ Below w.heap.size w wr

end Go.Proofs.YtebjndcokkefhaaDoor
namespace Go.Proofs.YtebjndcokkefhaaDoor
open Go.RowKit

end Go.Proofs.YtebjndcokkefhaaDoor
namespace Go.Proofs.YtebjndcokkefhaaDoor
open Go.RowKit

def pickI (c n : Int) : Int := (if c < 0 then -(c + 1) else c) % n

set_option maxHeartbeats 400000 in
theorem pick_any (c n : Int) (w : World) (h1 : -9223372036854775808 ≤ c) (h2 : c ≤ 9223372036854775807) (h3 : 0 < n) (h4 : n ≤ 1000000000) :
    Calls Tryd.prog 12 #[.int .i64 c, .int .i64 n] w fun e w' => e = .returned (.int .i64 (pickI c n)) ∧ w' = w := by
  by_cases h : c < 0
  · obtain ⟨m, hm⟩ : ∃ m : Int, m = -(c + 1) := ⟨_, rfl⟩
    have hc : c = -(m + 1) := by omega
    clear hm
    subst hc
    have hm0 : 0 ≤ m := by omega
    have e1 : pickI (-(m + 1)) n = m % n := by unfold pickI; rw [if_pos h]; congr 1; omega
    have e2 : -(-(m + 1) + 1) = m := by omega
    rw [e1]
    go_enter Tryd.func12, Tryd.ntmps12
    go_wp2
    go_ret
    exact ⟨rfl, rfl⟩
  · have e1 : pickI c n = c % n := by unfold pickI; rw [if_neg h]
    have h0 : 0 ≤ c := by omega
    go_enter Tryd.func12, Tryd.ntmps12
    go_wp2
    go_ret
    exact ⟨rfl, rfl⟩

end Go.Proofs.YtebjndcokkefhaaDoor
namespace Go.Proofs.YtebjndcokkefhaaDoor
open Go.RowKit

def rollStep (acc : List (Int × Int)) (x : Int) : List (Int × Int) :=
  match acc.getLast? with
  | some p => if p.1 = x then acc.dropLast ++ [(x, p.2 + 1)] else acc ++ [(x, 1)]
  | none => acc ++ [(x, 1)]
def rollL (vs : List Int) : List (Int × Int) := vs.foldl rollStep []
theorem rollL_snoc (vs : List Int) (x : Int) : rollL (vs ++ [x]) = rollStep (rollL vs) x := by simp [rollL]
theorem rollStep_same (pre : List (Int × Int)) (x n : Int) : rollStep (pre ++ [(x, n)]) x = pre ++ [(x, n + 1)] := by simp [rollStep]
theorem rollStep_other (pre : List (Int × Int)) (x y n : Int) (h : y ≠ x) : rollStep (pre ++ [(y, n)]) x = pre ++ [(y, n)] ++ [(x, 1)] := by simp [rollStep, h]
theorem rollStep_nil (x : Int) : rollStep [] x = [(x, 1)] := rfl
/-- Behind at least one value: the last span has the last value. -/
theorem roll_last : ∀ (n : Nat) (vs : List Int), vs.length = n + 1 → ∃ pre m, rollL vs = pre ++ [(vs.getD n 0, m)] ∧ 1 ≤ m ∧ m ≤ (n : Int) + 1 ∧ pre.length ≤ n := by
  intro n
  induction n with
  | zero =>
    intro vs h
    match vs, h with
    | [x], _ => exact ⟨[], 1, by simp [rollL, rollStep], by omega, by omega, by simp⟩
  | succ n ih =>
    intro vs h
    obtain ⟨us, x, rfl⟩ : ∃ us x, vs = us ++ [x] := by
      have hne : vs ≠ [] := by intro e; simp [e] at h
      exact ⟨vs.dropLast, vs.getLast hne, (List.dropLast_concat_getLast hne).symm⟩
    have hl : us.length = n + 1 := by simpa using h
    obtain ⟨pre, m, e, h1, h2, h3⟩ := ih us hl
    have ex : (us ++ [x]).getD (n + 1) 0 = x := by simp [List.getD, hl]
    rw [rollL_snoc, e, ex]
    by_cases hx : us.getD n 0 = x
    · rw [hx]; exact ⟨pre, m + 1, rollStep_same pre x m, by omega, by omega, by omega⟩
    · refine ⟨pre ++ [(us.getD n 0, m)], 1, rollStep_other pre x _ m hx, by omega, by omega, by simp; omega⟩

theorem take_snoc (vs : List Int) (k : Nat) (h : k < vs.length) : vs.take (k + 1) = vs.take k ++ [vs.getD k 0] := by
  rw [List.take_succ_eq_append_getElem h]; simp [List.getD, h]

theorem below_draws {B : Nat} {a w : World} (h : Below B a w) (n : Nat) : Below B a (w.drewN n) := h.trans ⟨rfl, rfl, rfl, Nat.le_refl _, fun _ _ => rfl⟩
theorem two_newP (w : World) (x y : Value) (e : TypeId) : ∀ (j : Nat) (u : Value), [x, y][j]? = some u → (w.alloc (.cells #[x, y] e)).cell? ((⟨w.heap.size, 0, none⟩ : Addr).add j) = some u := by
  intro j u hj
  match j, hj with
  | 0, hj => simp at hj; subst hj; simp [Addr.add]
  | 1, hj => simp at hj; subst hj; simp [Addr.add]
theorem two_oneP (a b : Int) : ∀ u ∈ [Value.int .i64 a, .int .i64 b], u.oneCell' = true := by
  intro u hu; simp at hu; rcases hu with rfl | rfl <;> rfl
theorem flat_last (pre : List (Int × Int)) (y m : Int) (n : Nat) (h : n = pre.length) : (flat (pre ++ [(y, m)]))[n * 2 + 1]? = some (.int .i64 m) := by
  rw [flat_snoc, List.getElem?_append_right (by rw [flat_len]; omega), flat_len, h]
  simp
theorem flat_set (pre : List (Int × Int)) (y m : Int) (n : Nat) (h : n = pre.length) : (flat (pre ++ [(y, m)])).set (n * 2 + 1) (.int .i64 (m + 1)) = flat (pre ++ [(y, m + 1)]) := by
  rw [flat_snoc, flat_snoc, List.set_append_right _ _ (by rw [flat_len]; omega), flat_len, h]
  simp

/-- The relation of rolled's loop. -/
def RelR (w : World) (vs : List Int) (l i : Value) (wr : World) : Prop :=
  ∃ (k : Nat), i = .int .i64 k ∧ k ≤ vs.length ∧ wr.ownsRow w.heap.size 90 2 l (rollL (vs.take k)).length (flat (rollL (vs.take k))) ∧ Below w.heap.size w wr

end Go.Proofs.YtebjndcokkefhaaDoor
namespace Go.Proofs.YtebjndcokkefhaaDoor

/-- The spans of some values make a table of just these values. -/
theorem roll_ok : ∀ (n : Nat) (vs : List Int), vs.length = n → (∀ x ∈ vs, isV x = true) → wfN (rollL vs) (-1) ∧ sumS (rollL vs) = n ∧ unroll (rollL vs) = vs := by
  intro n
  induction n with
  | zero =>
    intro vs h _
    have : vs = [] := List.eq_nil_of_length_eq_zero h
    subst this
    exact ⟨trivial, rfl, rfl⟩
  | succ n ih =>
    intro vs h hv
    obtain ⟨us, x, rfl⟩ : ∃ us x, vs = us ++ [x] := by
      have hne : vs ≠ [] := by intro e; simp [e] at h
      exact ⟨vs.dropLast, vs.getLast hne, (List.dropLast_concat_getLast hne).symm⟩
    have hl : us.length = n := by simpa using h
    have hx : isV x = true := hv x (by simp)
    have hx' := of_decide_eq_true hx
    obtain ⟨h1, h2, h3⟩ := ih us hl (fun y hy => hv y (by simp [hy]))
    rw [rollL_snoc]
    cases n with
    | zero =>
      have : us = [] := List.eq_nil_of_length_eq_zero hl
      subst this
      exact ⟨⟨hx, by show x ≠ -1; omega, by show (1 : Int) ≤ 1; omega, trivial⟩, rfl, rfl⟩
    | succ n =>
      obtain ⟨pre, m, e, m1, _, _⟩ := roll_last n us hl
      rw [e] at h1 h2 h3 ⊢
      by_cases hxy : us.getD n 0 = x
      · rw [hxy] at h1 h2 h3 ⊢
        rw [rollStep_same]
        rw [wfN_snoc] at h1 ⊢
        rw [sumS_snoc] at h2 ⊢
        rw [unroll_snoc] at h3 ⊢
        refine ⟨⟨h1.1, h1.2.1, h1.2.2.1, by show 1 ≤ m + 1; omega⟩, by simp only at h2 ⊢; omega, ?_⟩
        have e2 : (m + 1).toNat = m.toNat + 1 := by omega
        simp only [e2] at h3 ⊢
        rw [List.replicate_succ', ← List.append_assoc, h3]
      · rw [rollStep_other _ _ _ _ hxy]
        rw [wfN_snoc, sumS_snoc, unroll_snoc, lastV_snoc]
        refine ⟨⟨h1, hx, fun e => hxy e.symm, by show (1 : Int) ≤ 1; omega⟩, by simp only at h2 ⊢; omega, ?_⟩
        rw [h3]; rfl

theorem atS_unroll : ∀ (l : List (Int × Int)) (b pc : Int), wfN l b → 0 ≤ pc → atS l pc = if pc.toNat < (unroll l).length then ((unroll l).getD pc.toNat 0, 0) else (0, 1)
  | [], b, pc, _, h => by simp [atS, unroll]
  | p :: t, b, pc, hw, h => by
    obtain ⟨hv, hvb, hn, hw2⟩ := hw
    have e : unroll (p :: t) = List.replicate p.2.toNat p.1 ++ unroll t := by simp [unroll]
    unfold atS
    by_cases hp : pc < p.2
    · rw [if_pos hp, if_pos (by rw [e]; simp; omega), e]
      have : pc.toNat < p.2.toNat := by omega
      simp [List.getD, List.getElem?_append, this]
    · rw [if_neg hp, atS_unroll t p.1 (pc - p.2) hw2 (by omega), e]
      have e2 : (pc - p.2).toNat = pc.toNat - p.2.toNat := by omega
      rw [e2]
      have hlen : (List.replicate p.2.toNat p.1 ++ unroll t).length = p.2.toNat + (unroll t).length := by simp
      rw [hlen]
      have hge : p.2.toNat ≤ pc.toNat := by omega
      by_cases h3 : pc.toNat - p.2.toNat < (unroll t).length
      · rw [if_pos h3, if_pos (by omega)]
        have : ¬ pc.toNat < p.2.toNat := by omega
        simp [List.getD, List.getElem?_append, this]
      · rw [if_neg h3, if_neg (by omega)]

theorem roll_wfT (vs : List Int) (hv : ∀ x ∈ vs, isV x = true) (h1 : 1 ≤ vs.length) (h2 : vs.length ≤ 1000) : wfT (rollL vs) = true := by
  obtain ⟨a, b, c⟩ := roll_ok vs.length vs rfl hv
  rw [wfT_iff]
  refine ⟨⟨a, by omega⟩, fun e => ?_⟩
  rw [e] at b
  simp [sumS] at b
  omega
theorem atT_roll (vs : List Int) (hv : ∀ x ∈ vs, isV x = true) (h1 : 1 ≤ vs.length) (h2 : vs.length ≤ 1000) (pc : Int) (hp : 0 ≤ pc) :
    atT (rollL vs) pc = if pc.toNat < vs.length then (vs.getD pc.toNat 0, 0) else (0, 1) := by
  obtain ⟨a, b, c⟩ := roll_ok vs.length vs rfl hv
  unfold atT
  rw [if_neg (by rw [roll_wfT vs hv h1 h2]; simp), if_neg (by omega), atS_unroll _ (-1) pc a hp, c]
theorem atT_roll_neg (vs : List Int) (hv : ∀ x ∈ vs, isV x = true) (h1 : 1 ≤ vs.length) (h2 : vs.length ≤ 1000) (pc : Int) (hp : pc < 0) : atT (rollL vs) pc = (0, 1) := by
  unfold atT
  rw [if_neg (by rw [roll_wfT vs hv h1 h2]; simp), if_pos hp]
end Go.Proofs.YtebjndcokkefhaaDoor
