/- The statement's world where lists of frames have come out, each written full of its number; contracts of marked and looks there: the look answers true. Contract of the statement's own World.frames: a list of frames that has come out anew is written full of its number, and kept. Contracts of the statement's own write and source at a Run, where lists of frames have come out, out of a contract of unfold.Run that is taken as a premise. Contracts of the developers' run.Behind and unfold.Run: they answer as the plain run does. Contracts of unfoldkeep's letter and file: words. -/
import Derived.Test.YtebjndcokkefhaaDoorZ23
import Derived.Test.YtebjndcokkefhaaDoorZ19
import Derived.Test.YtebjndcokkefhaaDoorZ4
import Derived.Test.YtebjndcokkefhaaDoorZ31
import Derived.Test.YtebjndcokkefhaaDoorD11
import Derived.Test.YtebjndcokkefhaaDoorT3
import Derived.Test.YtebjndcokkefhaaDoorZ2
namespace Go.Proofs.YtebjndcokkefhaaDoor
open Go.RowKit

def mkB : ByteArray := ⟨#[109, 97, 114, 107]⟩
def markD (i : Nat) : FrameD := ⟨mkB, mkB, (i : Int)⟩
def fsW (v : Value) : Array Value := #[.slice none 0 0, .slice none 0 0, .slice none 0 0, .slice none 0 0, .slice none 0 0, v, .slice none 0 0, .slice none 0 0, .slice none 0 0]
theorem ownsRow_form {w : World} {base : Nat} {e : TypeId} {size : Nat} {v : Value} {n : Nat} {xs : List Value} (h : w.ownsRow base e size v n xs) : ∃ a cap, v = .slice a n cap ∧ n ≤ cap ∧ cap ≤ maxLen ∧ (0 < n → ∃ gv, a = some ⟨gv, 0, none⟩) := by
  rcases h.2 with ⟨rfl, rfl⟩ | ⟨g, cap, cur, rfl, _, _, h1, h2, _⟩
  · exact ⟨none, 0, rfl, Nat.le_refl _, by unfold maxLen; omega, fun h => by omega⟩
  · exact ⟨_, cap, rfl, h1, h2, fun _ => ⟨g, rfl⟩⟩

end Go.Proofs.YtebjndcokkefhaaDoor
namespace Go.Proofs.YtebjndcokkefhaaDoor
open Go.RowKit

theorem Tryd.infoFrames : (Tryd.prog.info? 45).map (fun i => (i.zero, i.size, i.bytes)) = some (some (.slice none 0 0), 1, 24) := by kernel_rfl

theorem set3 (L R : List Value) (x0 x1 x2 a b c : Value) (k : Nat) (hk : L.length = k) : (((L ++ x0 :: x1 :: x2 :: R).set k a).set (k + 1) b).set (k + 2) c = L ++ a :: b :: c :: R := by
  subst hk
  simp
theorem drop3 (l : List Value) (k : Nat) (h : k + 3 ≤ l.length) : ∃ x0 x1 x2, l.drop k = x0 :: x1 :: x2 :: l.drop (k + 3) := by
  refine ⟨l[k]'(by omega), l[k + 1]'(by omega), l[k + 2]'(by omega), ?_⟩
  rw [List.drop_eq_getElem_cons (by omega), List.drop_eq_getElem_cons (i := k + 1) (by omega), List.drop_eq_getElem_cons (i := k + 1 + 1) (by omega)]

end Go.Proofs.YtebjndcokkefhaaDoor
namespace Go.Proofs.YtebjndcokkefhaaDoor
open Go.RowKit

/-- What is asked of unfold.Run: the plain answer, its frames in a list of their own; nothing that was there is written. -/
def RunGives : Prop := ∀ (pa : Option Addr) (pcap : Nat) (p : List FnD) (aa : Option Addr) (acap : Nat) (args : List Int) (n : Int) (w : World), RdP w pa p.length pcap p → Rd .i64 w aa args.length acap args → R64 n →
  Calls Tryd.prog 16 #[.agg #[.slice pa p.length pcap], .slice aa args.length acap, .int .i64 n] w fun e w' =>
    ∃ a cap, e = .returned (.tuple #[.agg #[.int .i64 (runS p args n).status, .int .i64 (runS p args n).value, .slice a (toldD p (runS p args n)).length cap], .int .i64 (runE p args n)]) ∧
      w'.ownsRow w.heap.size 93 3 (.slice a (toldD p (runS p args n)).length cap) (toldD p (runS p args n)).length ((toldD p (runS p args n)).map frCells).flatten ∧ Below w.heap.size w w'

end Go.Proofs.YtebjndcokkefhaaDoor
namespace Go.Proofs.YtebjndcokkefhaaDoor
open Go.RowKit

theorem strip_len (p : List FnD) : (strip p).length = p.length := by unfold strip; simp

/-- What is asked of run.Behind, and of unfold.Run. -/
def Answers (f : FuncId) : Prop := ∀ (pa : Option Addr) (pcap : Nat) (p : List FnD) (aa : Option Addr) (acap : Nat) (args : List Int) (n : Int) (w : World), RdP w pa p.length pcap p → Rd .i64 w aa args.length acap args → R64 n →
  Calls Tryd.prog f #[.agg #[.slice pa p.length pcap], .slice aa args.length acap, .int .i64 n] w fun e w' =>
    ∃ a cap, e = .returned (.tuple #[.agg #[.int .i64 (runS p args n).status, .int .i64 (runS p args n).value, .slice a (toldD p (runS p args n)).length cap], .int .i64 (runE p args n)]) ∧
      w'.ownsRow w.heap.size 93 3 (.slice a (toldD p (runS p args n)).length cap) (toldD p (runS p args n)).length ((toldD p (runS p args n)).map frCells).flatten ∧ Below w.heap.size w w'

set_option maxHeartbeats 4000000 in
set_option maxRecDepth 100000 in
theorem Behind_any : Answers 30 := by
  intro pa pcap p aa acap args n w hp ha hn
  have HNW := hid (fun (W : World) (hW : Below w.heap.size w W) => New_any pa pcap p aa acap args W (hp.below hW) (ha.below hW (Nat.le_refl _)))
  obtain ⟨hn1, hn2⟩ := hn
  obtain ⟨wb, hwb⟩ : ∃ wb, wb = (w.alloc (Obj.cells #[.slice pa p.length pcap] 24)).alloc (Obj.cells #[.int .i64 0, .int .i64 0, .slice none 0 0] 47) := ⟨_, rfl⟩
  have hbb : Below w.heap.size w wb := by rw [hwb]; exact ((Below.refl _ _).alloc (Nat.le_refl _) _).alloc (by simp) _
  have hbs : wb.heap.size = w.heap.size + 2 := by rw [hwb]; simp
  have k1 : wb.heap[w.heap.size + 1]? = some (.cells #[.int .i64 0, .int .i64 0, .slice none 0 0] 47 (0, 0)) := by rw [hwb]; exact heap_new_at (by simp)
  have HNB := hid (HNW.out wb hbb)
  have hE : runE p args n = if (chk p).1 ≠ 0 then (chk p).1 else if givenB p args = true ∧ 0 ≤ n ∧ n ≤ 2000 then 0 else 1 := rfl
  have hS : runS p args n = if runE p args n = 0 then runD p (begunD p args) n.toNat else ⟨0, 0, []⟩ := rfl
  obtain ⟨E, hE2⟩ : ∃ E, E = runE p args n := ⟨_, rfl⟩
  obtain ⟨R, hS2⟩ : ∃ R, R = runS p args n := ⟨_, rfl⟩
  rw [← hE2, ← hS2]
  rw [← hE2] at hE hS
  rw [← hS2] at hS
  clear hE2 hS2 HNW hp ha
  have HE := hid hE
  have HS := hid hS
  have HK1 := hid k1
  clear hE hS k1
  obtain ⟨pl, hpl2⟩ : ∃ v, v = p.length := ⟨_, rfl⟩
  obtain ⟨al, hal2⟩ : ∃ v, v = args.length := ⟨_, rfl⟩
  rw [← hpl2] at HNB hwb ⊢
  rw [← hal2] at HNB ⊢
  have HPL := hid hpl2
  have HAL := hid hal2
  clear hpl2 hal2
  go_enter Tryd.func30, Tryd.ntmps30
  go_wp2_with fail
  rw [← hwb]
  clear hwb
  refine HNB.out.mono ?_
  clear HNB
  rintro e w1 ⟨hb1, hcase⟩
  have hs1 := hb1.size
  have hbw1 := hbb.trans (hb1.mono hbb.size)
  have j1 := (hb1.block (w.heap.size + 1) (by omega)).trans HK1.out
  have x0 : w1.cell? ⟨w.heap.size + 1, 0, none⟩ = some (.int .i64 0) := by simp [World.cell?, j1]
  have x1 : w1.cell? ⟨w.heap.size + 1, 1, none⟩ = some (.int .i64 0) := by simp [World.cell?, j1]
  have x2 : w1.cell? ⟨w.heap.size + 1, 2, none⟩ = some (.slice none 0 0) := by simp [World.cell?, j1]
  have f0 : w1.frozen? ⟨w.heap.size + 1, 0, none⟩ = false := by simp [World.frozen?, j1]
  have f1 : w1.frozen? ⟨w.heap.size + 1, 1, none⟩ = false := by simp [World.frozen?, j1]
  have f2 : w1.frozen? ⟨w.heap.size + 1, 2, none⟩ = false := by simp [World.frozen?, j1]
  have lt1 : w.heap.size + 1 < w1.heap.size := by omega
  have hsw := hbw1.size
  rcases hcase with ⟨hc, rfl⟩ | ⟨hc, hgv, rfl⟩ | ⟨hc, hgv, qa, qcap, v, w0, rfl, hrp, hbw0, hb01, hrow⟩
  · have hE1 : E = (chk p).1 := by rw [HE.out, if_pos hc]
    have hS1 : R = ⟨0, 0, []⟩ := by rw [HS.out, if_neg (by rw [hE1]; exact hc)]
    rw [← hE1] at hc ⊢
    have hc' : (E != 0) = true := by simpa using hc
    subst hS1
    simp only [noRun]
    have HBE := hid (fun (A : Obj) => (below_boxed (bx := w.heap.size + 1) hbw1 (by omega) (.int .i64 0) (.int .i64 0) (.slice none 0 0)).alloc (by simp; omega) A)
    clear hE1 HE HS j1
    go_wp2
    exact bodyPost_ret (v := .tuple #[.agg #[.int .i64 0, .int .i64 0, .slice none 0 0], .int .i64 E]) (by simp [results, Tryd.results30, go_sem, x0, x1, x2, lt1]) rfl ⟨none, 0, rfl, World.ownsRow_nil _ _ _ _, HBE.out _⟩
  · have hE1 : E = 1 := by rw [HE.out, if_neg (by simpa using hc), if_neg (fun h => by rw [hgv] at h; cases h.1)]
    have hS1 : R = ⟨0, 0, []⟩ := by rw [HS.out, if_neg (by rw [hE1]; decide)]
    subst hS1
    subst hE1
    simp only [noRun]
    have HBE := hid (fun (A : Obj) => (below_boxed (bx := w.heap.size + 1) hbw1 (by omega) (.int .i64 0) (.int .i64 0) (.slice none 0 0)).alloc (by simp; omega) A)
    clear HE HS j1
    go_wp2
    exact bodyPost_ret (v := .tuple #[.agg #[.int .i64 0, .int .i64 0, .slice none 0 0], .int .i64 1]) (by simp [results, Tryd.results30, go_sem, x0, x1, x2, lt1]) rfl ⟨none, 0, rfl, World.ownsRow_nil _ _ _ _, HBE.out _⟩
  · obtain ⟨va, vc, rfl⟩ : ∃ va vc, v = .slice va 1 vc := by
      rcases hrow.2 with ⟨h1, h2⟩ | ⟨g, c', cur, h1, _⟩
      · omega
      · exact ⟨_, _, h1⟩
    have hg := good_of (chk_zero hc)
    have hgt := given_true hgv
    have hf0 := hg.fns 0 _ (fnAt_some (p := p) (n := 0) (by have := hg.len; omega))
    obtain ⟨w2, hw2⟩ : ∃ w2, w2 = w1.alloc (Obj.cells #[.slice qa pl qcap, .slice va 1 vc, .int .i64 0, .int .i64 0] 81) := ⟨_, rfl⟩
    have hb2 : Below w1.heap.size w1 w2 := by rw [hw2]; exact (Below.refl _ _).alloc (Nat.le_refl _) _
    have hs2 : w2.heap.size = w1.heap.size + 1 := by rw [hw2]; simp
    have hs01 := hb01.size
    have hR : RunAt ⟨81, [], fun _ => none⟩ w0 (strip p) w1.heap.size w2 (begunD (strip p) args) := by
      rw [begunD_strip]
      have hfl := hf0.locals
      have hfp := hf0.params
      have hfm : ((begunD p args).live.map frmCells).flatten = frmCells ⟨0, 0, args⟩ := by
        show (([(⟨0, 0, fillI args (fnAt p 0).locals.toNat args.length⟩ : LiveD)]).map frmCells).flatten = _
        simp only [List.map_cons, List.map_nil, List.flatten_cons, List.flatten_nil, List.append_nil]
        unfold frmCells
        dsimp only
        rw [pad8_fill (by have := hgt.1; omega) (by omega)]
      refine ⟨qa, qcap, .slice va 1 vc, ?_, ?_, hb01.trans (hb2.mono hs01), hs01, ?_, fun e => ?_, fun _ _ h => by cases h⟩
      · rw [hw2, strip_len, ← HPL.out]
        exact heap_new_at rfl
      · rw [strip_len, ← HPL.out]; exact hrp w0 (fun _ _ _ => rfl)
      · rw [hfm]
        exact ownsRow_below hrow hb2
      · have := (hrow.lt _ e).2
        omega
    by_cases hnn : 0 ≤ n ∧ n ≤ 2000
    · have hE1 : E = 0 := by rw [HE.out, if_neg (by simpa using hc), if_pos ⟨hgv, hnn⟩]
      have hS1 : R = runD p (begunD p args) n.toNat := by rw [HS.out, if_pos hE1]
      obtain ⟨nN, rfl⟩ : ∃ nN : Nat, n = (nN : Int) := ⟨n.toNat, by omega⟩
      have hS2 : R = runD (strip p) (begunD (strip p) args) nN := by rw [hS1, runD_strip, begunD_strip]; simp
      have hT : toldD p R = toldD (strip p) R := (toldD_strip p R).symm
      have HT := hid hT
      have hgs := good_strip hg
      have hwfs : Wf (strip p) (begunD (strip p) args) := wf_begun hgs (by rw [fnAt_strip]; exact hgt.1) hgt.2
      have HST := hid (Step_any _ w0 (strip p) w1.heap.size (begunD (strip p) args) nN w2 hgs hwfs hR (by omega))
      have HWR := hid (wf_run hgs hwfs nN)
      rw [← hS2] at HST HWR
      have HGS := hid hgs
      subst hE1
      have h1' : (nN : Int) ≤ 2000 := hnn.2
      clear hS1 hS2 hT hgs hwfs hR HE HS hgt hf0 hrow hrp hc hgv hg
      go_wp2_with fail
      rw [← hw2]
      refine HST.out.mono ?_
      clear HST hw2 x0 x1 x2 f0 f1 f2
      rintro e w3 ⟨rfl, hr3⟩
      have hb03 : Below w0.heap.size w0 w3 := by
        obtain ⟨_, _, _, _, _, h, _, _⟩ := hr3
        exact h
      have HSA := hid (State_any _ w0 (strip p) w1.heap.size R w3 HGS.out HWR.out hr3)
      have hs03 := hb03.size
      have hsb0 := hbw0.size
      have hbb3 := hbw0.trans (hb03.mono hsb0)
      have hs3 := hbb3.size
      clear hr3
      go_wp2_with fail
      refine HSA.out.mono ?_
      clear HSA
      rintro e w4 ⟨a, cap, rfl, how, hb4⟩
      have hbb4 := hbb3.trans (hb4.mono hs3)
      have hbw4 := hbb.trans (hbb4.mono hbb.size)
      have j4 := (hbb4.block (w.heap.size + 1) (by omega)).trans HK1.out
      have x0 : w4.cell? ⟨w.heap.size + 1, 0, none⟩ = some (.int .i64 0) := by simp [World.cell?, j4]
      have x1 : w4.cell? ⟨w.heap.size + 1, 1, none⟩ = some (.int .i64 0) := by simp [World.cell?, j4]
      have x2 : w4.cell? ⟨w.heap.size + 1, 2, none⟩ = some (.slice none 0 0) := by simp [World.cell?, j4]
      have f0 : w4.frozen? ⟨w.heap.size + 1, 0, none⟩ = false := by simp [World.frozen?, j4]
      have f1 : w4.frozen? ⟨w.heap.size + 1, 1, none⟩ = false := by simp [World.frozen?, j4]
      have f2 : w4.frozen? ⟨w.heap.size + 1, 2, none⟩ = false := by simp [World.frozen?, j4]
      obtain ⟨tl, htl⟩ : ∃ v, v = (toldD (strip p) R).length := ⟨_, rfl⟩
      rw [← htl] at how
      rw [← htl]
      have hne : (Value.slice a tl cap).ownBlock ≠ some (w.heap.size + 1) := fun e => by have := (how.lt _ e).1; omega
      have HBE := hid (below_boxed (bx := w.heap.size + 1) hbw4 (by omega) (.int .i64 R.status) (.int .i64 R.value) (.slice a tl cap))
      have h3 := ownsRow_setCell_other (ownsRow_setCell_other (ownsRow_setCell_other how (a := ⟨w.heap.size + 1, 0, none⟩) hne (.int .i64 R.status)) (a := ⟨w.heap.size + 1, 1, none⟩) hne (.int .i64 R.value)) (a := ⟨w.heap.size + 1, 2, none⟩) hne (.slice a tl cap)
      have HOW := hid (owns_lower h3 (base' := w.heap.size) (by omega))
      have HTL := hid htl
      clear how h3 j4 htl
      go_wp2
      exact bodyPost_ret (v := .tuple #[.agg #[.int .i64 R.status, .int .i64 R.value, .slice a tl cap], .int .i64 0]) (by simp [results, Tryd.results30, go_sem, x0, x1, x2]) rfl ⟨a, cap, by rw [HT.out, ← HTL.out], by rw [HT.out, ← HTL.out]; exact HOW.out, HBE.out⟩
    · have hE1 : E = 1 := by rw [HE.out, if_neg (by simpa using hc), if_neg (fun h => hnn h.2)]
      have hS1 : R = ⟨0, 0, []⟩ := by rw [HS.out, if_neg (by rw [hE1]; decide)]
      subst hS1
      subst hE1
      have HBE := hid (fun (A : Obj) => (below_boxed (bx := w.heap.size + 1) hbw1 (by omega) (.int .i64 0) (.int .i64 0) (.slice none 0 0)).alloc (by simp; omega) A)
      clear HE HS j1 hw2 hR hgt hf0 hrow hrp hc hgv hg hb2
      have HSB := hid (fun (W : World) => Step_bad w1.heap.size n W hnn)
      go_wp2_with fail
      refine (HSB.out _).mono ?_
      rintro e w3 ⟨rfl, rfl⟩
      go_wp2
      exact bodyPost_ret (v := .tuple #[.agg #[.int .i64 0, .int .i64 0, .slice none 0 0], .int .i64 1]) (by simp [results, Tryd.results30, go_sem, x0, x1, x2, lt1]) rfl ⟨none, 0, rfl, World.ownsRow_nil _ _ _ _, HBE.out _⟩

set_option maxHeartbeats 4000000 in
set_option maxRecDepth 100000 in
theorem run_answers : Answers 16 := by
  intro pa pcap p aa acap args n w hp ha hn
  have HB := hid (fun (W : World) (hW : Below w.heap.size w W) => Behind_any pa pcap p aa acap args n W (hp.below hW) (ha.below hW (Nat.le_refl _)) hn)
  obtain ⟨wb, hwb⟩ : ∃ wb, wb = (w.alloc (Obj.cells #[.slice pa p.length pcap] 24)).alloc (Obj.cells #[.int .i64 0, .int .i64 0, .slice none 0 0] 47) := ⟨_, rfl⟩
  have hbb : Below w.heap.size w wb := by rw [hwb]; exact ((Below.refl _ _).alloc (Nat.le_refl _) _).alloc (by simp) _
  have hbs : wb.heap.size = w.heap.size + 2 := by rw [hwb]; simp
  have k1 : wb.heap[w.heap.size + 1]? = some (.cells #[.int .i64 0, .int .i64 0, .slice none 0 0] 47 (0, 0)) := by rw [hwb]; exact heap_new_at (by simp)
  have HBB := hid (HB.out wb hbb)
  clear HB hp ha
  generalize runE p args n = E at *
  generalize runS p args n = R at *
  generalize toldD p R = fr at *
  obtain ⟨tl, htl⟩ : ∃ v, v = fr.length := ⟨_, rfl⟩
  rw [← htl] at HBB ⊢
  have HK1 := hid k1
  generalize p.length = pl at *
  generalize args.length = al at *
  clear k1 htl
  go_enter Tryd.func16, Tryd.ntmps16
  go_wp2_with fail
  rw [← hwb]
  clear hwb
  refine HBB.out.mono ?_
  clear HBB
  rintro e w4 ⟨a, cap, rfl, how, hb4⟩
  have hbw4 := hbb.trans (hb4.mono hbb.size)
  have j4 := (hb4.block (w.heap.size + 1) (by omega)).trans HK1.out
  have x0 : w4.cell? ⟨w.heap.size + 1, 0, none⟩ = some (.int .i64 0) := by simp [World.cell?, j4]
  have x1 : w4.cell? ⟨w.heap.size + 1, 1, none⟩ = some (.int .i64 0) := by simp [World.cell?, j4]
  have x2 : w4.cell? ⟨w.heap.size + 1, 2, none⟩ = some (.slice none 0 0) := by simp [World.cell?, j4]
  have f0 : w4.frozen? ⟨w.heap.size + 1, 0, none⟩ = false := by simp [World.frozen?, j4]
  have f1 : w4.frozen? ⟨w.heap.size + 1, 1, none⟩ = false := by simp [World.frozen?, j4]
  have f2 : w4.frozen? ⟨w.heap.size + 1, 2, none⟩ = false := by simp [World.frozen?, j4]
  have hne : (Value.slice a tl cap).ownBlock ≠ some (w.heap.size + 1) := fun e => by have := (how.lt _ e).1; omega
  have HBE := hid (below_boxed (bx := w.heap.size + 1) hbw4 (by omega) (.int .i64 R.status) (.int .i64 R.value) (.slice a tl cap))
  have h3 := ownsRow_setCell_other (ownsRow_setCell_other (ownsRow_setCell_other how (a := ⟨w.heap.size + 1, 0, none⟩) hne (.int .i64 R.status)) (a := ⟨w.heap.size + 1, 1, none⟩) hne (.int .i64 R.value)) (a := ⟨w.heap.size + 1, 2, none⟩) hne (.slice a tl cap)
  have HOW := hid (owns_lower h3 (base' := w.heap.size) (by omega))
  clear how h3 j4
  go_wp2
  exact bodyPost_ret (v := .tuple #[.agg #[.int .i64 R.status, .int .i64 R.value, .slice a tl cap], .int .i64 E]) (by simp [results, Tryd.results16, go_sem, x0, x1, x2]) rfl ⟨a, cap, rfl, HOW.out, HBE.out⟩

theorem run_gives : RunGives := run_answers
end Go.Proofs.YtebjndcokkefhaaDoor
namespace Go.Proofs.YtebjndcokkefhaaDoor
open Go.RowKit

/-- A word of one letter. -/
def letterD (i : Nat) : ByteArray := strOfNums [97 + (i : Int)]

set_option maxHeartbeats 4000000 in
set_option maxRecDepth 100000 in
theorem letter_any (i : Nat) (w : World) (hi : i < 26) :
    Calls Tryd.prog 56 #[.int .i64 i] w fun e w' => e = .returned (.string (letterD i)) ∧ Below w.heap.size w w' := by
  obtain ⟨wA, hwA⟩ : ∃ v, v = w.alloc (Obj.cells #[.int .u8 (97 + (i : Int))] 5) := ⟨_, rfl⟩
  have hbA : Below w.heap.size w wA := by rw [hwA]; exact (Below.refl _ _).alloc (Nat.le_refl _) _
  have kA : wA.heap[w.heap.size]? = some (.cells #[.int .u8 (97 + (i : Int))] 5 (0, 0)) := by rw [hwA]; exact heap_new_at rfl
  have v1 := run_convert_bytes_arg (P := Tryd.prog) wA 26 5 Tryd.underlying26 Tryd.underlying5 w.heap.size 0 1 1 [97 + (i : Int)] rfl (fun j hj => by
    have : j = 0 := by omega
    subst this
    simp [World.cell?, kA]) 9 Tryd.underlying9
  rw [hwA] at v1 hbA
  clear kA hwA wA
  go_enter Tryd.func56, Tryd.ntmps56
  go_wp2
  go_ret
  exact ⟨rfl, hbA⟩

/-- One of three files. -/
def fileD (n : Nat) : ByteArray := if n % 3 = 0 then strOfNums [120, 47, 111, 110, 101] else letterD (n % 3)

set_option maxHeartbeats 4000000 in
set_option maxRecDepth 100000 in
theorem file_any (s : ByteArray) (w : World) (hs : s.size ≤ maxLen) :
    Calls Tryd.prog 57 #[.string s] w fun e w' => e = .returned (.string (fileD s.size)) ∧ Below w.heap.size w w' := by
  obtain ⟨n, hn⟩ : ∃ v, v = s.size := ⟨_, rfl⟩
  unfold maxLen at hs
  rw [← hn] at hs ⊢
  have hmod : ((n : Int) % 3) = ((n % 3 : Nat) : Int) := by omega
  have hlt : n % 3 < 26 := by omega
  have HL := hid (letter_any (n % 3) w hlt)
  by_cases h0 : n % 3 = 0
  · have HF : Hid (fileD n = ⟨#[120, 47, 111, 110, 101]⟩) := hid (by unfold fileD; rw [if_pos h0]; rfl)
    have h1 : ((s.size : Int) % 3 == 0) = true := by rw [← hn, hmod, h0]; rfl
    clear HL
    go_enter Tryd.func57, Tryd.ntmps57
    go_wp2
    go_ret
    exact ⟨by rw [HF.out]; rfl, Below.refl _ _⟩
  · have HF : Hid (fileD n = letterD (n % 3)) := hid (by unfold fileD; rw [if_neg h0])
    have h1 : ((s.size : Int) % 3 == 0) = false := by
      have : ((s.size : Int) % 3) ≠ 0 := by omega
      simpa using this
    rw [← hmod, hn] at HL
    go_enter Tryd.func57, Tryd.ntmps57
    go_wp2_with fail
    refine HL.out.mono ?_
    rintro e w1 ⟨rfl, hb1⟩
    go_wp2
    go_ret
    exact ⟨by rw [HF.out, hn]; rfl, hb1⟩
end Go.Proofs.YtebjndcokkefhaaDoor
