/- Contract of the reference's Run, and what it answers, as plain functions. -/
import Derived.Test.YtffnfjkjlmlonaaGreatDoorZ31
import Derived.Test.YtffnfjkjlmlonaaGreatDoorZ31
namespace Go.Proofs.YtffnfjkjlmlonaaGreatDoor
open Go.RowKit

/-- The error that Run answers. -/
def runE (p : List FnD) (args : List Int) (n : Int) : Int := if (chk p).1 ≠ 0 then (chk p).1 else if givenB p args = true ∧ 0 ≤ n ∧ n ≤ 2000 then 0 else 1
/-- How the run stands that Run tells of. -/
def runS (p : List FnD) (args : List Int) (n : Int) : StandD := if runE p args n = 0 then runD p (begunD p args) n.toNat else ⟨0, 0, []⟩

theorem chkB_seven {p : List FnD} {x : FnD} {f : Nat} : ∀ (l : List OpD) (s : Nat) e, chkB p x f l s = some e → e.1 = 7 := by
  intro l
  induction l with
  | nil => intro s e h; simp [chkB] at h
  | cons o r ih =>
    intro s e h
    unfold chkB at h
    split at h
    · exact ih _ _ h
    · cases h; rfl
theorem chkF_zero {p : List FnD} : ∀ (l : List FnD) (f : Nat), (chkF p l f).1 = 0 → chkF p l f = (0, 0, 0) := by
  intro l
  induction l with
  | nil => intro f _; rfl
  | cons x r ih =>
    intro f h
    unfold chkF at h ⊢
    split at h
    · next h1 =>
      rw [if_pos h1]
      split at h
      · next e he =>
        have := chkB_seven _ _ _ he
        omega
      · next he => exact ih _ h
    · simp at h
theorem chk_zero {p : List FnD} (h : (chk p).1 = 0) : chk p = (0, 0, 0) := by
  unfold chk at h ⊢
  split at h
  · simp at h
  · next h1 => rw [if_neg h1]; exact chkF_zero _ _ h

theorem given_true {p : List FnD} {args : List Int} (h : givenB p args = true) : (args.length : Int) = (fnAt p 0).params ∧ ∀ v ∈ args, 0 ≤ v ∧ v < 1000 := by
  obtain ⟨h1, h2⟩ := andB.1 h
  exact ⟨by simpa using h2, fun v hv => withB_true (List.all_eq_true.1 h1 v hv)⟩

theorem rdNone (W : World) : RdL 3 RdFrame W none 0 0 [] := ⟨rfl, Nat.le_refl _, by unfold maxLen; omega, fun i x hx => by simp at hx⟩
theorem rdFrame_of_owns {w : World} {B n : Nat} {v : Value} {l : List FrameD} (h : w.ownsRow B 107 3 v n (l.map frCells).flatten) (hl : l.length = n) : ∃ a cap, v = .slice a n cap ∧ RdL 3 RdFrame w a n cap l :=
  RdL_of_owns h (fun c hc => by obtain ⟨x, _, rfl⟩ := List.mem_map.1 hc; rfl) (by simp [hl]) hl (fun i x cs hx hcs => by
    rw [List.getElem?_map, hx] at hcs
    simp at hcs
    exact hcs.symm)

set_option maxHeartbeats 4000000 in
set_option maxRecDepth 100000 in
theorem refRun_any (pa : Option Addr) (pcap : Nat) (p : List FnD) (aa : Option Addr) (acap : Nat) (args : List Int) (n : Int) (w : World) (hp : RdP w pa p.length pcap p) (ha : Rd .i64 w aa args.length acap args) (hn : R64 n) :
    Calls Tryz.prog 43 #[.agg #[.slice pa p.length pcap], .slice aa args.length acap, .int .i64 n] w fun e w' =>
      ∃ a cap, e = .returned (.tuple #[.agg #[.int .i64 (runS p args n).status, .int .i64 (runS p args n).value, .slice a (toldD p (runS p args n)).length cap], .int .i64 (runE p args n)]) ∧ RdL 3 RdFrame w' a (toldD p (runS p args n)).length cap (toldD p (runS p args n)) ∧ InU (fun b => w.heap.size ≤ b) a (toldD p (runS p args n)).length ∧ Below w.heap.size w w' := by
  have HCK := hid (fun (W : World) (hW : Below w.heap.size w W) => refCheck_any pa p.length pcap p W (hp.below hW))
  have hac := ha.hcap
  have ham := ha.hmax
  unfold maxLen at ham
  obtain ⟨hn1, hn2⟩ := hn
  obtain ⟨wb, hwb⟩ : ∃ wb, wb = (w.alloc (Obj.cells #[.slice pa p.length pcap] 44)).alloc (Obj.cells #[.int .i64 0, .int .i64 0, .slice none 0 0] 72) := ⟨_, rfl⟩
  have hbb : Below w.heap.size w wb := by rw [hwb]; exact ((Below.refl _ _).alloc (Nat.le_refl _) _).alloc (by simp) _
  have hbs : wb.heap.size = w.heap.size + 2 := by rw [hwb]; simp
  have k0 : wb.heap[w.heap.size]? = some (.cells #[.slice pa p.length pcap] 44 (0, 0)) := by rw [hwb]; exact heap_at1 (by simp <;> omega) (heap_new_at (by simp))
  have k1 : wb.heap[w.heap.size + 1]? = some (.cells #[.int .i64 0, .int .i64 0, .slice none 0 0] 72 (0, 0)) := by rw [hwb]; exact heap_new_at (by simp)
  have HCW := hid (HCK.out wb hbb)
  have hE : runE p args n = if (chk p).1 ≠ 0 then (chk p).1 else if givenB p args = true ∧ 0 ≤ n ∧ n ≤ 2000 then 0 else 1 := rfl
  have hS : runS p args n = if runE p args n = 0 then runD p (begunD p args) n.toNat else ⟨0, 0, []⟩ := rfl
  obtain ⟨E, hE2⟩ : ∃ E, E = runE p args n := ⟨_, rfl⟩
  obtain ⟨S, hS2⟩ : ∃ S, S = runS p args n := ⟨_, rfl⟩
  rw [← hE2, ← hS2]
  rw [← hE2] at hE hS
  rw [← hS2] at hS
  clear hE2 hS2 HCK
  have HP := hid hp
  have HA := hid ha
  have HE := hid hE
  have HS := hid hS
  have HK0 := hid k0
  have HK1 := hid k1
  have hpl := hp.2.2.1
  clear hp ha hE hS k0 k1
  obtain ⟨pl, hpl2⟩ : ∃ v, v = p.length := ⟨_, rfl⟩
  obtain ⟨al, hal2⟩ : ∃ v, v = args.length := ⟨_, rfl⟩
  rw [← hpl2] at HP HCW hwb HK0 ⊢
  rw [← hal2] at HA hac ⊢
  have HPL := hid hpl2
  have HAL := hid hal2
  clear hpl2 hal2
  go_enter Tryz.func43, Tryz.ntmps43
  go_wp2_with fail
  rw [← hwb]
  clear hwb
  refine HCW.out.mono ?_
  rintro e w1 ⟨rfl, hb1⟩
  have hsz1 := hb1.size
  have hbw1 := hbb.trans (hb1.mono hbb.size)
  have j0 := (hb1.block w.heap.size (by omega)).trans HK0.out
  have j1 := (hb1.block (w.heap.size + 1) (by omega)).trans HK1.out
  have r0 : w1.cell? ⟨w.heap.size, 0, none⟩ = some (.slice pa pl pcap) := by simp [World.cell?, j0]
  have x0 : w1.cell? ⟨w.heap.size + 1, 0, none⟩ = some (.int .i64 0) := by simp [World.cell?, j1]
  have x1 : w1.cell? ⟨w.heap.size + 1, 1, none⟩ = some (.int .i64 0) := by simp [World.cell?, j1]
  have x2 : w1.cell? ⟨w.heap.size + 1, 2, none⟩ = some (.slice none 0 0) := by simp [World.cell?, j1]
  have f0 : w1.frozen? ⟨w.heap.size + 1, 0, none⟩ = false := by simp [World.frozen?, j1]
  have f1 : w1.frozen? ⟨w.heap.size + 1, 1, none⟩ = false := by simp [World.frozen?, j1]
  have f2 : w1.frozen? ⟨w.heap.size + 1, 2, none⟩ = false := by simp [World.frozen?, j1]
  by_cases hc : (chk p).1 = 0
  · have hE1 : E = if givenB p args = true ∧ 0 ≤ n ∧ n ≤ 2000 then 0 else 1 := by rw [HE.out, if_neg (by simpa using hc)]
    have hck := chk_zero hc
    have hg := good_of hck
    have hS1 := HS.out
    have hlen := hg.len
    rw [hck]
    have HGV := hid (Given_any pa pcap p aa acap args w1 (by rw [← HPL.out]; exact HP.out.below hbw1) (by omega) (by rw [← HAL.out]; exact HA.out.below hbw1 (Nat.le_refl _)))
    rw [← HPL.out, ← HAL.out] at HGV
    cases hgv : givenB p args with
    | false =>
      rw [hgv] at HGV hE1
      have hE2 : E = 1 := by rw [hE1, if_neg (fun h => by cases h.1)]
      have hS2 : S = ⟨0, 0, []⟩ := by rw [hS1, if_neg (by rw [hE2]; decide)]
      subst hE2
      subst hS2
      clear hE1 hS1 HE HS
      go_wp2_with fail
      refine HGV.out.mono ?_
      rintro e w2 ⟨rfl, hb2⟩
      have i1 := (hb2.block (w.heap.size + 1) (by omega)).trans j1
      have z0 : w2.cell? ⟨w.heap.size + 1, 0, none⟩ = some (.int .i64 0) := by simp [World.cell?, i1]
      have z1 : w2.cell? ⟨w.heap.size + 1, 1, none⟩ = some (.int .i64 0) := by simp [World.cell?, i1]
      have z2 : w2.cell? ⟨w.heap.size + 1, 2, none⟩ = some (.slice none 0 0) := by simp [World.cell?, i1]
      have g0 : w2.frozen? ⟨w.heap.size + 1, 0, none⟩ = false := by simp [World.frozen?, i1]
      have g1 : w2.frozen? ⟨w.heap.size + 1, 1, none⟩ = false := by simp [World.frozen?, i1]
      have g2 : w2.frozen? ⟨w.heap.size + 1, 2, none⟩ = false := by simp [World.frozen?, i1]
      have HBE := hid (below_boxed (bx := w.heap.size + 1) (hbw1.trans (hb2.mono hbw1.size)) (by omega) (.int .i64 0) (.int .i64 0) (.slice none 0 0))
      go_wp2
      exact bodyPost_ret (v := .tuple #[.agg #[.int .i64 0, .int .i64 0, .slice none 0 0], .int .i64 1]) (by simp [results, Tryz.results43, go_sem, z0, z1, z2]) rfl ⟨none, 0, rfl, rdNone _, (fun h => absurd h (Nat.lt_irrefl 0)), HBE.out⟩
    | true =>
      rw [hgv] at HGV hE1
      by_cases hn0 : n < 0
      · have hE2 : E = 1 := by rw [hE1, if_neg (fun h => by omega)]
        have hS2 : S = ⟨0, 0, []⟩ := by rw [hS1, if_neg (by rw [hE2]; decide)]
        subst hE2
        subst hS2
        clear hE1 hS1 HE HS
        go_wp2_with fail
        refine HGV.out.mono ?_
        rintro e w2 ⟨rfl, hb2⟩
        have i1 := (hb2.block (w.heap.size + 1) (by omega)).trans j1
        have z0 : w2.cell? ⟨w.heap.size + 1, 0, none⟩ = some (.int .i64 0) := by simp [World.cell?, i1]
        have z1 : w2.cell? ⟨w.heap.size + 1, 1, none⟩ = some (.int .i64 0) := by simp [World.cell?, i1]
        have z2 : w2.cell? ⟨w.heap.size + 1, 2, none⟩ = some (.slice none 0 0) := by simp [World.cell?, i1]
        have g0 : w2.frozen? ⟨w.heap.size + 1, 0, none⟩ = false := by simp [World.frozen?, i1]
        have g1 : w2.frozen? ⟨w.heap.size + 1, 1, none⟩ = false := by simp [World.frozen?, i1]
        have g2 : w2.frozen? ⟨w.heap.size + 1, 2, none⟩ = false := by simp [World.frozen?, i1]
        have HBE := hid (below_boxed (bx := w.heap.size + 1) (hbw1.trans (hb2.mono hbw1.size)) (by omega) (.int .i64 0) (.int .i64 0) (.slice none 0 0))
        go_wp2
        exact bodyPost_ret (v := .tuple #[.agg #[.int .i64 0, .int .i64 0, .slice none 0 0], .int .i64 1]) (by simp [results, Tryz.results43, go_sem, z0, z1, z2]) rfl ⟨none, 0, rfl, rdNone _, (fun h => absurd h (Nat.lt_irrefl 0)), HBE.out⟩
      · have hn0' : decide (n < 0) = false := by simpa using hn0
        by_cases hn2k : 2000 < n
        · have hE2 : E = 1 := by rw [hE1, if_neg (fun h => by omega)]
          have hS2 : S = ⟨0, 0, []⟩ := by rw [hS1, if_neg (by rw [hE2]; decide)]
          subst hE2
          subst hS2
          clear hE1 hS1 HE HS
          go_wp2_with fail
          refine HGV.out.mono ?_
          rintro e w2 ⟨rfl, hb2⟩
          have i1 := (hb2.block (w.heap.size + 1) (by omega)).trans j1
          have z0 : w2.cell? ⟨w.heap.size + 1, 0, none⟩ = some (.int .i64 0) := by simp [World.cell?, i1]
          have z1 : w2.cell? ⟨w.heap.size + 1, 1, none⟩ = some (.int .i64 0) := by simp [World.cell?, i1]
          have z2 : w2.cell? ⟨w.heap.size + 1, 2, none⟩ = some (.slice none 0 0) := by simp [World.cell?, i1]
          have g0 : w2.frozen? ⟨w.heap.size + 1, 0, none⟩ = false := by simp [World.frozen?, i1]
          have g1 : w2.frozen? ⟨w.heap.size + 1, 1, none⟩ = false := by simp [World.frozen?, i1]
          have g2 : w2.frozen? ⟨w.heap.size + 1, 2, none⟩ = false := by simp [World.frozen?, i1]
          have HBE := hid (below_boxed (bx := w.heap.size + 1) (hbw1.trans (hb2.mono hbw1.size)) (by omega) (.int .i64 0) (.int .i64 0) (.slice none 0 0))
          go_wp2
          exact bodyPost_ret (v := .tuple #[.agg #[.int .i64 0, .int .i64 0, .slice none 0 0], .int .i64 1]) (by simp [results, Tryz.results43, go_sem, z0, z1, z2]) rfl ⟨none, 0, rfl, rdNone _, (fun h => absurd h (Nat.lt_irrefl 0)), HBE.out⟩
        · have hn2k' : decide (2000 < n) = false := by simpa using hn2k
          have hE2 : E = 0 := by rw [hE1, if_pos ⟨rfl, by omega, by omega⟩]
          obtain ⟨k, rfl⟩ : ∃ k : Nat, n = (k : Int) := ⟨n.toNat, by omega⟩
          have hS2 : S = runD p (begunD p args) k := by rw [hS1, if_pos hE2]; simp
          obtain ⟨hga, hgv2⟩ := given_true hgv
          have hwf := wf_run hg (wf_begun hg hga hgv2) k
          have HAF := hid (fun (W : World) (hW : Below w.heap.size w W) => After_any pa pcap p aa acap args k W hg (by rw [← HPL.out]; exact HP.out.below hW) (by rw [← HAL.out]; exact HA.out.below hW (Nat.le_refl _)) (by omega) hga hgv2)
          rw [← HPL.out, ← HAL.out, ← hS2] at HAF
          rw [← hS2] at hwf
          have HTO := hid (fun (W : World) (cs : List Value) (hW : Below w.heap.size w W) (hs : RdStandU (fun _ => True) W cs S) => Told_any pa pcap p S cs W hg (by rw [← HPL.out]; exact HP.out.below hW) hwf hs)
          rw [← HPL.out] at HTO
          subst hE2
          clear hE1 hS1 hS2 HE HS hwf hga hgv2
          go_wp2_with fail
          refine HGV.out.mono ?_
          rintro e w2 ⟨rfl, hb2⟩
          have hbw2 := hbw1.trans (hb2.mono hbw1.size)
          have hsz2 := hb2.size
          have i0 := (hb2.block w.heap.size (by omega)).trans j0
          have i1 := (hb2.block (w.heap.size + 1) (by omega)).trans j1
          have s0 : w2.cell? ⟨w.heap.size, 0, none⟩ = some (.slice pa pl pcap) := by simp [World.cell?, i0]
          clear j0 j1 r0 x0 x1 x2 f0 f1 f2
          go_wp2_with fail
          refine (HAF.out w2 hbw2).mono ?_
          rintro e w3 ⟨cs, rfl, hst, hb3⟩
          have hbw3 := hbw2.trans (hb3.mono hbw2.size)
          have hsz3 := hb3.size
          have HST := hid hst
          obtain ⟨ra, rcap, rfl, -, -⟩ := hst
          have n0 := (hb3.block w.heap.size (by omega)).trans i0
          have n1 := (hb3.block (w.heap.size + 1) (by omega)).trans i1
          have s1 : w3.cell? ⟨w.heap.size, 0, none⟩ = some (.slice pa pl pcap) := by simp [World.cell?, n0]
          have lt1 : w.heap.size < w3.heap.size := by omega
          obtain ⟨w4, hw4⟩ : ∃ w4, w4 = w3.alloc (Obj.cells #[.int .i64 S.status, .int .i64 S.value, .slice ra S.live.length rcap] 95) := ⟨_, rfl⟩
          have hb4 : Below w3.heap.size w3 w4 := by rw [hw4]; exact (Below.refl _ _).alloc (Nat.le_refl _) _
          have hs4 : w4.heap.size = w3.heap.size + 1 := by rw [hw4]; simp
          have m4 : w4.heap[w3.heap.size]? = some (.cells #[.int .i64 S.status, .int .i64 S.value, .slice ra S.live.length rcap] 95 (0, 0)) := by rw [hw4]; exact heap_alloc_new _ _
          have hbw4 := hbw3.trans (hb4.mono hbw3.size)
          have HTW := hid (HTO.out w4 _ hbw4 (HST.out.below hb4))
          clear s0 i0 i1 HTO HAF
          go_wp2_with fail
          rw [← hw4]
          clear hw4
          refine HTW.out.mono ?_
          rintro e w5 ⟨v5, rfl, hown5, hb5⟩
          obtain ⟨fa, fcap, rfl, hrd⟩ := rdFrame_of_owns hown5 rfl
          have hsz5 := hb5.size
          have m5 := (hb5.block w3.heap.size (by omega)).trans m4
          have o1 := (hb5.block (w.heap.size + 1) (by omega)).trans ((hb4.block (w.heap.size + 1) (by omega)).trans n1)
          have u0 : w5.cell? ⟨w3.heap.size, 0, none⟩ = some (.int .i64 S.status) := by simp [World.cell?, m5]
          have u1 : w5.cell? ⟨w3.heap.size, 1, none⟩ = some (.int .i64 S.value) := by simp [World.cell?, m5]
          have z0 : w5.cell? ⟨w.heap.size + 1, 0, none⟩ = some (.int .i64 0) := by simp [World.cell?, o1]
          have z1 : w5.cell? ⟨w.heap.size + 1, 1, none⟩ = some (.int .i64 0) := by simp [World.cell?, o1]
          have z2 : w5.cell? ⟨w.heap.size + 1, 2, none⟩ = some (.slice none 0 0) := by simp [World.cell?, o1]
          have g0 : w5.frozen? ⟨w.heap.size + 1, 0, none⟩ = false := by simp [World.frozen?, o1]
          have g1 : w5.frozen? ⟨w.heap.size + 1, 1, none⟩ = false := by simp [World.frozen?, o1]
          have g2 : w5.frozen? ⟨w.heap.size + 1, 2, none⟩ = false := by simp [World.frozen?, o1]
          have hU5 : InU (fun b => w4.heap.size ≤ b) fa (toldD p S).length := fun _ q hq => by
            subst hq
            exact (hown5.lt q.block rfl).1
          have hnb : ∀ k : Nat, ¬ ((fun b => w4.heap.size ≤ b) (⟨w.heap.size + 1, k, none⟩ : Addr).block) := fun k h => by
            have h' : w4.heap.size ≤ w.heap.size + 1 := h
            omega
          have HRD := hid (((hrd.keeps hU5 (Keeps.setCell (hnb 0) (.int .i64 S.status)) (R' := RdFrame) (fun _ _ h => h)).keeps hU5 (Keeps.setCell (hnb 1) (.int .i64 S.value)) (R' := RdFrame) (fun _ _ h => h)).keeps hU5 (Keeps.setCell (hnb 2) (.slice fa (toldD p S).length fcap)) (R' := RdFrame) (fun _ _ h => h))
          have HBE := hid (below_boxed (bx := w.heap.size + 1) (hbw4.trans (hb5.mono hbw4.size)) (by omega) (.int .i64 S.status) (.int .i64 S.value) (.slice fa (toldD p S).length fcap))
          have HU := hid (show InU (fun b => w.heap.size ≤ b) fa (toldD p S).length from fun h0 q hq => by
            have h' : w4.heap.size ≤ q.block := hU5 h0 q hq
            show w.heap.size ≤ q.block
            omega)
          clear hown5 hrd hU5 hnb m5 o1
          go_wp2
          exact bodyPost_ret (v := .tuple #[.agg #[.int .i64 S.status, .int .i64 S.value, .slice fa (toldD p S).length fcap], .int .i64 0]) (by simp [results, Tryz.results43, go_sem, z0, z1, z2]) rfl ⟨fa, fcap, rfl, HRD.out, HU.out, HBE.out⟩
  · have hE1 : E = (chk p).1 := by rw [HE.out, if_pos hc]
    have hS1 : S = ⟨0, 0, []⟩ := by rw [HS.out, if_neg (by rw [hE1]; exact hc)]
    obtain ⟨ce, hce⟩ : ∃ v, v = (chk p).1 := ⟨_, rfl⟩
    rw [← hce] at hc hE1 ⊢
    have hc' : (ce != 0) = true := by simpa using hc
    subst hE1
    clear hc hce
    have HBE := hid (below_boxed (bx := w.heap.size + 1) hbw1 (by omega) (.int .i64 0) (.int .i64 0) (.slice none 0 0))
    subst hS1
    go_wp2
    exact bodyPost_ret (v := .tuple #[.agg #[.int .i64 0, .int .i64 0, .slice none 0 0], .int .i64 E]) (by simp [results, Tryz.results43, go_sem, x0, x1, x2]) rfl ⟨none, 0, rfl, rdNone _, (fun h => absurd h (Nat.lt_irrefl 0)), HBE.out⟩
end Go.Proofs.YtffnfjkjlmlonaaGreatDoor
