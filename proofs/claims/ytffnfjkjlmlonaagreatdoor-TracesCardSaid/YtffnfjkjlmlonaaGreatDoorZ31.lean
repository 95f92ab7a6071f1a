/- Contract of unfoldref.After: so many steps. Contracts of unfoldref.Told and unfoldref.Given: the frames that are told; whether a run may begin. -/
import Derived.Test.YtffnfjkjlmlonaaGreatDoorR10
import Derived.Test.YtffnfjkjlmlonaaGreatDoorZ8
import Derived.Deep.RegionLaw
import Derived.Deep.AppendLies
namespace Go.Proofs.YtffnfjkjlmlonaaGreatDoor
open Go.RowKit

set_option maxHeartbeats 2000000 in
set_option maxRecDepth 100000 in
theorem Begun_new (pa : Option Addr) (pcap : Nat) (p : List FnD) (x : FnD) (n : Nat) (aa : Option Addr) (acap : Nat) (args : List Int) (w : World) (hr : RdP w pa p.length pcap p) (hx : p[0]? = some x) (hn : x.locals = n) (hn1 : n ≤ 1000)
    (ha : Rd .i64 w aa args.length acap args) (hal : args.length ≤ n) :
    Calls Tryz.prog 120 #[.agg #[.slice pa p.length pcap], .slice aa args.length acap] w fun e w' =>
      ∃ cs, e = .returned (.agg cs.toArray) ∧ RdStandU (fun b => w.heap.size ≤ b) w' cs ⟨0, 0, [⟨0, 0, fillI args n args.length⟩]⟩ ∧ Below w.heap.size w w' := by
  have HF := hid (fun (W : World) (hW : Below w.heap.size w W) => fresh_any pa pcap p 0 x n aa acap args W (hr.below hW) hx hn hn1 (ha.below hW (Nat.le_refl _)) hal)
  clear hr ha hx hn hal
  generalize fillI args n args.length = loc at *
  generalize p.length = pl at *
  generalize args.length = al at *
  go_enter Tryz.func120, Tryz.ntmps120
  go_wp2_with fail
  obtain ⟨wb, hwb⟩ : ∃ wb, wb = (w.alloc (Obj.cells #[.slice pa pl pcap] 44)).alloc (Obj.cells #[.int .i64 0, .int .i64 0, .slice none 0 0] 95) := ⟨_, rfl⟩
  have hbb : Below w.heap.size w wb := by rw [hwb]; exact ((Below.refl _ _).alloc (Nat.le_refl _) _).alloc (by simp) _
  have hbs : wb.heap.size = w.heap.size + 2 := by rw [hwb]; simp
  have hk2 : wb.heap[w.heap.size + 1]? = some (.cells #[.int .i64 0, .int .i64 0, .slice none 0 0] 95 (0, 0)) := by
    rw [hwb]
    have := heap_alloc_new (w.alloc (Obj.cells #[.slice pa pl pcap] 44)) (Obj.cells #[.int .i64 0, .int .i64 0, .slice none 0 0] 95)
    simpa using this
  rw [← hwb]
  clear hwb
  refine (HF.out wb hbb).mono ?_
  rintro e w2 ⟨cs, rfl, hlive, ⟨g, gn, gc, hg, hg2⟩, hb2⟩
  obtain ⟨la, lcap, rfl, hrd⟩ := hlive
  simp at hg2
  obtain ⟨rfl, rfl, rfl⟩ := hg2
  have HRD := hid hrd
  clear hrd
  have hs2 := hb2.size
  have m2 := (hb2.block (w.heap.size + 1) (by omega)).trans hk2
  have q0 : w2.cell? ⟨w.heap.size + 1, 0, none⟩ = some (.int .i64 0) := by simp [World.cell?, m2]
  have q1 : w2.cell? ⟨w.heap.size + 1, 1, none⟩ = some (.int .i64 0) := by simp [World.cell?, m2]
  have q2 : w2.cell? ⟨w.heap.size + 1, 2, none⟩ = some (.slice none 0 0) := by simp [World.cell?, m2]
  have z0 : w2.frozen? ⟨w.heap.size + 1, 0, none⟩ = false := by simp [World.frozen?, m2]
  have z1 : w2.frozen? ⟨w.heap.size + 1, 1, none⟩ = false := by simp [World.frozen?, m2]
  have z2 : w2.frozen? ⟨w.heap.size + 1, 2, none⟩ = false := by simp [World.frozen?, m2]
  have m3 : ((w2.alloc (Obj.cells #[.int .i64 0, .int .i64 0, .slice (some ⟨g, 0, none⟩) loc.length lcap] 172)).alloc (Obj.cells #[.int .i64 0, .int .i64 0, .slice (some ⟨g, 0, none⟩) loc.length lcap] 172)).heap[w.heap.size + 1]? = some (.cells #[.int .i64 0, .int .i64 0, .slice none 0 0] 95 (0, 0)) := by
    rw [heap_alloc_old _ _ (by simp; omega), heap_alloc_old _ _ (by omega)]
    exact m2
  obtain ⟨w3, hw3⟩ : ∃ w3, w3 = (w2.alloc (Obj.cells #[.int .i64 0, .int .i64 0, .slice (some ⟨g, 0, none⟩) loc.length lcap] 172)).alloc (Obj.cells #[.int .i64 0, .int .i64 0, .slice (some ⟨g, 0, none⟩) loc.length lcap] 172) := ⟨_, rfl⟩
  rw [← hw3] at m3
  have hb3 : Below w.heap.size w w3 := by rw [hw3]; exact (((hbb.trans (hb2.mono (by omega))).alloc (by omega) _).alloc (by simp; omega) _)
  have hb23 : Below w2.heap.size w2 w3 := by rw [hw3]; exact ((Below.refl _ _).alloc (Nat.le_refl _) _).alloc (by simp) _
  have k3 : w3.heap[w2.heap.size + 1]? = some (.cells #[.int .i64 0, .int .i64 0, .slice (some ⟨g, 0, none⟩) loc.length lcap] 172 (0, 0)) := by
    rw [hw3]
    have := heap_alloc_new (w2.alloc (Obj.cells #[.int .i64 0, .int .i64 0, .slice (some ⟨g, 0, none⟩) loc.length lcap] 172)) (Obj.cells #[.int .i64 0, .int .i64 0, .slice (some ⟨g, 0, none⟩) loc.length lcap] 172)
    simpa using this
  clear hk2 m2 q0 q1 q2 z0 z1 z2
  have q0 : w3.cell? ⟨w.heap.size + 1, 0, none⟩ = some (.int .i64 0) := by simp [World.cell?, m3]
  have q1 : w3.cell? ⟨w.heap.size + 1, 1, none⟩ = some (.int .i64 0) := by simp [World.cell?, m3]
  have q2 : w3.cell? ⟨w.heap.size + 1, 2, none⟩ = some (.slice none 0 0) := by simp [World.cell?, m3]
  have z0 : w3.frozen? ⟨w.heap.size + 1, 0, none⟩ = false := by simp [World.frozen?, m3]
  have z1 : w3.frozen? ⟨w.heap.size + 1, 1, none⟩ = false := by simp [World.frozen?, m3]
  have z2 : w3.frozen? ⟨w.heap.size + 1, 2, none⟩ = false := by simp [World.frozen?, m3]
  rw [hw3] at q0 q1 q2 z0 z1 z2
  have hgw : w.heap.size + 2 ≤ g := by omega
  clear hg
  go_wp2
  rw [← hw3] at q0 q1 q2 ⊢
  have hbe := ((hb3.setCell (p := ⟨w.heap.size + 1, 0, none⟩) (by show w.heap.size ≤ w.heap.size + 1; omega) (.int .i64 0)).setCell (p := ⟨w.heap.size + 1, 1, none⟩) (by show w.heap.size ≤ w.heap.size + 1; omega) (.int .i64 0)).setCell (p := ⟨w.heap.size + 1, 2, none⟩) (by show w.heap.size ≤ w.heap.size + 1; omega) (.slice (some ⟨w2.heap.size + 1, 0, none⟩) 1 1)
  have hr3 := (((HRD.out.below hb23 (Nat.le_refl _)).setOther (b := w.heap.size + 1) (by omega) 0 (.int .i64 0)).setOther (b := w.heap.size + 1) (by omega) 1 (.int .i64 0)).setOther (b := w.heap.size + 1) (by omega) 2 (.slice (some ⟨w2.heap.size + 1, 0, none⟩) 1 1)
  have k4 : (((w3.setCell ⟨w.heap.size + 1, 0, none⟩ (.int .i64 0)).setCell ⟨w.heap.size + 1, 1, none⟩ (.int .i64 0)).setCell ⟨w.heap.size + 1, 2, none⟩ (.slice (some ⟨w2.heap.size + 1, 0, none⟩) 1 1)).heap[w2.heap.size + 1]? = some (.cells #[.int .i64 0, .int .i64 0, .slice (some ⟨g, 0, none⟩) loc.length lcap] 172 (0, 0)) := by
    rw [Below.heap_setCell _ _ _ _ (by show w2.heap.size + 1 ≠ w.heap.size + 1; omega), Below.heap_setCell _ _ _ _ (by show w2.heap.size + 1 ≠ w.heap.size + 1; omega), Below.heap_setCell _ _ _ _ (by show w2.heap.size + 1 ≠ w.heap.size + 1; omega)]
    exact k3
  refine bodyPost_ret (v := .agg #[.int .i64 0, .int .i64 0, .slice (some ⟨w2.heap.size + 1, 0, none⟩) 1 1]) (by simp [results, Tryz.results120, go_sem, q0, q1, q2]) rfl ⟨[.int .i64 0, .int .i64 0, .slice (some ⟨w2.heap.size + 1, 0, none⟩) 1 1], rfl, ⟨some ⟨w2.heap.size + 1, 0, none⟩, 1, rfl, ⟨rfl, Nat.le_refl _, by unfold maxLen; simp, fun i x hx => ?_⟩, fun _ q hq => by cases hq; show w.heap.size ≤ w2.heap.size + 1; omega⟩, hbe⟩
  have hi0 : i = 0 := by
    have := (List.getElem?_eq_some_iff.1 hx).1
    simpa using this
  subst hi0
  simp at hx
  subst hx
  refine ⟨w2.heap.size + 1, 0, [.int .i64 0, .int .i64 0, .slice (some ⟨g, 0, none⟩) loc.length lcap], rfl, rfl, fun j v hj => ?_, some ⟨g, 0, none⟩, lcap, rfl, hr3, fun _ q hq => by cases hq; show w.heap.size ≤ g; omega⟩
  match j, hj with
  | 0, hj => simp at hj; subst hj; simp [World.cell?, k4]
  | 1, hj => simp at hj; subst hj; simp [World.cell?, k4]
  | 2, hj => simp at hj; subst hj; simp [World.cell?, k4]

theorem Next_any (U : Nat → Prop) (pa : Option Addr) (pcap : Nat) (p : List FnD) (s : StandD) (cs : List Value) (w : World) (hg : Good p) (hp : RdP w pa p.length pcap p) (hw : Wf p s) (hs : RdStandU U w cs s) :
    Calls Tryz.prog 122 #[.agg #[.slice pa p.length pcap], .agg cs.toArray] w fun e w' =>
      ∃ cs, e = .returned (.agg cs.toArray) ∧ RdStandU (OrNew U w.heap.size) w' cs (nextD p s) ∧ Below w.heap.size w w' := by
  obtain ⟨sa, scap, rfl, hr, hU⟩ := hs
  by_cases h0 : s.status = 0
  · obtain ⟨hne, hv⟩ := hw.runs h0
    obtain ⟨x, hx⟩ : ∃ x, s.live.getLast? = some x := ⟨_, List.getLast?_eq_some_getLast hne⟩
    have e := dropLast_getLast hx
    obtain ⟨ini, hini⟩ : ∃ ini, ini = s.live.dropLast := ⟨_, rfl⟩
    have hnd : nextD p s = stepTop p ini x := by
      unfold nextD
      rw [if_neg (by simpa using h0), hx, ← hini]
    have hcalls := hw.calls
    have hlive := hw.live
    have hlen := hw.len
    rw [← hini] at e hcalls
    have hl : s.live.length = ini.length + 1 := by rw [e]; simp
    rw [hnd, h0, hv]
    rw [hl] at hr hU ⊢
    rw [e] at hr hlive
    exact Next_top U pa pcap p sa scap ini x w hg hp hr hU (by omega) (fun y hy => ⟨hlive y (List.mem_append_left _ hy), hcalls y hy⟩) (hlive x (by simp))
  · have hnd : nextD p s = s := by unfold nextD; rw [if_pos h0]
    rw [hnd]
    exact Next_ended U pa pcap p sa scap s w hr hU h0

set_option maxHeartbeats 4000000 in
set_option maxRecDepth 100000 in
theorem After_any (pa : Option Addr) (pcap : Nat) (p : List FnD) (aa : Option Addr) (acap : Nat) (args : List Int) (n : Nat) (w : World) (hg : Good p) (hp : RdP w pa p.length pcap p) (ha : Rd .i64 w aa args.length acap args) (hn : n ≤ 2000)
    (hl : (args.length : Int) = (fnAt p 0).params) (hv : ∀ v ∈ args, 0 ≤ v ∧ v < 1000) :
    Calls Tryz.prog 91 #[.agg #[.slice pa p.length pcap], .slice aa args.length acap, .int .i64 n] w fun e w' =>
      ∃ cs, e = .returned (.agg cs.toArray) ∧ RdStandU (fun _ => True) w' cs (runD p (begunD p args) n) ∧ Below w.heap.size w w' := by
  have hlen := hg.len
  have h00 : (0 : Int) ≤ 0 ∧ (0 : Int) < p.length := by omega
  have hf := hg.fns _ _ (fnAt_some h00)
  have h1 := hf.locals
  have h2 := hf.params
  have HBG := hid (fun (W : World) (hW : Below w.heap.size w W) => Begun_new pa pcap p (fnAt p 0) (fnAt p 0).locals.toNat aa acap args W (hp.below hW) (fnAt_some h00) (by omega) (by omega) (ha.below hW (Nat.le_refl _)) (by omega))
  have HNX := hid (fun (U : Nat → Prop) (W : World) (s : StandD) (cs : List Value) (hW : Below w.heap.size w W) (hw : Wf p s) (hs : RdStandU U W cs s) => Next_any U pa pcap p s cs W hg (hp.below hW) hw hs)
  have HWF := hid (fun j => wf_run hg (wf_begun hg hl hv) j)
  have hbd : begunD p args = ⟨0, 0, [⟨0, 0, fillI args (fnAt p 0).locals.toNat args.length⟩]⟩ := rfl
  rw [← hbd] at HBG
  generalize begunD p args = s0 at *
  generalize p.length = pl at *
  generalize args.length = al at *
  clear hbd hf h1 h2 hl hv hg hp ha
  obtain ⟨wb, hwb⟩ : ∃ wb, wb = (w.alloc (Obj.cells #[.slice pa pl pcap] 44)).alloc (Obj.cells #[.int .i64 0, .int .i64 0, .slice none 0 0] 95) := ⟨_, rfl⟩
  have hbb : Below w.heap.size w wb := by rw [hwb]; exact ((Below.refl _ _).alloc (Nat.le_refl _) _).alloc (by simp) _
  have hbs : wb.heap.size = w.heap.size + 2 := by rw [hwb]; simp
  have k0 : wb.heap[w.heap.size]? = some (.cells #[.slice pa pl pcap] 44 (0, 0)) := by rw [hwb]; exact heap_at1 (by simp <;> omega) (heap_new_at (by simp))
  have k1 : wb.heap[w.heap.size + 1]? = some (.cells #[.int .i64 0, .int .i64 0, .slice none 0 0] 95 (0, 0)) := by rw [hwb]; exact heap_new_at (by simp)
  have HBW := hid (HBG.out wb hbb)
  clear HBG
  go_enter Tryz.func91, Tryz.ntmps91
  go_wp2_with fail
  rw [← hwb]
  clear hwb
  refine HBW.out.mono ?_
  rintro e w1 ⟨cs, rfl, hst, hb1⟩
  have hsz1 := hb1.size
  have hstU := hst
  obtain ⟨ra, rcap, rfl, -, -⟩ := hst
  have HSU := hid hstU
  clear hstU HBW
  obtain ⟨w2, hw2⟩ : ∃ w2, w2 = w1.alloc (Obj.cells #[.int .i64 s0.status, .int .i64 s0.value, .slice ra s0.live.length rcap] 95) := ⟨_, rfl⟩
  have hb12 : Below w1.heap.size w1 w2 := by rw [hw2]; exact (Below.refl _ _).alloc (Nat.le_refl _) _
  have hs2 : w2.heap.size = w1.heap.size + 1 := by rw [hw2]; simp
  have m2 : w2.heap[w1.heap.size]? = some (.cells #[.int .i64 s0.status, .int .i64 s0.value, .slice ra s0.live.length rcap] 95 (0, 0)) := by rw [hw2]; exact heap_alloc_new _ _
  have hbw2 : Below wb.heap.size wb w2 := hb1.trans (hb12.mono hb1.size)
  obtain ⟨B, hB⟩ : ∃ B, B = w1.heap.size := ⟨_, rfl⟩
  have hso : RdStandU (Old (fun b => wb.heap.size ≤ b) w1) w1 [.int .i64 s0.status, .int .i64 s0.value, .slice ra s0.live.length rcap] s0 := by
    obtain ⟨a, c, e, hr, hU⟩ := HSU.out
    obtain ⟨h1, h2⟩ := rdL_old hr hU
    exact ⟨a, c, e, h1, h2⟩
  have HS2 := hid ((hso.below hb12).keeps (Keeps.below (Below.refl _ _)) (V := fun b => b ≠ B ∧ b ≠ w.heap.size + 1) (fun b hb => by
    have h1 : wb.heap.size ≤ b := hb.1
    have h2 : b < w1.heap.size := hb.2
    exact ⟨by omega, by omega⟩))
  clear hso
  go_wp2
  rw [← hw2, ← hB]
  rw [← hB] at m2 hs2
  have HBV := hid hB
  have HK0 := hid k0
  have HK1 := hid k1
  have hBs : wb.heap.size ≤ B := by omega
  clear hw2 k0 k1 hB hb12 HSU hb1 hsz1
  go_loopw [8] (fun i wr => ∃ (j : Nat) (ra : Option Addr) (rcap : Nat), i = .int .i64 j ∧ j ≤ n ∧ wr.cell? ⟨B, 0, none⟩ = some (.int .i64 (runD p s0 j).status) ∧ wr.cell? ⟨B, 1, none⟩ = some (.int .i64 (runD p s0 j).value) ∧ wr.cell? ⟨B, 2, none⟩ = some (.slice ra (runD p s0 j).live.length rcap) ∧ wr.frozen? ⟨B, 0, none⟩ = false ∧ wr.frozen? ⟨B, 1, none⟩ = false ∧ wr.frozen? ⟨B, 2, none⟩ = false ∧
      RdStandU (fun b => b ≠ B ∧ b ≠ w.heap.size + 1) wr [.int .i64 (runD p s0 j).status, .int .i64 (runD p s0 j).value, .slice ra (runD p s0 j).live.length rcap] (runD p s0 j) ∧ Below wb.heap.size wb wr) (fun i _ => n - (intOf i).toNat)
  case atStart => exact ⟨0, ra, rcap, rfl, by omega, by simp [World.cell?, m2]; rfl, by simp [World.cell?, m2]; rfl, by simp [World.cell?, m2]; rfl, by simp [World.frozen?, m2], by simp [World.frozen?, m2], by simp [World.frozen?, m2], HS2.out, hbw2⟩
  case round =>
    clear HS2 m2 hs2 hbw2
    obtain ⟨j, ra, rcap, rfl, hj, c0, c1, c2, f0, f1, f2, hst, hbel⟩ := hrel
    have hsz := hbel.size
    have hbw := hbb.trans (hbel.mono hbb.size)
    have hlt := World.block_lt_of_cell? wr _ c0
    simp only at hlt
    have e0 := (hbel.block w.heap.size (by omega)).trans HK0.out
    have e1 := (hbel.block (w.heap.size + 1) (by omega)).trans HK1.out
    have hwf := HWF.out j
    have hnx : runD p s0 (j + 1) = nextD p (runD p s0 j) := rfl
    by_cases hjn : j < n
    · have HN := hid (HNX.out _ wr _ _ hbw hwf hst)
      rw [← hnx] at HN
      generalize runD p s0 j = s at *
      obtain ⟨s1, hs1⟩ : ∃ s1, s1 = runD p s0 (j + 1) := ⟨_, rfl⟩
      rw [← hs1] at HN
      have HS1 := hid hs1
      have r0 : wr.cell? ⟨w.heap.size, 0, none⟩ = some (.slice pa pl pcap) := by simp [World.cell?, e0]
      have hjn' : (j : Int) < (n : Int) := by omega
      clear hnx hs1 e0 e1 hwf hst
      generalize s.live.length = sl at *
      go_wp2_with fail
      refine HN.out.mono ?_
      rintro e w3 ⟨cs, rfl, hst3, hb3⟩
      have hstU := hst3
      obtain ⟨ra3, rcap3, rfl, -, -⟩ := hst3
      have d0 := (hb3.cell (p := ⟨B, 0, none⟩) hlt).trans c0
      have d1 := (hb3.cell (p := ⟨B, 1, none⟩) hlt).trans c1
      have d2 := (hb3.cell (p := ⟨B, 2, none⟩) hlt).trans c2
      have g0 := (hb3.frozen (p := ⟨B, 0, none⟩) hlt).trans f0
      have g1 := (hb3.frozen (p := ⟨B, 1, none⟩) hlt).trans f1
      have g2 := (hb3.frozen (p := ⟨B, 2, none⟩) hlt).trans f2
      have hsz3 := hb3.size
      have hnb : ∀ k : Nat, ¬ OrNew (fun b => b ≠ B ∧ b ≠ w.heap.size + 1) wr.heap.size (⟨B, k, none⟩ : Addr).block := fun k h => by
        rcases h with h | h
        · exact h.1 rfl
        · have h' : wr.heap.size ≤ B := h
          omega
      have hst4 := ((hstU.keeps (Keeps.setCell (hnb 0) (.int .i64 s1.status)) (fun _ h => h)).keeps (Keeps.setCell (hnb 1) (.int .i64 s1.value)) (fun _ h => h)).keeps (Keeps.setCell (hnb 2) (.slice ra3 s1.live.length rcap3)) (V := fun b => b ≠ B ∧ b ≠ w.heap.size + 1) (fun b h => by
        rcases h with h | h
        · exact h
        · exact ⟨by omega, by omega⟩)
      have hb4 := below_boxed (bx := B) (hbel.trans (hb3.mono hsz)) hBs (.int .i64 s1.status) (.int .i64 s1.value) (.slice ra3 s1.live.length rcap3)
      obtain ⟨w4, hw4⟩ : ∃ w4, w4 = ((w3.setCell ⟨B, 0, none⟩ (.int .i64 s1.status)).setCell ⟨B, 1, none⟩ (.int .i64 s1.value)).setCell ⟨B, 2, none⟩ (.slice ra3 s1.live.length rcap3) := ⟨_, rfl⟩
      have b0 : w4.cell? ⟨B, 0, none⟩ = some (.int .i64 s1.status) := by rw [hw4]; simp [go_sem, d0]
      have b1 : w4.cell? ⟨B, 1, none⟩ = some (.int .i64 s1.value) := by rw [hw4]; simp [go_sem, d1]
      have b2 : w4.cell? ⟨B, 2, none⟩ = some (.slice ra3 s1.live.length rcap3) := by rw [hw4]; simp [go_sem, d2]
      have a0 : w4.frozen? ⟨B, 0, none⟩ = false := by rw [hw4]; simp [go_sem, g0]
      have a1 : w4.frozen? ⟨B, 1, none⟩ = false := by rw [hw4]; simp [go_sem, g1]
      have a2 : w4.frozen? ⟨B, 2, none⟩ = false := by rw [hw4]; simp [go_sem, g2]
      rw [← hw4] at hst4 hb4
      have HR : Hid (∃ (j' : Nat) (ra : Option Addr) (rcap : Nat), Value.int .i64 ((j : Int) + 1) = .int .i64 j' ∧ j' ≤ n ∧ w4.cell? ⟨B, 0, none⟩ = some (.int .i64 (runD p s0 j').status) ∧ w4.cell? ⟨B, 1, none⟩ = some (.int .i64 (runD p s0 j').value) ∧ w4.cell? ⟨B, 2, none⟩ = some (.slice ra (runD p s0 j').live.length rcap) ∧ w4.frozen? ⟨B, 0, none⟩ = false ∧ w4.frozen? ⟨B, 1, none⟩ = false ∧ w4.frozen? ⟨B, 2, none⟩ = false ∧
          RdStandU (fun b => b ≠ B ∧ b ≠ w.heap.size + 1) w4 [.int .i64 (runD p s0 j').status, .int .i64 (runD p s0 j').value, .slice ra (runD p s0 j').live.length rcap] (runD p s0 j') ∧ Below wb.heap.size wb w4) := by
        refine ⟨j + 1, ra3, rcap3, by simp, by omega, ?_⟩
        rw [← HS1.out]
        exact ⟨b0, b1, b2, a0, a1, a2, hst4, hb4⟩
      clear b0 b1 b2 a0 a1 a2 hst4 hb4 hstU hnb c0 c1 c2 f0 f1 f2 r0
      go_wp2
      rw [← hw4]
      go_roundw
      case rel => exact HR.out
      case measure => simp [intOf]; omega
    · have hje : j = n := by omega
      subst hje
      have hjn' : decide ((j : Int) < (j : Int)) = false := by simp
      have x0 : wr.cell? ⟨w.heap.size + 1, 0, none⟩ = some (.int .i64 0) := by simp [World.cell?, e1]
      have x1 : wr.cell? ⟨w.heap.size + 1, 1, none⟩ = some (.int .i64 0) := by simp [World.cell?, e1]
      have x2 : wr.cell? ⟨w.heap.size + 1, 2, none⟩ = some (.slice none 0 0) := by simp [World.cell?, e1]
      have y0 : wr.frozen? ⟨w.heap.size + 1, 0, none⟩ = false := by simp [World.frozen?, e1]
      have y1 : wr.frozen? ⟨w.heap.size + 1, 1, none⟩ = false := by simp [World.frozen?, e1]
      have y2 : wr.frozen? ⟨w.heap.size + 1, 2, none⟩ = false := by simp [World.frozen?, e1]
      obtain ⟨s, hss⟩ : ∃ s, s = runD p s0 j := ⟨_, rfl⟩
      rw [← hss] at c0 c1 c2 hst
      have HSN := hid hss
      have hnb : ∀ k : Nat, ¬ ((fun b => b ≠ B ∧ b ≠ w.heap.size + 1) (⟨w.heap.size + 1, k, none⟩ : Addr).block) := fun k h => h.2 rfl
      have HSE := hid (((hst.keeps (Keeps.setCell (hnb 0) (.int .i64 s.status)) (fun _ h => h)).keeps (Keeps.setCell (hnb 1) (.int .i64 s.value)) (fun _ h => h)).keeps (Keeps.setCell (hnb 2) (.slice ra s.live.length rcap)) (V := fun _ => True) (fun _ _ => trivial))
      have HBE := hid (below_boxed (bx := w.heap.size + 1) hbw (by omega) (.int .i64 s.status) (.int .i64 s.value) (.slice ra s.live.length rcap))
      clear hst hnb e0 e1 hwf hnx hss
      go_wp2
      exact bodyPost_ret (v := .agg #[.int .i64 s.status, .int .i64 s.value, .slice ra s.live.length rcap]) (by simp [results, Tryz.results91, go_sem, x0, x1, x2]) rfl ⟨_, rfl, by rw [← HSN.out]; exact HSE.out, HBE.out⟩
end Go.Proofs.YtffnfjkjlmlonaaGreatDoor
namespace Go.Proofs.YtffnfjkjlmlonaaGreatDoor
open Go.RowKit

def givenB (p : List FnD) (args : List Int) : Bool := args.all (fun n => withB n 1000) && ((args.length : Int) == (fnAt p 0).params)

set_option maxHeartbeats 2000000 in
set_option maxRecDepth 100000 in
theorem Given_any (pa : Option Addr) (pcap : Nat) (p : List FnD) (aa : Option Addr) (acap : Nat) (args : List Int) (w : World) (hp : RdP w pa p.length pcap p) (h0 : 0 < p.length) (ha : Rd .i64 w aa args.length acap args) :
    Calls Tryz.prog 90 #[.agg #[.slice pa p.length pcap], .slice aa args.length acap] w fun e w' => e = .returned (.bool (givenB p args)) ∧ Below w.heap.size w w' := by
  have h00 : (0 : Int) ≤ 0 ∧ (0 : Int) < p.length := by omega
  obtain ⟨pb, poff, ba, bcap, rfl, hlt, -, -, c2, -, -, -, -, -⟩ := hp.at 0 _ (fnAt_some h00)
  have hpc1 := hp.2.1
  have hpc2 := hp.2.2.1
  have hac := ha.hcap
  have ham := ha.hmax
  unfold maxLen at hpc2 ham
  have hgb : givenB p args = (args.all (fun n => withB n 1000) && ((args.length : Int) == (fnAt p 0).params)) := rfl
  obtain ⟨gb, hgb2⟩ : ∃ v, v = givenB p args := ⟨_, rfl⟩
  rw [← hgb2] at hgb ⊢
  obtain ⟨pr, hpr⟩ : ∃ v, v = (fnAt p 0).params := ⟨_, rfl⟩
  rw [← hpr] at hgb c2
  obtain ⟨al, hal⟩ : ∃ v, v = args.length := ⟨_, rfl⟩
  rw [← hal] at hgb ha hac ⊢
  have HAL := hid hal
  have HGB := hid hgb
  have HA := hid ha
  generalize p.length = pl at *
  clear hgb2 hpr hal hgb hp h00 ha
  obtain ⟨wb, hwb⟩ : ∃ wb, wb = w.alloc (Obj.cells #[.slice (some ⟨pb, poff, none⟩) pl pcap] 44) := ⟨_, rfl⟩
  have hbb : Below w.heap.size w wb := by rw [hwb]; exact (Below.refl _ _).alloc (Nat.le_refl _) _
  have hbs : wb.heap.size = w.heap.size + 1 := by rw [hwb]; simp
  have k0 : wb.heap[w.heap.size]? = some (.cells #[.slice (some ⟨pb, poff, none⟩) pl pcap] 44 (0, 0)) := by rw [hwb]; exact heap_alloc_new _ _
  have HK0 := hid k0
  clear k0
  go_enter Tryz.func90, Tryz.ntmps90
  go_wp2
  go_loopw [5] (fun i wr => ∃ j : Nat, i = .int .i64 j ∧ j ≤ al ∧ ((args.take j).all fun n => withB n 1000) = true ∧ Below wb.heap.size wb wr) (fun i _ => al - (intOf i).toNat)
  case atStart => exact ⟨0, rfl, by omega, rfl, by rw [hwb]; exact Below.refl _ _⟩
  case round =>
    clear hwb
    obtain ⟨j, rfl, hj, hall, hbel⟩ := hrel
    have HALL := hid hall
    clear hall
    have hbw := hbb.trans (hbel.mono hbb.size)
    by_cases hjn : j < al
    · obtain ⟨b, off, rfl, hc⟩ := (HA.out.below hbw (Nat.le_refl _)).cell j hjn
      have hst := all_take_succ args j (args.getD j 0) (fun n => withB n 1000) (by rw [List.getD_eq_getElem?_getD, List.getElem?_eq_getElem (by rw [← HAL.out]; exact hjn)]; rfl)
      rw [HALL.out, Bool.true_and] at hst
      generalize args.getD j 0 = v at hc hst
      have HST := hid hst
      clear hst
      have hjn' : (j : Int) < (al : Int) := by omega
      obtain ⟨t, ht⟩ : ∃ t, t = withB v 1000 := ⟨_, rfl⟩
      have HW := hid (fun W => within_any v 1000 W)
      rw [← ht] at HST HW
      clear ht
      cases t with
      | true =>
        go_wp2_with fail
        refine (HW.out _).mono ?_
        rintro e w' ⟨rfl, rfl⟩
        go_wp2
        go_roundw
        case rel => exact ⟨j + 1, by go_num, by omega, HST.out, hbel⟩
        case measure => simp [intOf]; omega
      | false =>
        have HF : Hid (gb = false) := by
          show _ = _
          rw [HGB.out]
          have e1 : args = args.take (j + 1) ++ args.drop (j + 1) := (List.take_append_drop _ _).symm
          rw [e1, List.all_append, HST.out]; rfl
        go_wp2_with fail
        refine (HW.out _).mono ?_
        rintro e w' ⟨rfl, rfl⟩
        go_wp2
        go_ret
        exact ⟨ret_bool HF.out.symm, hbw⟩
    · have hjn' : decide ((j : Int) < (al : Int)) = false := by simp; omega
      have HF : Hid (gb = ((al : Int) == pr)) := by
        show _ = _
        have := HALL.out
        rw [List.take_of_length_le (by rw [← HAL.out]; omega)] at this
        rw [HGB.out, this, Bool.true_and]
      have e0 := (hbel.block w.heap.size (by omega)).trans HK0.out
      have q0 : wr.cell? ⟨w.heap.size, 0, none⟩ = some (.slice (some ⟨pb, poff, none⟩) pl pcap) := by simp [World.cell?, e0]
      have q2 : wr.cell? ⟨pb, poff + 2, none⟩ = some (.int .i64 pr) := by
        have := (hbw.cell (p := ⟨pb, poff + 0 * 5 + 2, none⟩) (World.block_lt_of_cell? w _ c2)).trans c2
        simpa using this
      have hpl : (0 : Int) < (pl : Int) := by omega
      clear e0 c2
      go_wp2
      go_ret
      exact ⟨ret_bool HF.out.symm, hbw⟩

theorem three_new (w : World) (a b c : Value) (t : TypeId) : ∀ j u, [a, b, c][j]? = some u → (w.alloc (.cells #[a, b, c] t)).cell? ((⟨w.heap.size, 0, none⟩ : Addr).add j) = some u := by
  intro i u hu
  match i, hu with
  | 0, hu => simp at hu; subst hu; simp [Addr.add]
  | 1, hu => simp at hu; subst hu; simp [Addr.add]
  | 2, hu => simp at hu; subst hu; simp [Addr.add]
theorem three_one_sf (a b : ByteArray) (n : Int) : ∀ u ∈ [Value.string a, .string b, .int .i64 n], u.oneCell' = true := by
  intro u hu; simp at hu; rcases hu with rfl | rfl | rfl <;> rfl

theorem Tryz.infoFrame : (Tryz.prog.info? 107).map (fun i => (i.zero, i.size, i.bytes)) = some (some (.agg #[.string ⟨#[]⟩, .string ⟨#[]⟩, .int .i64 0]), 3, 40) := by kernel_rfl
def tellD (p : List FnD) (x : LiveD) : FrameD := ⟨(fnOf p x).name, (fnOf p x).file, (opOf p x).line⟩

set_option maxHeartbeats 4000000 in
set_option maxRecDepth 100000 in
theorem Told_any (pa : Option Addr) (pcap : Nat) (p : List FnD) (s : StandD) (cs : List Value) (w : World) (hg : Good p) (hp : RdP w pa p.length pcap p) (hw : Wf p s) (hs : RdStandU (fun _ => True) w cs s) :
    Calls Tryz.prog 92 #[.agg #[.slice pa p.length pcap], .agg cs.toArray] w fun e w' =>
      ∃ v, e = .returned v ∧ w'.ownsRow w.heap.size 107 3 v (toldD p s).length ((toldD p s).map frCells).flatten ∧ Below w.heap.size w w' := by
  obtain ⟨sa, scap, rfl, hr, -⟩ := hs
  have hlen := hw.len
  have hsc1 := hr.2.1
  have hsc2 := hr.2.2.1
  unfold maxLen at hsc2
  have HLV := hid hw.live
  have HR := hid hr
  have HP := hid hp
  have HG := hid hg
  have htd : toldD p s = s.live.reverse.map (tellD p) := rfl
  rw [htd]
  obtain ⟨st, sv, live⟩ := s
  simp only at *
  obtain ⟨nl, hnl⟩ : ∃ v, v = live.length := ⟨_, rfl⟩
  rw [← hnl] at HR hlen hsc1 ⊢
  have HNL := hid hnl
  have hpc1 := hp.2.1
  have hpc2 := hp.2.2.1
  unfold maxLen at hpc2
  clear hr hp hw hg hnl htd
  obtain ⟨pl, hpl⟩ : ∃ v, v = p.length := ⟨_, rfl⟩
  rw [← hpl] at HP hpc1 ⊢
  have HPL := hid hpl
  clear hpl
  obtain ⟨fr, hfr⟩ : ∃ v, v = live.reverse.map (tellD p) := ⟨_, rfl⟩
  rw [← hfr]
  have hfl : fr.length = nl := by rw [hfr, HNL.out]; simp
  have HGET : Hid (∀ j x, j < nl → live[nl - 1 - j]? = some x → fr[j]? = some (tellD p x)) := fun j x hj hx => by
    rw [hfr, List.getElem?_map, List.getElem?_reverse (by rw [← HNL.out]; exact hj), ← HNL.out, hx]; rfl
  have HFL := hid hfl
  rw [hfl]
  clear hfr hfl
  obtain ⟨wb, hwb⟩ : ∃ wb, wb = (w.alloc (Obj.cells #[.slice pa pl pcap] 44)).alloc (Obj.cells #[.int .i64 st, .int .i64 sv, .slice sa nl scap] 95) := ⟨_, rfl⟩
  have hbb : Below w.heap.size w wb := by rw [hwb]; exact ((Below.refl _ _).alloc (Nat.le_refl _) _).alloc (by simp) _
  have hbs : wb.heap.size = w.heap.size + 2 := by rw [hwb]; simp
  have k0 : wb.heap[w.heap.size]? = some (.cells #[.slice pa pl pcap] 44 (0, 0)) := by rw [hwb]; exact heap_at1 (by simp <;> omega) (heap_new_at (by simp))
  have k1 : wb.heap[w.heap.size + 1]? = some (.cells #[.int .i64 st, .int .i64 sv, .slice sa nl scap] 95 (0, 0)) := by rw [hwb]; exact heap_new_at (by simp)
  have HK0 := hid k0
  have HK1 := hid k1
  clear k0 k1
  go_enter Tryz.func92, Tryz.ntmps92
  go_wp2
  go_loopw [5, 6] (fun lv i wr => ∃ j : Nat, i = .int .i64 ((nl : Int) - 1 - j) ∧ j ≤ nl ∧ wr.ownsRow wb.heap.size 107 3 lv j ((fr.take j).map frCells).flatten ∧ Below wb.heap.size wb wr) (fun _ i _ => (intOf i + 1).toNat)
  case atStart => exact ⟨0, by simp, by omega, ⟨rfl, .inl ⟨rfl, rfl⟩⟩, by rw [hwb]; exact Below.refl _ _⟩
  case round =>
    clear hwb
    obtain ⟨j, rfl, hj, hown, hbel⟩ := hrel
    have hsz := hbel.size
    have hbw := hbb.trans (hbel.mono hbb.size)
    by_cases hjn : j < nl
    · obtain ⟨k, hk⟩ : ∃ k, k = nl - 1 - j := ⟨_, rfl⟩
      have hki : (nl : Int) - 1 - j = (k : Int) := by omega
      rw [hki]
      have hkn : (k : Int) < (nl : Int) := by omega
      have hk0 : (0 : Int) ≤ (k : Int) := by omega
      obtain ⟨x, hx⟩ : ∃ x, live[k]? = some x := ⟨_, List.getElem?_eq_getElem (by rw [← HNL.out]; omega)⟩
      have hfx := HGET.out j x hjn (by rw [← hk]; exact hx)
      have hwx := HLV.out x (List.mem_of_getElem? hx)
      obtain ⟨b, off, cs, rfl, -, hcells, la, lcap, rfl, -, -⟩ := HR.out.2.2.2 k x hx
      have hcell : ∀ j u, [Value.int .i64 x.fn, .int .i64 x.next, .slice la x.locals.length lcap][j]? = some u → w.cell? ⟨b, off + k * 3 + j, none⟩ = some u := hcells
      have up : ∀ (q : Addr) (u : Value), w.cell? q = some u → wr.cell? q = some u := fun q u h => (hbw.cell (World.block_lt_of_cell? w _ h)).trans h
      have c0 : wr.cell? ⟨b, off + k * 3, none⟩ = _ := up _ _ (hcell 0 _ rfl)
      have c1 := up _ _ (hcell 1 _ rfl)
      have c2 := up _ _ (hcell 2 _ rfl)
      have hcf := hwx.fn
      have hcn := hwx.next
      obtain ⟨pb, poff, ba, bcap, rfl, -, d0, d1, d2, d3, d4, hrb, -, -⟩ := HP.out.at x.fn.toNat _ (fnOf_some hwx)
      obtain ⟨qb, qoff, _, _, rfl, -, -, q1, -, -, -, -, -⟩ := hrb.opAt x.next.toNat _ (opOf_some hwx)
      have hbl1 := hrb.2.1
      have hbl2 := hrb.2.2.1
      unfold maxLen at hbl2
      replace d0 := up _ _ d0
      replace d1 := up _ _ d1
      replace d2 := up _ _ d2
      replace d3 := up _ _ d3
      replace d4 := up _ _ d4
      replace q1 := up _ _ q1
      obtain ⟨fN, hfN⟩ : ∃ n : Nat, x.fn = n := ⟨x.fn.toNat, by omega⟩
      obtain ⟨sN, hsN⟩ : ∃ n : Nat, x.next = n := ⟨x.next.toNat, by omega⟩
      have hfp : fN < pl := by have := HPL.out; omega
      have hsb : sN < (fnOf p x).body.length := by omega
      rw [hfN] at c0 d0 d1 d2 d3 d4
      rw [hsN] at c1 q1
      simp only [Int.toNat_natCast] at d0 d1 d2 d3 d4 q1
      have htl : frCells (tellD p x) = [.string (fnOf p x).name, .string (fnOf p x).file, .int .i64 (opOf p x).line] := rfl
      have hfl2 : ((fr.take j).map frCells).flatten ++ [.string (fnOf p x).name, .string (fnOf p x).file, .int .i64 (opOf p x).line] = ((fr.take (j + 1)).map frCells).flatten := by
        obtain ⟨hjf, he⟩ := List.getElem?_eq_some_iff.1 hfx
        rw [List.take_succ_eq_append_getElem hjf, he, List.map_append, List.flatten_append]
        simp [htl]
      have HF2 := hid hfl2
      clear hfl2 htl hcells hcell up hwx hx hfx hcf hcn hrb hfN hsN hk
      generalize (fnOf p x).name = nm at *
      generalize (fnOf p x).file = fl at *
      generalize (fnOf p x).params = fp at *
      generalize (fnOf p x).locals = fo at *
      generalize (fnOf p x).body.length = bl at *
      generalize (opOf p x).line = ln at *
      generalize x.locals.length = xl at *
      have lt1 := World.block_lt_of_cell? wr _ c0
      have lt2 := World.block_lt_of_cell? wr _ d0
      have lt3 := World.block_lt_of_cell? wr _ q1
      simp only at lt1 lt2 lt3
      have lt2a : pb < wr.heap.size + 1 := by omega
      have lt3a : qb < wr.heap.size + 1 := by omega
      have e0 := (hbel.block w.heap.size (by omega)).trans HK0.out
      have e1 := (hbel.block (w.heap.size + 1) (by omega)).trans HK1.out
      have r0 : wr.cell? ⟨w.heap.size, 0, none⟩ = some (.slice (some ⟨pb, poff, none⟩) pl pcap) := by simp [World.cell?, e0]
      have r1 : wr.cell? ⟨w.heap.size + 1, 2, none⟩ = some (.slice (some ⟨b, off, none⟩) nl scap) := by simp [World.cell?, e1]
      have lt4 : w.heap.size < wr.heap.size := by omega
      obtain ⟨w2, hw2⟩ : ∃ w2, w2 = (wr.alloc (Obj.cells #[.int .i64 fN, .int .i64 sN, .slice la xl lcap] 172)).alloc (Obj.cells #[.string nm, .string fl, .int .i64 fp, .int .i64 fo, .slice (some ⟨qb, qoff, none⟩) bl bcap] 122) := ⟨_, rfl⟩
      have hb2 : Below wr.heap.size wr w2 := by rw [hw2]; exact ((Below.refl _ _).alloc (Nat.le_refl _) _).alloc (by simp) _
      have hs2 : w2.heap.size = wr.heap.size + 2 := by rw [hw2]; simp
      have m0 : w2.heap[wr.heap.size]? = some (.cells #[.int .i64 fN, .int .i64 sN, .slice la xl lcap] 172 (0, 0)) := by rw [hw2]; exact heap_at1 (by simp) (heap_new_at rfl)
      have m1 : w2.heap[wr.heap.size + 1]? = some (.cells #[.string nm, .string fl, .int .i64 fp, .int .i64 fo, .slice (some ⟨qb, qoff, none⟩) bl bcap] 122 (0, 0)) := by rw [hw2]; exact heap_new_at (by simp)
      clear e0 e1
      go_wp2
      rw [← hw2]
      clear hw2
      have s0 : w2.cell? ⟨wr.heap.size + 1, 0, none⟩ = some (.string nm) := by simp [World.cell?, m1]
      have s1 : w2.cell? ⟨wr.heap.size + 1, 1, none⟩ = some (.string fl) := by simp [World.cell?, m1]
      have s2 : w2.cell? ⟨wr.heap.size + 1, 4, none⟩ = some (.slice (some ⟨qb, qoff, none⟩) bl bcap) := by simp [World.cell?, m1]
      have s3 : w2.cell? ⟨wr.heap.size, 1, none⟩ = some (.int .i64 sN) := by simp [World.cell?, m0]
      have s4 : w2.cell? ⟨qb, qoff + sN * 6 + 1, none⟩ = some (.int .i64 ln) := (hb2.cell (p := ⟨qb, qoff + sN * 6 + 1, none⟩) lt3).trans q1
      have HOWD : Hid (w2.drew.ownsRow wb.heap.size 107 3 u5 j ((fr.take j).map frCells).flatten) := (ownsRow_below hown hb2).drew
      have hlt9 : ∀ k, u5.ownBlock = some k → wb.heap.size ≤ k := fun k hk => (hown.lt k hk).1
      obtain ⟨i0, hi, hz0, hz1, hz2⟩ := info_parts Tryz.infoFrame
      have hb2b : Below wb.heap.size wb w2 := hbel.trans (hb2.mono hsz)
      have HS2 := hid hs2
      have hszb : wb.heap.size ≤ w2.heap.size := by omega
      clear hown hs2 m0 m1 c0 c1 c2 d0 d1 d2 d3 d4 q1 r0 r1 lt1 lt2 lt3 lt2a lt3a lt4
      apply cutB
      case k =>
        intro key
        go_region_law (refine step_append_lies _ rfl (.tmp 28) (.tmp 41) 38 rfl wb.heap.size 107 i0 (.agg #[.string ⟨#[]⟩, .string ⟨#[]⟩, .int .i64 0]) 3 40 Tryz.underlying38 hi hz0 hz1 hz2 rfl (by decide) u5 j _ (by simp [Act.eval]) (HOWD.out.alloc _) ⟨w2.heap.size, 0, none⟩ 1 1 [.string nm, .string fl, .int .i64 ln] (by simp [Act.eval]) rfl (three_new _ _ _ _ _) (three_one_sf _ _ _) (by decide) (by unfold maxLen; omega) (by omega) (by simp; omega) _ rfl ?_; intro g' cap' w3 hown' hgrow' hg' hlt')
        all_goals
          have hb3 : Below wb.heap.size wb w3 := ((hb2b.trans ((Below.refl _ _).drew)).alloc (by simp; omega) _).grown hgrow' (by simp; omega) hlt9
          clear hgrow' hg' hlt'
          revert hb3
          revert hown'
          revert w3 cap' g'
          exact key.out
      intro g' cap' w3 hown' hb3
      rw [HF2.out] at hown'
      have HOW := hid hown'
      clear hown' hbel
      go_wp2
      go_roundw
      case rel => exact ⟨j + 1, by first | (rw [← hki]; congr 1; omega) | (congr 1; omega), by omega, HOW.out, hb3⟩
      case measure => simp [intOf] <;> omega
    · have hje : j = nl := by omega
      subst hje
      have hneg : ((j : Int) - 1 - j) = -1 := by omega
      rw [hneg]
      have htk : fr.take j = fr := List.take_of_length_le (by rw [HFL.out]; exact Nat.le_refl _)
      rw [htk] at hown
      have HOW := hid hown
      clear hown htk
      go_wp2
      go_ret
      refine ⟨_, rfl, ?_, hbw⟩
      have h := HOW.out
      refine ⟨h.1, ?_⟩
      rcases h.2 with h2 | ⟨g, cap, cur, h1, h2, h3⟩
      · exact .inl h2
      · exact .inr ⟨g, cap, cur, h1, by omega, h3⟩
end Go.Proofs.YtffnfjkjlmlonaaGreatDoor
