/- Contract of unfoldref.entered: a Call. -/
import Derived.Test.YtffnfjkjlmlonaaGreatDoorZ8
import Derived.Deep.AppendLies
import Derived.Deep.RegionLaw
namespace Go.Proofs.YtffnfjkjlmlonaaGreatDoor
open Go.RowKit

set_option maxHeartbeats 4000000 in
set_option maxRecDepth 100000 in
theorem entered_any (U : Nat → Prop) (pa : Option Addr) (pcap : Nat) (p : List FnD) (sa : Option Addr) (scap : Nat) (s : StandD) (x : LiveD) (xa : Option Addr) (xcap : Nat) (o : OpD) (oa : Option Addr) (ocap : Nat) (f : Nat) (y : FnD) (n : Nat) (w : World)
    (hp : RdP w pa p.length pcap p) (hs : RdL 3 (RdLiveU U) w sa s.live.length scap s.live) (hsU : InU U sa s.live.length) (hx : Rd .i64 w xa x.locals.length xcap x.locals) (ho : Rd .i64 w oa o.args.length ocap o.args)
    (hlen : s.live.length ≤ 20) (hob : o.b = f) (hy : p[f]? = some y) (hn : y.locals = n) (hn8 : n ≤ 8) (hal : o.args.length ≤ n) (hxl : x.locals.length ≤ 8) (hargs : ∀ k ∈ o.args, 0 ≤ k ∧ k < x.locals.length) :
    Calls Tryz.prog 173 #[.agg #[.slice pa p.length pcap], .agg #[.int .i64 s.status, .int .i64 s.value, .slice sa s.live.length scap], .agg #[.int .i64 x.fn, .int .i64 x.next, .slice xa x.locals.length xcap], .agg #[.int .i64 o.code, .int .i64 o.line, .int .i64 o.a, .int .i64 o.b, .int .i64 o.c, .slice oa o.args.length ocap]] w fun e w' =>
      ∃ cs, e = .returned (.agg cs.toArray) ∧ RdStandU (OrNew U w.heap.size) w' cs (if s.live.length = 20 then ⟨3, 0, s.live⟩ else ⟨0, 0, s.live ++ [⟨o.b, 0, fillI (o.args.map (locOf x)) n o.args.length⟩]⟩) ∧ Below w.heap.size w w' := by
  have hFR := fun (W : World) (hW : Below w.heap.size w W) (aa : Option Addr) (acap : Nat) (ha : Rd .i64 W aa o.args.length acap (o.args.map (locOf x))) => fresh_any pa pcap p f y n aa acap (o.args.map (locOf x)) W (hp.below hW) hy hn (by omega) (by simpa using ha) (by simpa using hal)
  replace hs := rdL_old hs hsU
  clear hsU
  obtain ⟨hs, hsU⟩ := hs
  have hUN := fun (W : World) (hW : Below w.heap.size w W) => under_any (RdLiveU (Old U w)) sa scap s.live 0 W RdLiveU.shape (hs.below hW (fun _ _ h => h.below hW)) (by omega) (by omega)
  have hS20 : ∀ W, Keeps (Old U w) w W → RdL 3 (RdLiveU (OrNew U w.heap.size)) W sa s.live.length scap s.live := fun W hW => hs.keeps hsU hW (fun _ _ h => h.keeps hW (fun _ h => .inl h.1))
  have HFR := hid hFR
  have HUN := hid hUN
  have HS20 := hid hS20
  have HX := hid hx
  have HO := hid ho
  have HAR := hid hargs
  obtain ⟨st, sv, live⟩ := s
  obtain ⟨xf, xn, xl⟩ := x
  obtain ⟨oc, ol, oaa, ob, occ, args⟩ := o
  simp only at *
  subst hob
  clear hFR hUN hS20 hs hx ho hargs hp hy hn
  go_enter Tryz.func173, Tryz.ntmps173
  by_cases h20 : live.length = 20
  · rw [if_pos h20]
    rw [h20] at HS20 ⊢
    go_wp2
    refine bodyPost_ret (v := .agg #[.int .i64 3, .int .i64 0, .slice sa 20 scap]) (by simp [results, Tryz.results173, go_sem]) rfl ⟨[.int .i64 3, .int .i64 0, .slice sa 20 scap], rfl, ⟨sa, scap, by simp [h20], ?_, fun h0 q hq => .inl (hsU h0 q hq).1⟩, ?_⟩
    · simp only [h20]
      refine HS20.out _ (Keeps.below ?_)
      exact (((((Below.refl _ _).alloc (Nat.le_refl _) _).alloc (by simp) _).alloc (by simp; omega) _).alloc (by simp; omega) _).alloc (by simp; omega) _
    · exact (((((Below.refl _ _).alloc (Nat.le_refl _) _).alloc (by simp) _).alloc (by simp; omega) _).alloc (by simp; omega) _).alloc (by simp; omega) _
  · rw [if_neg h20]
    have h20' : ((live.length : Int) == 20) = false := by simp; omega
    obtain ⟨na, hna⟩ : ∃ v, v = args.length := ⟨_, rfl⟩
    obtain ⟨nx, hnx⟩ : ∃ v, v = xl.length := ⟨_, rfl⟩
    rw [← hna] at HFR HO hal ⊢
    rw [← hnx] at HX hxl HAR ⊢
    have HNA := hid hna
    have HNX := hid hnx
    clear hna hnx
    obtain ⟨vals, hvals⟩ : ∃ v, v = args.map (locOf ⟨xf, xn, xl⟩) := ⟨_, rfl⟩
    rw [← hvals] at HFR ⊢
    have HV := hid hvals
    have HVL : Hid (vals.length = na) := by show _ = _; rw [hvals, List.length_map, HNA.out]
    clear hvals
    obtain ⟨nl, hnl⟩ : ∃ v, v = live.length := ⟨_, rfl⟩
    rw [← hnl] at h20' HUN HS20 h20 hlen
    have HNL := hid hnl
    generalize p.length = pl at *
    obtain ⟨wb, hwb⟩ : ∃ wb, wb = ((((w.alloc (Obj.cells #[.slice pa pl pcap] 44)).alloc (Obj.cells #[.int .i64 st, .int .i64 sv, .slice sa nl scap] 95)).alloc (Obj.cells #[.int .i64 xf, .int .i64 xn, .slice xa nx xcap] 172)).alloc (Obj.cells #[.int .i64 oc, .int .i64 ol, .int .i64 oaa, .int .i64 f, .int .i64 occ, .slice oa na ocap] 183)).alloc (Obj.cells #[.int .i64 0, .int .i64 0, .slice none 0 0] 95) := ⟨_, rfl⟩
    have hbb : Below w.heap.size w wb := by rw [hwb]; exact (((((Below.refl _ _).alloc (Nat.le_refl _) _).alloc (by simp) _).alloc (by simp; omega) _).alloc (by simp; omega) _).alloc (by simp; omega) _
    have hbs : wb.heap.size = w.heap.size + 5 := by rw [hwb]; simp
    have k0 : wb.heap[w.heap.size]? = some (.cells #[.slice pa pl pcap] 44 (0, 0)) := by rw [hwb]; exact heap_at1 (by simp <;> omega) (heap_at1 (by simp <;> omega) (heap_at1 (by simp <;> omega) (heap_at1 (by simp <;> omega) (heap_new_at (by simp)))))
    have k1 : wb.heap[w.heap.size + 1]? = some (.cells #[.int .i64 st, .int .i64 sv, .slice sa nl scap] 95 (0, 0)) := by rw [hwb]; exact heap_at1 (by simp <;> omega) (heap_at1 (by simp <;> omega) (heap_at1 (by simp <;> omega) (heap_new_at (by simp))))
    have k2 : wb.heap[w.heap.size + 1 + 1]? = some (.cells #[.int .i64 xf, .int .i64 xn, .slice xa nx xcap] 172 (0, 0)) := by rw [hwb]; exact heap_at1 (by simp <;> omega) (heap_at1 (by simp <;> omega) (heap_new_at (by simp)))
    have k3 : wb.heap[w.heap.size + 1 + 1 + 1]? = some (.cells #[.int .i64 oc, .int .i64 ol, .int .i64 oaa, .int .i64 f, .int .i64 occ, .slice oa na ocap] 183 (0, 0)) := by rw [hwb]; exact heap_at1 (by simp <;> omega) (heap_new_at (by simp))
    have k4 : wb.heap[w.heap.size + 1 + 1 + 1 + 1]? = some (.cells #[.int .i64 0, .int .i64 0, .slice none 0 0] 95 (0, 0)) := by rw [hwb]; exact heap_new_at (by simp)
    have HK0 := hid k0
    have HK1 := hid k1
    have HK2 := hid k2
    have HK3 := hid k3
    have HK4 := hid k4
    clear k0 k1 k2 k3 k4
    rw [← hnl]
    clear hnl
    go_wp2
    go_loopw [9, 10] (fun av i wr => ∃ j : Nat, i = .int .i64 j ∧ j ≤ na ∧ wr.ownsRow wb.heap.size 3 1 av j (ints (vals.take j)) ∧ Below wb.heap.size wb wr) (fun _ i _ => na - (intOf i).toNat)
    case atStart => exact ⟨0, rfl, by omega, ⟨rfl, .inl ⟨rfl, rfl⟩⟩, by rw [hwb]; exact Below.refl _ _⟩
    case round =>
      clear hwb
      obtain ⟨j, rfl, hj, hown, hbel⟩ := hrel
      have hsz := hbel.size
      have e0 := (hbel.block w.heap.size (by omega)).trans HK0.out
      have e1 := (hbel.block (w.heap.size + 1) (by omega)).trans HK1.out
      have e2 := (hbel.block (w.heap.size + 1 + 1) (by omega)).trans HK2.out
      have e3 := (hbel.block (w.heap.size + 1 + 1 + 1) (by omega)).trans HK3.out
      have q5 : wr.cell? ⟨w.heap.size + 1 + 1 + 1, 5, none⟩ = some (.slice oa na ocap) := by simp [World.cell?, e3]
      have hbw := hbb.trans (hbel.mono hbb.size)
      by_cases hjn : j < na
      · obtain ⟨b1, off1, rfl, c1⟩ := (HO.out.below hbw (Nat.le_refl _)).cell j hjn
        have hmem : args.getD j 0 ∈ args := by
          rw [List.getD_eq_getElem?_getD, List.getElem?_eq_getElem (by rw [← HNA.out]; exact hjn)]
          exact List.getElem_mem _
        have hge : vals.getD j 0 = locOf ⟨xf, xn, xl⟩ (args.getD j 0) := by
          rw [HV.out, List.getD_eq_getElem?_getD, List.getD_eq_getElem?_getD, List.getElem?_map, List.getElem?_eq_getElem (by rw [← HNA.out]; exact hjn)]; rfl
        have hkr := HAR.out _ hmem
        generalize args.getD j 0 = k at c1 hge hkr
        obtain ⟨kn, rfl⟩ : ∃ kn : Nat, k = (kn : Int) := ⟨k.toNat, by omega⟩
        obtain ⟨b2, off2, rfl, c2⟩ := (HX.out.below hbw (Nat.le_refl _)).cell kn (by omega)
        have hv2 : vals.getD j 0 = xl.getD kn 0 := by rw [hge]; simp [locOf, List.getD_eq_getElem?_getD]
        have hxcap := HX.out.hcap
        have hxmax := HX.out.hmax
        have hocap := HO.out.hcap
        have homax := HO.out.hmax
        unfold maxLen at hxmax homax
        have hfl : ints (vals.take j) ++ [.int .i64 (xl.getD kn 0)] = ints (vals.take (j + 1)) := by
          rw [← hv2, List.take_succ_eq_append_getElem (by rw [HVL.out]; exact hjn)]
          simp only [ints, List.map_append, List.map_cons, List.map_nil]
          simp [List.getD, HVL.out, hjn]
        have HFL := hid hfl
        generalize xl.getD kn 0 = v at *
        have hkn : (kn : Int) < (nx : Int) := by omega
        have hjn' : (j : Int) < (na : Int) := by omega
        have q2 : wr.cell? ⟨w.heap.size + 1 + 1, 2, none⟩ = some (.slice (some ⟨b2, off2, none⟩) nx xcap) := by simp [World.cell?, e2]
        obtain ⟨i0, hi, hz0, hz1, hz2⟩ := info_parts Tryz.infoInt
        clear hfl hv2 hge hmem e0 e1 e2 e3 hkr
        have HOWD : Hid (wr.drew.ownsRow wb.heap.size 3 1 u9 j (ints (vals.take j))) := hown
        have hlt9 : ∀ k, u9.ownBlock = some k → wb.heap.size ≤ k := fun k hk => (hown.lt k hk).1
        clear hown
        go_wp2
        apply cutB
        case k =>
          intro key
          go_region_law (refine step_append_lies _ rfl (.tmp 27) (.tmp 37) 35 rfl wb.heap.size 3 i0 (.int .i64 0) 1 8 Tryz.underlying35 hi hz0 hz1 hz2 rfl (by decide) u9 j (ints (vals.take j)) (by simp [Act.eval]) (HOWD.out.alloc _) ⟨wr.heap.size, 0, none⟩ 1 1 [.int .i64 v] (by simp [Act.eval]) rfl (cell_one_new _ _ _) (fun u hu => by rw [List.mem_singleton.1 hu]; rfl) (by decide) (by unfold maxLen; omega) (by omega) (by simp; omega) _ rfl ?_; intro g' cap' w2 hown' hgrow' hg' hlt')
          all_goals
            have hb2 : Below wb.heap.size wb w2 := ((hbel.trans ((Below.refl _ _).drew)).alloc (by simp; omega) _).grown hgrow' (by simp; omega) hlt9
            clear hgrow' hg' hlt'
            revert hb2
            revert hown'
            revert w2 cap' g'
            exact key.out
        intro g' cap' w2 hown' hb2
        rw [HFL.out] at hown'
        have HOW := hid hown'
        clear hown' hbel
        go_wp2
        go_roundw
        case rel => exact ⟨j + 1, by go_num, by omega, HOW.out, hb2⟩
        case measure => simp [intOf]; omega
      · have hje : j = na := by omega
        subst hje
        have hjn' : decide ((j : Int) < (j : Int)) = false := by simp
        have q0 : wr.cell? ⟨w.heap.size, 0, none⟩ = some (.slice pa pl pcap) := by simp [World.cell?, e0]
        have q3 : wr.cell? ⟨w.heap.size + 1 + 1 + 1, 3, none⟩ = some (.int .i64 f) := by simp [World.cell?, e3]
        rw [List.take_of_length_le (by rw [HVL.out]; exact Nat.le_refl _)] at hown
        obtain ⟨aa, acap, rfl, hrd⟩ := rdI_of_owns hown HVL.out
        have HFW := hid (HFR.out wr hbw aa acap hrd)
        have e4 := (hbel.block (w.heap.size + 1 + 1 + 1 + 1) (by omega)).trans HK4.out
        clear hown hrd e0 e2 e3 HFR
        rw [HVL.out] at HFW
        go_wp2_with fail
        refine HFW.out.mono ?_
        rintro e w2 ⟨cs, rfl, hlive, hnew, hb2⟩
        have hsz2 := hb2.size
        have hliveU := liveU_new hlive hnew
        obtain ⟨la, lcap, rfl, _⟩ := hlive
        simp only at hliveU ⊢
        have HLU := hid hliveU
        generalize hloc : fillI vals n j = loc at *
        generalize loc.length = ll at *
        have d1 := (hb2.block (w.heap.size + 1) (by omega)).trans e1
        have d4 := (hb2.block (w.heap.size + 1 + 1 + 1 + 1) (by omega)).trans e4
        have s2 : w2.cell? ⟨w.heap.size + 1, 2, none⟩ = some (.slice sa nl scap) := by simp [World.cell?, d1]
        have hlt1 : w.heap.size + 1 < w2.heap.size := by omega
        obtain ⟨w3, hw3⟩ : ∃ w3, w3 = w2.alloc (Obj.cells #[.int .i64 f, .int .i64 0, .slice la ll lcap] 172) := ⟨_, rfl⟩
        have hb3 : Below w2.heap.size w2 w3 := by rw [hw3]; exact (Below.refl _ _).alloc (Nat.le_refl _) _
        have hs3 : w3.heap.size = w2.heap.size + 1 := by rw [hw3]; simp
        have m3 : w3.heap[w2.heap.size]? = some (.cells #[.int .i64 f, .int .i64 0, .slice la ll lcap] 172 (0, 0)) := by rw [hw3]; exact heap_alloc_new _ _
        have hbw2 := hbw.trans (hb2.mono hbw.size)
        have hbw3 := hbw2.trans (hb3.mono hbw2.size)
        have HU4 := hid (HUN.out w3 hbw3)
        clear HUN HFW hnew hliveU e1 e4 d1 hb2 q0 q3 q5
        go_wp2_with fail
        rw [← hw3]
        clear hw3
        refine HU4.out.mono ?_
        rintro e w4 ⟨v4, css, rfl, hown4, hcl, hc3, hcR, hb4⟩
        have hsz4 := hb4.size
        have m4 := (hb4.block w2.heap.size (by omega)).trans m3
        have d3 := (hb3.block (w.heap.size + 1 + 1 + 1 + 1) (by omega)).trans d4
        have d5 := (hb4.block (w.heap.size + 1 + 1 + 1 + 1) (by omega)).trans d3
        have z0 : w4.cell? ⟨w2.heap.size, 0, none⟩ = some (.int .i64 f) := by simp [World.cell?, m4]
        have z1 : w4.cell? ⟨w2.heap.size, 1, none⟩ = some (.int .i64 0) := by simp [World.cell?, m4]
        have z2 : w4.cell? ⟨w2.heap.size, 2, none⟩ = some (.slice la ll lcap) := by simp [World.cell?, m4]
        have HC3 := hid hc3
        have HCL := hid hcl
        have HCR := hid hcR
        have HOW := hid hown4
        have hlt4 : ∀ k, v4.ownBlock = some k → w3.heap.size ≤ k := fun k hk => (hown4.lt k hk).1
        have HD5 := hid d5
        clear hc3 hcl hcR hown4 m3 m4 d3 d4 d5 HU4 s2
        obtain ⟨i0, hi, hz0, hz1, hz2⟩ := info_parts Tryz.infoLive
        go_wp2_with (at_builtin; refine wpList_append_lies _ rfl (.tmp 47) (.tmp 49) 93 rfl w3.heap.size 172 i0 (.agg #[.int .i64 0, .int .i64 0, .slice none 0 0]) 3 40 Tryz.underlying93 hi hz0 hz1 hz2 rfl (by decide) _ _ _ rfl (HOW.out.alloc _) ⟨w4.heap.size, 0, none⟩ 1 1 [.int .i64 f, .int .i64 0, .slice la ll lcap] rfl rfl ?d1 ?d2 (by decide) ?d3 ?d4 ?d5 _ rfl ?_)
        case d1 =>
          intro i u hu
          match i, hu with
          | 0, hu => simp at hu; subst hu; simp [Addr.add]
          | 1, hu => simp at hu; subst hu; simp [Addr.add]
          | 2, hu => simp at hu; subst hu; simp [Addr.add]
        case d2 => intro u hu; simp at hu; rcases hu with rfl | rfl | rfl <;> rfl
        case d3 => unfold maxLen; omega
        case d4 => omega
        case d5 => simp; omega
        intro g cap5 w5 hown5 hgrow5 _ hg5
        have hb45 : Below w3.heap.size w4 w5 := ((Below.refl _ _).alloc (by omega) _).grown hgrow5 (by simp; omega) hlt4
        have d5 := (hb45.block (w.heap.size + 1 + 1 + 1 + 1) (by omega)).trans HD5.out
        have y0 : w5.cell? ⟨w.heap.size + 1 + 1 + 1 + 1, 0, none⟩ = some (.int .i64 0) := by simp [World.cell?, d5]
        have y1 : w5.cell? ⟨w.heap.size + 1 + 1 + 1 + 1, 1, none⟩ = some (.int .i64 0) := by simp [World.cell?, d5]
        have y2 : w5.cell? ⟨w.heap.size + 1 + 1 + 1 + 1, 2, none⟩ = some (.slice none 0 0) := by simp [World.cell?, d5]
        have f0 : w5.frozen? ⟨w.heap.size + 1 + 1 + 1 + 1, 0, none⟩ = false := by simp [World.frozen?, d5]
        have f1 : w5.frozen? ⟨w.heap.size + 1 + 1 + 1 + 1, 1, none⟩ = false := by simp [World.frozen?, d5]
        have f2 : w5.frozen? ⟨w.heap.size + 1 + 1 + 1 + 1, 2, none⟩ = false := by simp [World.frozen?, d5]
        have HOW5 := hid hown5
        have hge5 := (hown5.lt g rfl).1
        clear hown5 hgrow5 HOW d5 z0 z1 z2
        have hb35 : Below w3.heap.size w3 w5 := hb4.trans hb45
        have hV1 : ∀ b, w3.heap.size ≤ b → OrNew (Old U w) (w.heap.size + 5) b := fun b hb => .inr (by omega)
        have hst := stand_snoc (V := OrNew (Old U w) (w.heap.size + 5)) (ls := live) (y := ⟨f, 0, loc⟩) 0 0 HOW5.out HC3.out (by have := HCL.out; omega) HNL.out.symm
          (fun i x cs h1 h2 => ((HCR.out i x cs h1 h2).below hb35).keeps (Keeps.below (Below.refl _ _)) (fun _ h => .inl h))
          (((HLU.out.below hb3).below hb35).keeps (Keeps.below (Below.refl _ _)) (fun b hb => .inr (by omega))) (by rw [hs3] at hV1; exact hV1)
        have hnb : ∀ j : Nat, ¬ OrNew (Old U w) (w.heap.size + 5) (⟨w.heap.size + 1 + 1 + 1 + 1, j, none⟩ : Addr).block := fun j h => by
          rcases h with h | h
          · have h' : w.heap.size + 1 + 1 + 1 + 1 < w.heap.size := h.2
            omega
          · have h' : w.heap.size + 5 ≤ w.heap.size + 1 + 1 + 1 + 1 := h
            omega
        have hst3 := ((hst.keeps (Keeps.setCell (hnb 0) (.int .i64 0)) (fun _ h => h)).keeps (Keeps.setCell (hnb 1) (.int .i64 0)) (fun _ h => h)).keeps (Keeps.setCell (hnb 2) (.slice (some ⟨g, 0, none⟩) (nl + 1) cap5)) (V := OrNew U w.heap.size) (fun b h => by
          rcases h with h | h
          · exact .inl h.1
          · exact .inr (by omega))
        have hbw5 := hbw3.trans (hb35.mono hbw3.size)
        have hbe := ((hbw5.setCell (p := ⟨w.heap.size + 1 + 1 + 1 + 1, 0, none⟩) (by show w.heap.size ≤ w.heap.size + 1 + 1 + 1 + 1; omega) (.int .i64 0)).setCell (p := ⟨w.heap.size + 1 + 1 + 1 + 1, 1, none⟩) (by show w.heap.size ≤ w.heap.size + 1 + 1 + 1 + 1; omega) (.int .i64 0)).setCell (p := ⟨w.heap.size + 1 + 1 + 1 + 1, 2, none⟩) (by show w.heap.size ≤ w.heap.size + 1 + 1 + 1 + 1; omega) (.slice (some ⟨g, 0, none⟩) (nl + 1) cap5)
        have HST := hid hst3
        have HBE := hid hbe
        clear hst hst3 hbe hV1
        go_wp2
        refine bodyPost_ret (v := .agg #[.int .i64 0, .int .i64 0, .slice (some ⟨g, 0, none⟩) (nl + 1) cap5]) (by simp [results, Tryz.results173, go_sem, y0, y1, y2]) rfl ⟨[.int .i64 0, .int .i64 0, .slice (some ⟨g, 0, none⟩) (nl + 1) cap5], rfl, ?_, HBE.out⟩
        exact HST.out
end Go.Proofs.YtffnfjkjlmlonaaGreatDoor
