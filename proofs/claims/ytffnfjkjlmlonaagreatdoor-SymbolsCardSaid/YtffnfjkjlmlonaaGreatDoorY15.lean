/- The contract of the reference's Unfolded: the frames of a pc of a function's code; nothing that was there is written. -/
import Derived.Test.YtffnfjkjlmlonaaGreatDoorZB32
import Derived.Test.YtffnfjkjlmlonaaGreatDoorZB24
import Derived.Test.YtffnfjkjlmlonaaGreatDoorZB21
namespace Go.Proofs.YtffnfjkjlmlonaaGreatDoor
open Go.RowKit
theorem i64s_rd {w : World} {base n : Nat} {v : Value} {l : List Int} (h : w.ownsRow base 3 1 v n (i64s l)) (hl : l.length = n) : ∃ a cap, v = .slice a n cap ∧ Rd .i64 w a n cap l := rdI_of_owns h hl
theorem own_one (w : World) (a b : ByteArray) (c : Int) (base : Nat) (hb : base ≤ w.heap.size) : (w.alloc (Obj.cells #[.string a, .string b, .int .i64 c] 107)).ownsRow base 107 3 (.slice (some ⟨w.heap.size, 0, none⟩) 1 1) 1 (frRow [⟨a, b, c⟩]) :=
  ⟨rfl, .inr ⟨w.heap.size, 1, _, rfl, hb, heap_alloc_new _ _, Nat.le_refl _, by unfold maxLen; omega, rfl, rfl⟩⟩
set_option maxHeartbeats 4000000 in
set_option maxRecDepth 100000 in
theorem unf_step (ia : Option Addr) (icap : Nat) (L : List EntD) (f x : Nat) (own : EntD) (R : List FrameD) (w : World) (hr : RdI w ia L.length icap L) (hg : EntG L.length own) (hf : L[f]? = some own) (h12 : L.length ≤ 12) (hx : x < (unroll own.lines).length) (hR : R.length ≤ 10000) (hR0 : 1 ≤ R.length)
    (IH : ∀ W : World, Below w.heap.size w W → (unroll own.index).getD x 0 ≠ 0 → Calls Tryz.prog 110 #[.agg #[.slice ia L.length icap], .int .i64 f, .int .i64 (own.tree.getD ((unroll own.index).getD x 0 - 1).toNat (0, 0)).2] W fun e w' =>
      ∃ a cap, e = .returned (.slice a R.length cap) ∧ w'.ownsRow W.heap.size 107 3 (.slice a R.length cap) R.length (frRow R) ∧ Below W.heap.size W w') :
    Calls Tryz.prog 110 #[.agg #[.slice ia L.length icap], .int .i64 f, .int .i64 x] w fun e w' => ∃ (F : List FrameD) (a : Option Addr) (cap : Nat), F = (if (unroll own.index).getD x 0 = 0 then [⟨own.name, own.file, (unroll own.lines).getD x 0⟩] else
        ⟨(L.getD (own.tree.getD ((unroll own.index).getD x 0 - 1).toNat (0, 0)).1.toNat noE).name, (L.getD (own.tree.getD ((unroll own.index).getD x 0 - 1).toNat (0, 0)).1.toNat noE).file, (unroll own.lines).getD x 0⟩ :: R) ∧
      e = .returned (.slice a F.length cap) ∧ w'.ownsRow w.heap.size 107 3 (.slice a F.length cap) F.length (frRow F) ∧ Below w.heap.size w w' := by
  have HR := hid hr
  have hc1 := hr.2.1
  have hc2 := hr.2.2.1
  unfold maxLen at hc2
  have hfl : f < L.length := (List.getElem?_eq_some_iff.1 hf).1
  have hx2 : x < (unroll own.index).length := by rw [hg.len]; exact hx
  obtain ⟨eb, eoff, la, lcap, xa, xcap, ta, tcap, rfl, m0, m1, m2, m3, m4, hrl, hrx, hrt⟩ := hr.at hf
  have heb : eb < w.heap.size := World.block_lt_of_cell? w _ m0
  have hmost := hg.most
  have hle := hg.len
  have htr := hg.trees
  have HND := hid (fun h => node_at hg hx h)
  have hin := inst_at hg hx
  have HUX := hid (fun (W : World) (hW : Below w.heap.size w W) => runrolled_any xa own.index.length xcap own.index W (hrx.below hW (Nat.le_refl _)) hg.wi)
  have HUL := hid (fun (W : World) (hW : Below w.heap.size w W) => runrolled_any la own.lines.length lcap own.lines W (hrl.below hW (Nat.le_refl _)) hg.wl)
  obtain ⟨i0, hif, hz0, hz1, hz2⟩ := info_parts Tryz.infoFrame
  obtain ⟨n, hn⟩ : ∃ v, v = L.length := ⟨_, rfl⟩
  rw [← hn] at HR hc1 h12 hfl HND IH ⊢
  have HN := hid hn
  obtain ⟨wb, hwb⟩ : ∃ v, v = w.alloc (Obj.cells #[.slice (some ⟨eb, eoff, none⟩) n icap] 41) := ⟨_, rfl⟩
  have hbb : Below w.heap.size w wb := by rw [hwb]; exact (Below.refl _ _).alloc (Nat.le_refl _) _
  have hbs : wb.heap.size = w.heap.size + 1 := by rw [hwb]; simp
  have kI : wb.heap[w.heap.size]? = some (.cells #[.slice (some ⟨eb, eoff, none⟩) n icap] 41 (0, 0)) := by rw [hwb]; exact heap_alloc_new _ _
  have HBB := hid hbb
  have HKI := hid kI
  have HCE : Hid (∀ W, Below w.heap.size w W → W.cell? ⟨eb, eoff + f * 5, none⟩ = some (.string own.name) ∧ W.cell? ⟨eb, eoff + f * 5 + 1, none⟩ = some (.string own.file) ∧ W.cell? ⟨eb, eoff + f * 5 + 2, none⟩ = some (.slice la own.lines.length lcap) ∧ W.cell? ⟨eb, eoff + f * 5 + 3, none⟩ = some (.slice xa own.index.length xcap) ∧ W.cell? ⟨eb, eoff + f * 5 + 4, none⟩ = some (.slice ta own.tree.length tcap)) := hid (fun W hW =>
    ⟨(hW.cell (p := ⟨eb, eoff + f * 5, none⟩) heb).trans m0, (hW.cell (p := ⟨eb, eoff + f * 5 + 1, none⟩) heb).trans m1, (hW.cell (p := ⟨eb, eoff + f * 5 + 2, none⟩) heb).trans m2, (hW.cell (p := ⟨eb, eoff + f * 5 + 3, none⟩) heb).trans m3, (hW.cell (p := ⟨eb, eoff + f * 5 + 4, none⟩) heb).trans m4⟩)
  have HIM : Hid (∀ W, Below wb.heap.size wb W → W.cell? ⟨w.heap.size, 0, none⟩ = some (.slice (some ⟨eb, eoff, none⟩) n icap) ∧ Below w.heap.size w W) := hid (fun W hW => by
    have k := (hW.block w.heap.size (by omega)).trans HKI.out
    exact ⟨by simp [World.cell?, k], HBB.out.trans (hW.mono HBB.out.size)⟩)
  have HRT := hid hrt
  have HIH := hid IH
  have HUX1 := hid (HUX.out wb hbb)
  clear hr hg hf IH hn m0 m1 m2 m4 hrl hrx hrt kI hbb HUX
  obtain ⟨UI, hUI⟩ : ∃ v, v = unroll own.index := ⟨_, rfl⟩
  obtain ⟨UL, hUL⟩ : ∃ v, v = unroll own.lines := ⟨_, rfl⟩
  rw [← hUI] at hx2 hle HND hin HUX1 HIH ⊢
  rw [← hUL] at hx hle hmost HND HUL ⊢
  clear hUI hUL
  obtain ⟨iv, hiv⟩ : ∃ v, v = UI.getD x 0 := ⟨_, rfl⟩
  rw [← hiv] at HND hin HIH ⊢
  obtain ⟨lv, hlv⟩ : ∃ v, v = UL.getD x 0 := ⟨_, rfl⟩
  rw [← hlv]
  obtain ⟨nd, hnd⟩ : ∃ v, v = own.tree.getD (iv - 1).toNat (0, 0) := ⟨_, rfl⟩
  rw [← hnd] at HND HIH ⊢
  obtain ⟨FIN, hFIN⟩ : ∃ v, v = (if iv = 0 then [(⟨own.name, own.file, lv⟩ : FrameD)] else ⟨(L.getD nd.1.toNat noE).name, (L.getD nd.1.toNat noE).file, lv⟩ :: R) := ⟨_, rfl⟩
  rw [← hFIN]
  have HFIN := hid hFIN
  have HIV := hid hiv
  have HLV := hid hlv
  have HNDE := hid hnd
  clear hFIN hiv hlv hnd
  go_enter Tryz.func110, Tryz.ntmps110
  go_wp2_with fail
  rw [← hwb]
  clear hwb
  refine HUX1.out.mono ?_
  rintro e w1 ⟨v, rfl, ho1, b1⟩
  obtain ⟨va, vc, rfl, hrv⟩ := i64s_rd ho1 rfl
  obtain ⟨ci1, bw1⟩ := HIM.out w1 b1
  obtain ⟨-, -, n2, -, -⟩ := HCE.out w1 bw1
  have s1 := b1.size
  have heb2 : eb < w1.heap.size := by omega
  have HUL1 := hid (HUL.out w1 bw1)
  clear ho1 m3 HUX1 HUL
  go_wp2_with fail
  refine HUL1.out.mono ?_
  rintro e w2 ⟨v, rfl, ho2, b2⟩
  obtain ⟨ua, uc, rfl, hru⟩ := i64s_rd ho2 rfl
  have b12 : Below wb.heap.size wb w2 := b1.trans (b2.mono b1.size)
  obtain ⟨ci2, bw2⟩ := HIM.out w2 b12
  obtain ⟨n0, n1, -, -, n4⟩ := HCE.out w2 bw2
  have s2 := b2.size
  have heb3 : eb < w2.heap.size := by omega
  obtain ⟨vb, voff, rfl, hcv⟩ := (hrv.below b2 (Nat.le_refl _)).open (by omega)
  obtain ⟨ub, uoff, rfl, hcu⟩ := hru.open (by omega)
  have cv := hcv x hx2
  have cu := hcu x hx
  have hvc := hrv.hcap
  have hvm := hrv.hmax
  have huc := hru.hcap
  have hum := hru.hmax
  unfold maxLen at hvm hum
  have HRV := hid (hrv.below b2 (Nat.le_refl _))
  have HRU := hid hru
  clear ho2 hrv hru hcv hcu ci1 n2 HUL1
  rw [← HIV.out] at cv
  rw [← HLV.out] at cu
  by_cases h0 : iv = 0
  · subst h0
    have hfi := HFIN.out
    rw [if_pos rfl] at hfi
    have HO := hid (own_one w2 own.name own.file lv w.heap.size bw2.size)
    have HB := hid (bw2.alloc bw2.size (Obj.cells #[.string own.name, .string own.file, .int .i64 lv] 107))
    clear bw2 b1 b2 b12
    go_wp2
    go_region
    all_goals
      go_wp2
      go_ret
      exact ⟨FIN, some ⟨w2.heap.size, 0, none⟩, 1, rfl, by rw [hfi]; rfl, by rw [hfi]; exact owns_below HO.out (Below.refl _ _).drew, HB.out.drew⟩
  · have h0' : (iv == 0) = false := by simpa using h0
    have hfi := HFIN.out
    rw [if_neg h0] at hfi
    obtain ⟨he, ⟨d1, d2⟩, ⟨d3, d4⟩, d5⟩ := HND.out h0
    obtain ⟨z, hz⟩ : ∃ z : Nat, iv = (z : Int) + 1 := ⟨(iv - 1).toNat, by omega⟩
    obtain ⟨tb, toff, rfl, ct⟩ := (HRT.out.below bw2 (Nat.le_refl _)).open (by omega)
    obtain ⟨ct1, ct2⟩ := ct z (by omega)
    rw [show z = (iv - 1).toNat by omega, ← HNDE.out, show (iv - 1).toNat = z by omega] at ct1 ct2
    have ew : IntKind.i64.wrap (iv - 1) = (z : Int) := by rw [IntKind.wrap_i64]; omega
    have hzt : (z : Int) < (own.tree.length : Int) := by omega
    have htb : tb < w2.heap.size := World.block_lt_of_cell? w2 _ ct1
    have hvb : vb < w2.heap.size := World.block_lt_of_cell? w2 _ cv
    have hub : ub < w2.heap.size := World.block_lt_of_cell? w2 _ cu
    have htc := HRT.out.hcap
    have htm := HRT.out.hmax
    unfold maxLen at htm
    have hwlt : w.heap.size < w2.heap.size := by omega
    have ez : IntKind.i64.wrap (z : Int) = (z : Int) := by rw [IntKind.wrap_i64]; omega
    have HZ := hid hz
    clear ct he hz
    obtain ⟨y, hy⟩ : ∃ y, y = L.getD nd.1.toNat noE := ⟨_, rfl⟩
    rw [← hy] at hfi
    have hyL : L[nd.1.toNat]? = some y := by rw [hy]; exact getD_some _ (by have := HN.out; omega)
    obtain ⟨eb', eoff', yla, ylc, yxa, yxc, yta, ytc, ee, o0, o1, o2, o3, o4, -⟩ := (HR.out.below bw2).at hyL
    cases ee
    clear hy hyL
    generalize y.name = yn at *
    generalize y.file = yf at *
    generalize y.lines.length = yll at *
    generalize y.index.length = yil at *
    generalize y.tree.length = ytl at *
    obtain ⟨w3, hw3⟩ : ∃ v, v = ((w2.alloc (Obj.cells #[.int .i64 nd.1, .int .i64 nd.2] 112)).alloc (Obj.cells #[.string yn, .string yf, .slice yla yll ylc, .slice yxa yil yxc, .slice yta ytl ytc] 115)).drew := ⟨_, rfl⟩
    have b23 : Below w2.heap.size w2 w3 := by rw [hw3]; exact (((Below.refl _ _).alloc (Nat.le_refl _) _).alloc (by simp) _).drew
    have s3 : w3.heap.size = w2.heap.size + 2 := by rw [hw3]; simp
    have kn : w3.heap[w2.heap.size]? = some (.cells #[.int .i64 nd.1, .int .i64 nd.2] 112 (0, 0)) := by
      rw [hw3]
      show (((w2.alloc _).alloc _)).heap[w2.heap.size]? = _
      rw [heap_alloc_old _ _ (by simp)]
      exact heap_alloc_new _ _
    have ky : w3.heap[w2.heap.size + 1]? = some (.cells #[.string yn, .string yf, .slice yla yll ylc, .slice yxa yil yxc, .slice yta ytl ytc] 115 (0, 0)) := by
      rw [hw3]
      show (((w2.alloc (Obj.cells #[.int .i64 nd.1, .int .i64 nd.2] 112)).alloc (Obj.cells #[.string yn, .string yf, .slice yla yll ylc, .slice yxa yil yxc, .slice yta ytl ytc] 115))).heap[w2.heap.size + 1]? = _
      have e : (w2.alloc (Obj.cells #[.int .i64 nd.1, .int .i64 nd.2] 112)).heap.size = w2.heap.size + 1 := by simp
      rw [← e]
      exact heap_alloc_new _ _
    have cu3 := (b23.cell (p := ⟨ub, uoff + x, none⟩) hub).trans cu
    have y0 : w3.cell? ⟨w2.heap.size + 1, 0, none⟩ = some (.string yn) := by simp [World.cell?, ky]
    have y1 : w3.cell? ⟨w2.heap.size + 1, 1, none⟩ = some (.string yf) := by simp [World.cell?, ky]
    have hub3 : ub < w3.heap.size := by omega
    have hy3 : w2.heap.size + 1 < w3.heap.size := by omega
    have bb3 : Below wb.heap.size wb w3 := b12.trans (b23.mono b12.size)
    obtain ⟨ci3, bw3⟩ := HIM.out w3 bb3
    have hwlt3 : w.heap.size < w3.heap.size := by omega
    obtain ⟨w4, hw4⟩ : ∃ v, v = (w3.alloc (Obj.cells #[.string yn, .string yf, .int .i64 lv] 107)).drew := ⟨_, rfl⟩
    have b34 : Below w3.heap.size w3 w4 := by rw [hw4]; exact ((Below.refl _ _).alloc (Nat.le_refl _) _).drew
    have bb4 : Below wb.heap.size wb w4 := bb3.trans (b34.mono bb3.size)
    obtain ⟨ci4, bw4⟩ := HIM.out w4 bb4
    have s4 : w4.heap.size = w3.heap.size + 1 := by rw [hw4]; simp
    have kn4 := (b34.block w2.heap.size (by omega)).trans kn
    have n41 : w4.cell? ⟨w2.heap.size, 1, none⟩ = some (.int .i64 nd.2) := by simp [World.cell?, kn4]
    have hn4 : w2.heap.size < w4.heap.size := by omega
    have hwlt4 : w.heap.size < w4.heap.size := by omega
    have HO4 : Hid (w4.ownsRow w.heap.size 107 3 (.slice (some ⟨w3.heap.size, 0, none⟩) 1 1) 1 (frRow [⟨yn, yf, lv⟩])) := hid (by rw [hw4]; exact owns_below (own_one w3 yn yf lv w.heap.size (by omega)) (Below.refl _ _).drew)
    have HIC := hid (HIH.out w4 bw4 h0)
    have HB4 := hid bw4
    have HS4 := hid (show w.heap.size ≤ w4.heap.size by omega)
    clear s3 s4
    clear kn ky kn4 b23 b34 bb3 bb4 bw3 bw4 b12 b1 b2 bw2 HCE HIH
    go_wp2
    go_region
    all_goals
      go_wp2
      rw [← hw3]
      clear hw3
      go_region
      all_goals
        rw [← hw4]
        clear hw4
        go_wp2_with fail
        refine HIC.out.mono ?_
        rintro e w5 ⟨ra, rc, rfl, ho5, b5⟩
        obtain ⟨ra', rc', re, -, hrc, hra⟩ := ownsRow_form ho5
        simp only [Value.slice.injEq, true_and] at re
        obtain ⟨rfl, rfl⟩ := re
        obtain ⟨rg, rfl⟩ := hra (by omega)
        unfold maxLen at hrc
        have HNW := hid (ho5.cells (g := rg) rfl)
        have HO5 := hid (owns_below HO4.out b5)
        have HB5 := hid (HB4.out.trans (b5.mono HB4.out.size))
        have hs5 : w.heap.size ≤ w5.heap.size := HB5.out.size
        have HRL : Hid ((frRow R).length = R.length * 3) := hid (frRow_len R)
        clear ho5 b5 HIC HO4 HB4
        go_wp2_with (at_builtin; refine wpList_append_own _ rfl (.tmp 84) (.tmp 85) 38 rfl w.heap.size 107 i0 (.agg #[.string ⟨#[]⟩, .string ⟨#[]⟩, .int .i64 0]) 3 40 Tryz.underlying38 hif hz0 hz1 hz2 rfl (by decide) _ _ _ rfl HO5.out ⟨rg, 0, none⟩ R.length rc (frRow R) rfl HRL.out HNW.out (frRow_one R) (by unfold maxLen; omega) (by omega) hs5 ?_)
        intro v6 w6 hown6 hgrow6 _
        have HB6 := hid (HB5.out.grown hgrow6 hs5 (fun k hk => (HO5.out.lt k hk).1))
        obtain ⟨a6, c6, rfl, -, -⟩ := owns_form hown6
        have HO6 := hid hown6
        clear hown6 hgrow6 HO5 HB5 HNW
        go_wp2
        go_ret
        have e1 : FIN.length = 1 + R.length := by rw [hfi, List.length_cons]; omega
        have e2 : frRow FIN = frRow [⟨yn, yf, lv⟩] ++ frRow R := by rw [hfi]; rfl
        exact ⟨FIN, a6, c6, rfl, by rw [e1]; rfl, by rw [e1, e2]; exact HO6.out, HB6.out⟩
/-- The frames of pc x of a function's code. -/
theorem unf_any (ia : Option Addr) (icap : Nat) (L : List EntD) (f : Nat) (own : EntD) (hg : EntG L.length own) (hf : L[f]? = some own) (h12 : L.length ≤ 12) : ∀ (fu x : Nat) (w : World), RdI w ia L.length icap L → x < (unroll own.lines).length → (unroll own.index).getD x 0 ≤ fu → fu ≤ 9999 →
    Calls Tryz.prog 110 #[.agg #[.slice ia L.length icap], .int .i64 f, .int .i64 x] w fun e w' => ∃ a cap, e = .returned (.slice a (unfD L own fu x).length cap) ∧ w'.ownsRow w.heap.size 107 3 (.slice a (unfD L own fu x).length cap) (unfD L own fu x).length (frRow (unfD L own fu x)) ∧ Below w.heap.size w w'
  | 0, x, w, hr, hx, hi, hfu => by
    have h0 : (unroll own.index).getD x 0 = 0 := by have := inst_at hg hx; omega
    refine (unf_step ia icap L f x own [zrFr] w hr hg hf h12 hx (by simp) (by simp) (fun W _ h => absurd h0 h)).mono ?_
    rintro e w' ⟨F, a, cap, hF, rfl, ho, hb⟩
    rw [if_pos h0] at hF
    have e1 : unfD L own 0 x = F := by rw [hF]; rfl
    rw [e1]
    exact ⟨a, cap, rfl, ho, hb⟩
  | fu + 1, x, w, hr, hx, hi, hfu => by
    by_cases h0 : (unroll own.index).getD x 0 = 0
    · refine (unf_step ia icap L f x own [zrFr] w hr hg hf h12 hx (by simp) (by simp) (fun W _ h => absurd h0 h)).mono ?_
      rintro e w' ⟨F, a, cap, hF, rfl, ho, hb⟩
      rw [if_pos h0] at hF
      have e1 : unfD L own (fu + 1) x = F := by rw [hF]; unfold unfD; rw [if_pos h0]
      rw [e1]
      exact ⟨a, cap, rfl, ho, hb⟩
    · obtain ⟨-, -, g2, g3⟩ := node_at hg hx h0
      have hul := unfD_len (L := L) (own := own) fu (own.tree.getD ((unroll own.index).getD x 0 - 1).toNat (0, 0)).2.toNat
      have hup : 1 ≤ (unfD L own fu (own.tree.getD ((unroll own.index).getD x 0 - 1).toNat (0, 0)).2.toNat).length := by
        cases fu with
        | zero => simp [unfD]
        | succ k =>
          unfold unfD
          split
          · simp
          · simp
      have ez : ((own.tree.getD ((unroll own.index).getD x 0 - 1).toNat (0, 0)).2.toNat : Int) = (own.tree.getD ((unroll own.index).getD x 0 - 1).toNat (0, 0)).2 := by omega
      refine (unf_step ia icap L f x own (unfD L own fu (own.tree.getD ((unroll own.index).getD x 0 - 1).toNat (0, 0)).2.toNat) w hr hg hf h12 hx (by omega) hup (fun W hW _ => ?_)).mono ?_
      · have h := unf_any ia icap L f own hg hf h12 fu (own.tree.getD ((unroll own.index).getD x 0 - 1).toNat (0, 0)).2.toNat W (hr.below hW) (by omega) (by omega) (by omega)
        rw [ez] at h
        exact h
      · rintro e w' ⟨F, a, cap, hF, rfl, ho, hb⟩
        rw [if_neg h0] at hF
        have e1 : unfD L own (fu + 1) x = F := by rw [hF]; conv => lhs; unfold unfD; rw [if_neg h0]
        rw [e1]
        exact ⟨a, cap, rfl, ho, hb⟩
end Go.Proofs.YtffnfjkjlmlonaaGreatDoor
