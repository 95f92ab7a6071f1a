/- The contract of the developers' image.Decode: what the plain reader reads of the bytes, in memory of the call's own; nothing that was there is written. Contracts of the developers' image.textBytes, tablesMayBe, treeMayBe and WellFormed, where an image is well-formed: they give the plain bytes, and true; nothing that was there is written. The contract of the developers' image.WellFormed where an image is well-formed: true; nothing that was there is written. The contract of the developers' image.Encode where an image is well-formed: its bytes, in a row of the call's own; nothing that was there is written. -/
import Derived.Test.YtffnfjkjlmlonaaGreatDoorZB11
import Derived.Lib.AppendStr
import Derived.Deep.RegionHeld
namespace Go.Proofs.YtffnfjkjlmlonaaGreatDoor
open Go.RowKit
theorem Tryz.infoEntry : (Tryz.prog.info? 115).map (fun i => (i.zero, i.size, i.bytes)) = some (some (.agg #[.string ⟨#[]⟩, .string ⟨#[]⟩, .slice none 0 0, .slice none 0 0, .slice none 0 0]), 5, 104) := by kernel_rfl
theorem ent5_new (w : World) (a b c d e : Value) (t : TypeId) : ∀ j u, [a, b, c, d, e][j]? = some u → (w.alloc (.cells #[a, b, c, d, e] t)).cell? ((⟨w.heap.size, 0, none⟩ : Addr).add j) = some u := by
  intro j u hu
  match j, hu with
  | 0, hu => simp at hu; subst hu; simp [Addr.add]
  | 1, hu => simp at hu; subst hu; simp [Addr.add]
  | 2, hu => simp at hu; subst hu; simp [Addr.add]
  | 3, hu => simp at hu; subst hu; simp [Addr.add]
  | 4, hu => simp at hu; subst hu; simp [Addr.add]
theorem ent5_new_at {w : World} {H : Nat} (hH : w.heap.size = H) (a b c d e : Value) (t : TypeId) : ∀ j u, [a, b, c, d, e][j]? = some u → (w.alloc (.cells #[a, b, c, d, e] t)).cell? ((⟨H, 0, none⟩ : Addr).add j) = some u := by subst hH; exact ent5_new w a b c d e t
theorem ent5_one {w : World} {base : Nat} {cs : List Value} {x : EntD} (h : OwnEnt base w cs x) : ∀ u ∈ cs, u.oneCell' = true := by
  obtain ⟨lv, iv, tv, rfl, h1, h2, h3, _⟩ := h
  obtain ⟨la, lc, rfl, _⟩ := owns_form h1
  obtain ⟨ia, ic, rfl, _⟩ := owns_form h2
  obtain ⟨ta, tc, rfl, _⟩ := owns_form h3
  intro u hu
  simp at hu
  rcases hu with rfl | rfl | rfl | rfl | rfl <;> rfl
theorem rEnts_succ (bs : List Int) (n : Int) (f : Nat) (l : List EntD) (s : RsD) : rEnts bs n (f + 1) l s = if s.e = 0 then rEnts bs n f (l ++ [(rEntry bs s n).1]) (rEntry bs s n).2 else (l, s) := rfl
theorem rEnts_stop (bs : List Int) (n : Int) (f : Nat) (l : List EntD) (s : RsD) (h : s.e ≠ 0) : rEnts bs n f l s = (l, s) := by
  cases f with
  | zero => rfl
  | succ f => rw [rEnts_succ, if_neg h]
set_option maxHeartbeats 4000000 in
set_option maxRecDepth 100000 in
theorem idecode_any (ba : Option Addr) (blen bcap : Nat) (bs : List Int) (w : World) (hb : Rd .u8 w ba blen bcap bs) (hne : ∀ q, ba = some q → q.block < w.heap.size) (hx : ∀ j, 0 ≤ bs.getD j 0 ∧ bs.getD j 0 ≤ 255) (hH : HeadAt w) :
    Calls Tryz.prog 102 #[.slice ba blen bcap] w fun e w' => ∃ v, e = .returned (.tuple #[.agg #[v], .int .i64 (decI bs).2.1, .int .i64 (decI bs).2.2]) ∧ OwnI w.heap.size w' v (decI bs).1 ∧ Below w.heap.size w w' := by
  have HL := hid hb.hlen
  have hmax := hb.hmax
  have hcap := hb.hcap
  unfold maxLen at hmax
  have hHl := hH.lt
  obtain ⟨wA, hwA⟩ : ∃ wA, wA = (w.alloc (Obj.cells #[.slice none 0 0] 41)).alloc (Obj.cells (rdA (.slice ba blen bcap) rBeg (.slice none 0 0) (.slice none 0 0)) 206) := ⟨_, rfl⟩
  have hbA : Below w.heap.size w wA := by rw [hwA]; exact ((Below.refl _ _).alloc (Nat.le_refl _) _).alloc (by simp) _
  have hsA : wA.heap.size = w.heap.size + 2 := by rw [hwA]; simp
  have hkA : wA.heap[w.heap.size + 1]? = some (.cells (rdA (.slice ba blen bcap) rBeg (.slice none 0 0) (.slice none 0 0)) 206 (0, 0)) := by
    rw [hwA]
    have := heap_alloc_new (w.alloc (Obj.cells #[.slice none 0 0] 41)) (Obj.cells (rdA (.slice ba blen bcap) rBeg (.slice none 0 0) (.slice none 0 0)) 206)
    simpa using this
  have heA : wA.heap[w.heap.size]? = some (.cells #[.slice none 0 0] 41 (0, 0)) := by
    rw [hwA, heap_alloc_old _ _ (by simp)]
    exact heap_alloc_new _ _
  have hRA : RdrAt w (.slice ba blen bcap) (w.heap.size + 1) wA rBeg := ⟨.slice none 0 0, .slice none 0 0, hkA, hbA, by omega, World.ownsRow_nil _ _ _ _, World.ownsRow_nil _ _ _ _, fun k hk => by simp [Value.ownBlock] at hk, fun x hx => by simp [rBeg] at hx, fun x hx => by simp [rBeg] at hx⟩
  have HHD := hid (rhead_any (w.heap.size + 1) ba blen bcap bs (.slice none 0 0) (.slice none 0 0) rBeg wA hkA (hb.below hbA (Nat.le_refl _)) (hH.below hbA (Nat.le_refl _)))
  unfold rdA rBeg at hwA
  simp only at hwA
  obtain ⟨sH, hsH⟩ : ∃ v, v = rHead bs rBeg := ⟨_, rfl⟩
  rw [← hsH] at HHD
  have hinvH : InvR bs sH := by rw [hsH]; exact rHeadF_inv _ 0 rBeg rfl ⟨by simp [rBeg], by simp [rBeg], by simp [rBeg, ErrD]⟩ (by omega)
  have hcnt : rCnt bs = ((rNum bs sH).1, rTake (rNum bs sH).2 (cntB (rNum bs sH).1)) := by rw [hsH]; rfl
  obtain ⟨⟨n, sN⟩, hn⟩ : ∃ v, rNum bs sH = v := ⟨_, rfl⟩
  have HNM := hid (fun (W : World) (h : W.heap[w.heap.size + 1]? = some (.cells (rdA (.slice ba blen bcap) sH (.slice none 0 0) (.slice none 0 0)) 206 (0, 0))) (hb' : Rd .u8 W ba blen bcap bs) => rnumber_any (w.heap.size + 1) ba blen bcap bs (.slice none 0 0) (.slice none 0 0) sH W h hb' hx)
  have hn0 := (rNum_inv hx hinvH).2
  have hinv2 := rTake_inv (rNum_inv hx hinvH).1 (cntB (rNum bs sH).1)
  have hnf1 := rNum_nf bs sH
  rw [hn] at HNM hcnt hn0 hinv2 hnf1
  simp only at HNM hcnt hn0 hinv2 hnf1
  have HCM := hid (fun W => countMayBe_any n W)
  have HTK := hid (fun (W : World) (h : W.heap[w.heap.size + 1]? = some (.cells (rdA (.slice ba blen bcap) sN (.slice none 0 0) (.slice none 0 0)) 206 (0, 0))) => take_any (w.heap.size + 1) (.slice ba blen bcap) (.slice none 0 0) (.slice none 0 0) sN (cntB n) W h)
  have hnf2 := rTake_nf sN (cntB n)
  have hc12 : (rTake sN (cntB n)).e = 0 → 1 ≤ n ∧ n ≤ 12 := fun h => by have := (rTake_ok h).2.1; unfold cntB at this; exact of_decide_eq_true this
  obtain ⟨s2, hs2⟩ : ∃ v, rTake sN (cntB n) = v := ⟨_, rfl⟩
  rw [hs2] at HTK hcnt hinv2 hc12 hnf2
  have hsHn : sH.names = [] ∧ sH.files = [] ∧ sH.room = 1000 := by
    rw [hsH]
    have : ∀ (r : List Int) (k : Nat) (s : RsD), (rHeadF bs k r s).names = s.names ∧ (rHeadF bs k r s).files = s.files ∧ (rHeadF bs k r s).room = s.room := by
      intro r
      induction r with
      | nil => intro k s; exact ⟨rfl, rfl, rfl⟩
      | cons c r ih =>
        intro k s
        unfold rHeadF
        split
        · exact ⟨rfl, rfl, rfl⟩
        · split
          · exact ⟨rfl, rfl, rfl⟩
          · exact ih _ _
    exact this _ _ _
  have h2n : s2.names = [] := by rw [hnf2.1, hnf1.1, hsHn.1]
  have h2f : s2.files = [] := by rw [hnf2.2.1, hnf1.2.1, hsHn.2.1]
  have h2r : s2.room = 1000 := by rw [hnf2.2.2, hnf1.2.2, hsHn.2.2]
  have hall : rAll bs = ((rEnts bs n n.toNat [] s2).1, rEnd bs (rEnts bs n n.toNat [] s2).2) := by unfold rAll; rw [hcnt]
  have HEN := hid (fun (W : World) (s : RsD) (h : RdrAt w (.slice ba blen bcap) (w.heap.size + 1) W s) (hi : InvR bs s) h1 h2 h3 h4 => rentry_any w ba blen bcap bs (w.heap.size + 1) s n W h hb hne hx hi h1 h2 h3 h4)
  have HB := hid hb
  have hner : ∀ q, ba = some q → q.block ≠ w.heap.size + 1 := fun q hq => by have := hne q hq; omega
  have HALL := hid hall
  have HNX := hid (fun s => rEntry_nf bs hx s n)
  have HINV := hid (fun (s : RsD) (h : InvR bs s) => rEntry_inv hx h n)
  have HBA := hid hbA
  have HKA := hid hkA
  have HEA := hid heA
  have HRA := hid hRA
  obtain ⟨i0, hif, hz0, hz1, hz2⟩ := info_parts Tryz.infoEntry
  clear hkA hbA heA hRA hb hn hs2 hcnt hsH hsHn hnf1 hnf2 hall hinvH
  generalize cntB n = cb at *
  go_enter Tryz.func102, Tryz.ntmps102
  go_wp2_with fail
  rw [← hwA]
  refine HHD.out.mono ?_
  rintro e w1 ⟨rfl, o1, k1⟩
  go_wp2_with fail
  refine (HNM.out w1 k1 ((HB.out.below HBA.out (Nat.le_refl _)).only o1 hner)).mono ?_
  rintro e w2 ⟨rfl, o2, k2⟩
  go_wp2_with fail
  refine (HCM.out _).mono ?_
  rintro e w' ⟨rfl, rfl⟩
  go_wp2_with fail
  refine (HTK.out _ k2).mono ?_
  rintro e w3 ⟨rfl, o3, k3⟩
  have o13 := (o1.trans o2).trans o3
  have hR3 : RdrAt w (.slice ba blen bcap) (w.heap.size + 1) w3 s2 := by
    have := HRA.out.next (s' := s2) o13 (fun nv' fv' h => by
      have e := HKA.out
      rw [h] at e
      simp [rdA] at e
      obtain ⟨rfl, rfl⟩ := e
      exact k3) (by rw [h2n]; rfl) (by rw [h2f]; rfl)
    exact this.1
  have he3 : w3.heap[w.heap.size]? = some (.cells #[.slice none 0 0] 41 (0, 0)) := (o13.block w.heap.size (by omega) (by omega)).trans HEA.out
  have hs3 : w.heap.size + 2 ≤ w3.heap.size := by have := o13.size; omega
  obtain ⟨w4, hw4⟩ : ∃ w4, w4 = w3.alloc (Obj.cells #[.slice none 0 0] 41) := ⟨_, rfl⟩
  have hb4 : Below w3.heap.size w3 w4 := by rw [hw4]; exact (Below.refl _ _).alloc (Nat.le_refl _) _
  have hi4 : w4.heap[w3.heap.size]? = some (.cells #[.slice none 0 0] 41 (0, 0)) := by rw [hw4]; exact heap_alloc_new _ _
  have hs4 : w4.heap.size = w3.heap.size + 1 := by rw [hw4]; simp
  have HR4 := hid (hR3.below hb4)
  have HE4 := hid ((hb4.block w.heap.size (by omega)).trans he3)
  have HI4 := hid hi4
  have h12 : s2.e = 0 → n ≤ 12 := fun h => (hc12 h).2
  have H2N := hid h2n
  have H2F := hid h2f
  have H2R := hid h2r
  have HS4 := hid hs4
  clear hR3 he3 hb4 hi4 hs4 k1 k2 k3 o1 o2 o3 o13 HHD HNM HTK HCM HKA HRA HEA hc12 h2n h2f h2r
  obtain ⟨ib, hib⟩ : ∃ ib, ib = w3.heap.size := ⟨_, rfl⟩
  have hib2 : w.heap.size + 2 ≤ ib := by omega
  have HS4' := HS4.out
  rw [← hib] at HI4 HS4'
  go_wp2
  rw [← hw4, ← hib]
  have HS5 := hid HS4'
  clear hw4 hib hs3 HS4 HS4'
  go_loopw [8] (fun i wr => ∃ (k : Nat) (l : List EntD) (sj : RsD) (fa : Option Addr) (fcap : Nat) (css : List (List Value)), i = .int .i64 k ∧ k ≤ 12 ∧ ((k : Int) ≤ n ∨ k = 0) ∧ l.length = k ∧ rEnts bs n n.toNat [] s2 = rEnts bs n (n - k).toNat l sj ∧ InvR bs sj ∧ (sj.e = 0 → n ≤ 12) ∧ sj.names.length = k ∧ sj.files.length ≤ k ∧ 1000 - 1000 * (k : Int) ≤ sj.room ∧ sj.room ≤ 1000 ∧ RdrAt w (.slice ba blen bcap) (w.heap.size + 1) wr sj ∧ wr.heap[ib]? = some (.cells #[.slice fa k fcap] 41 (0, 0)) ∧ wr.heap[w.heap.size]? = some (.cells #[.slice none 0 0] 41 (0, 0)) ∧ wr.ownsRow w.heap.size 115 5 (.slice fa k fcap) k css.flatten ∧ OwnEnts w.heap.size wr css l ∧ ib < wr.heap.size) (fun i _ => (n - intOf i).toNat)
  case atStart => exact ⟨0, [], s2, none, 0, [], rfl, by omega, .inr rfl, rfl, by simp, hinv2, h12, by rw [H2N.out]; rfl, by rw [H2F.out]; simp, by rw [H2R.out]; simp, by rw [H2R.out]; simp, HR4.out, HI4.out, HE4.out, World.ownsRow_nil _ _ _ _, ⟨rfl, fun i cs x h => by simp at h⟩, by have := HS5.out; omega⟩
  case round =>
    clear HR4 HI4 HE4 H2N H2F H2R hinv2 h12
    obtain ⟨k, l, sj, fa, fcap, css, rfl, hk12, hkn, hlk, hent, hinv, hn12, hnm, hfm, hro1, hro2, hR, hi, he0, hown, hents, hibl⟩ := hrel
    obtain ⟨nvj, fvj, hkj⟩ := hR.box
    have c3 : wr.cell? ⟨w.heap.size + 1, 3, none⟩ = some (.int .i64 sj.e) := by simp [World.cell?, hkj, rdA]
    have hcm : fcap ≤ maxLen := by
      obtain ⟨a', c', e', h1', h2'⟩ := owns_form hown
      simp at e'
      omega
    unfold maxLen at hcm
    by_cases hgo : (k : Int) < n ∧ sj.e = 0
    · obtain ⟨hkn', hej⟩ := hgo
      have hej' : (sj.e == 0) = true := by simpa using hej
      have hn12' := hn12 hej
      have hinv5 := HINV.out sj hinv
      have hnx := HNX.out sj
      have HE1 := hid (HEN.out wr sj hR hinv (by omega) (by omega) (by omega) (by omega))
      have hstep : rEnts bs n n.toNat [] s2 = rEnts bs n (n - ((k + 1 : Nat) : Int)).toNat (l ++ [(rEntry bs sj n).1]) (rEntry bs sj n).2 := by
        rw [hent]
        obtain ⟨f, hf⟩ : ∃ f, (n - (k : Int)).toNat = f + 1 := ⟨(n - (k : Int)).toNat - 1, by omega⟩
        have hf2 : (n - ((k + 1 : Nat) : Int)).toNat = f := by omega
        rw [hf, hf2, rEnts_succ, if_pos hej]
      obtain ⟨⟨x, s5⟩, hx5⟩ : ∃ v, rEntry bs sj n = v := ⟨_, rfl⟩
      rw [hx5] at HE1 hinv5 hnx hstep
      simp only at HE1 hinv5 hnx hstep
      have HSTEP := hid hstep
      have HINV5 := hid hinv5
      have HNX5 := hid hnx
      have HOWN := hid hown
      have HENTS := hid hents
      have HI := hid hi
      have HE0 := hid he0
      have hsw : w.heap.size ≤ wr.heap.size := hR.since.size
      clear hx5 hstep hinv5 hnx hown hents hi he0 hent hkj hej hn12 hinv hR
      go_wp2_with fail
      refine HE1.out.mono ?_
      rintro e w5 ⟨lv, iv, tv, rfl, hR5, K5, g1, g2, g3, g4, g5⟩
      obtain ⟨la, lc, rfl, -, -⟩ := owns_form g1
      obtain ⟨ia, ic, rfl, -, -⟩ := owns_form g2
      obtain ⟨ta, tc, rfl, -, -⟩ := owns_form g3
      have hE5 : OwnEnt w.heap.size w5 [.string x.name, .string x.file, .slice la x.lines.length lc, .slice ia x.index.length ic, .slice ta x.tree.length tc] x := ⟨_, _, _, rfl, owns_low7 g1 hsw, owns_low7 g2 hsw, owns_low7 g3 hsw, g4, g5⟩
      have hi5 := K5.block ib _ _ _ HI.out (by decide)
      have he5 := K5.block w.heap.size _ _ _ HE0.out (by decide)
      have hown5 := K5.owns HOWN.out (by decide)
      have hents5 := HENTS.out.keep K5.toS
      have q5 : w5.cell? ⟨ib, 0, none⟩ = some (.slice fa k fcap) := by simp [World.cell?, hi5]
      have hi5l : ib < w5.heap.size := (Array.getElem?_eq_some_iff.1 hi5).1
      have hs5 : w.heap.size ≤ w5.heap.size := Nat.le_trans hsw K5.size
      have hb5 : Below w.heap.size w w5 := hR5.since
      have HO5 := hid hown5
      have HE5 := hid hE5
      have HN5 := hid hents5
      have HI5 := hid hi5
      have HX5 := hid he5
      have HR5 := hid hR5
      unfold entV
      clear hown5 hE5 hents5 hi5 he5 hR5 g1 g2 g3 K5 c3 HE1
      generalize x.lines.length = ll at *
      generalize x.index.length = il at *
      generalize x.tree.length = tl at *
      go_wp2_with (at_builtin; refine wpList_append_lies _ rfl (.tmp 30) (.tmp 32) 39 rfl w.heap.size 115 i0 (.agg #[.string ⟨#[]⟩, .string ⟨#[]⟩, .slice none 0 0, .slice none 0 0, .slice none 0 0]) 5 104 Tryz.underlying39 hif hz0 hz1 hz2 rfl (by decide) _ _ _ rfl ((HO5.out.alloc _).alloc _) ⟨w5.heap.size + 1, 0, none⟩ 1 1 [.string x.name, .string x.file, .slice la ll lc, .slice ia il ic, .slice ta tl tc] rfl rfl (ent5_new_at (by simp) _ _ _ _ _ _) (ent5_one HE5.out) (by decide) (by unfold maxLen; omega) (by omega) (by simp; omega) _ rfl ?_)
      intro g cap' w7 hown7 hgrow7 hat7 hlt7
      obtain ⟨wz, hwz⟩ : ∃ wz, wz = (w5.alloc (Obj.cells #[.string x.name, .string x.file, .slice la ll lc, .slice ia il ic, .slice ta tl tc] 115)).alloc (Obj.cells #[.string x.name, .string x.file, .slice la ll lc, .slice ia il ic, .slice ta tl tc] 115) := ⟨_, rfl⟩
      rw [← hwz] at hgrow7
      have hbz : Below w5.heap.size w5 wz := by rw [hwz]; exact ((Below.refl _ _).alloc (Nat.le_refl _) _).alloc (by simp) _
      have hoz : wz.ownsRow w.heap.size 115 5 (.slice fa k fcap) k css.flatten := owns_below HO5.out hbz
      have hiz := (hbz.block ib hi5l).trans HI5.out
      have hxz := (hbz.block w.heap.size (by omega)).trans HX5.out
      have hne1 : some ib ≠ (Value.slice fa k fcap).ownBlock := owns_other hoz hiz (by decide)
      have hne2 : some w.heap.size ≠ (Value.slice fa k fcap).ownBlock := owns_other hoz hxz (by decide)
      have hsz := hbz.size
      have hi7 : w7.heap[ib]? = some (.cells #[.slice fa k fcap] 41 (0, 0)) := (hgrow7.block ib (by omega) hne1).trans hiz
      have hx7 : w7.heap[w.heap.size]? = some (.cells #[.slice none 0 0] 41 (0, 0)) := (hgrow7.block w.heap.size (by omega) hne2).trans hxz
      have q7 : w7.cell? ⟨ib, 0, none⟩ = some (.slice fa k fcap) := by simp [World.cell?, hi7]
      have f7 : w7.frozen? ⟨ib, 0, none⟩ = false := by simp [World.frozen?, hi7]
      have HR8 : Hid (∀ W, W = w7.setCell ⟨ib, 0, none⟩ (.slice (some ⟨g, 0, none⟩) (k + 1) cap') → RdrAt w (.slice ba blen bcap) (w.heap.size + 1) W s5 ∧ W.heap[ib]? = some (.cells #[.slice (some ⟨g, 0, none⟩) (k + 1) cap'] 41 (0, 0)) ∧ W.heap[w.heap.size]? = some (.cells #[.slice none 0 0] 41 (0, 0)) ∧ W.ownsRow w.heap.size 115 5 (.slice (some ⟨g, 0, none⟩) (k + 1) cap') (k + 1) (css ++ [[Value.string x.name, .string x.file, .slice la ll lc, .slice ia il ic, .slice ta tl tc]]).flatten ∧ OwnEnts w.heap.size W (css ++ [[Value.string x.name, .string x.file, .slice la ll lc, .slice ia il ic, .slice ta tl tc]]) (l ++ [x]) ∧ ib < W.heap.size) := by
        rintro W rfl
        have KR : KeepP kR w5 (w7.setCell ⟨ib, 0, none⟩ (.slice (some ⟨g, 0, none⟩) (k + 1) cap')) := (KeepP.grown (KeepP.below hbz) hgrow7 hoz (by decide)).setCell hi7 (by decide) _ _
        have KS : KeepP kS w5 (w7.setCell ⟨ib, 0, none⟩ (.slice (some ⟨g, 0, none⟩) (k + 1) cap')) := (KeepP.grown (KeepP.below hbz) hgrow7 hoz (by decide)).setCell hi7 (by decide) _ _
        have hb8 : Below w.heap.size w (w7.setCell ⟨ib, 0, none⟩ (.slice (some ⟨g, 0, none⟩) (k + 1) cap')) := ((hb5.trans (hbz.mono hs5)).grown hgrow7 (by omega) (fun q hq => (hoz.lt q hq).1)).setCell (p := ⟨ib, 0, none⟩) (by show w.heap.size ≤ ib; omega) _
        refine ⟨HR5.out.keep KR hb8, ?_, (Below.heap_setCell _ _ _ _ (by simp; omega)).trans hx7, ?_, (HN5.out.keep KS).snoc (HE5.out.keep KS), ?_⟩
        · rw [heap_setCell_same w7 ib 0 _ _ _ hi7]; rfl
        · have e1 : (css ++ [[Value.string x.name, .string x.file, .slice la ll lc, .slice ia il ic, .slice ta tl tc]]).flatten = css.flatten ++ [.string x.name, .string x.file, .slice la ll lc, .slice ia il ic, .slice ta tl tc] := by simp
          rw [e1]
          exact ownsRow_setCell_other hown7 (fun e => owns_other hown7 hi7 (by decide) e.symm) _
        · have := KR.size; omega
      clear hwz hown7 hgrow7 hat7 hoz hiz hxz hi7 hx7 hne1 hne2 hbz HO5 HE5 HN5 HI5 HX5 HR5
      go_wp2
      go_roundw
      case rel =>
        have h8 := HR8.out _ rfl
        have hnx := HNX5.out
        exact ⟨k + 1, l ++ [x], s5, some ⟨g, 0, none⟩, cap', _, by go_num, by omega, .inl (by omega), by simp [hlk], HSTEP.out, HINV5.out, fun _ => hn12', by omega, by omega, by omega, by omega, h8.1, h8.2.1, h8.2.2.1, h8.2.2.2.1, h8.2.2.2.2.1, h8.2.2.2.2.2⟩
      case measure => simp [intOf]; omega
    · have hent' : rEnts bs n n.toNat [] s2 = (l, sj) := by
        rw [hent]
        by_cases hej : sj.e = 0
        · have : (n - (k : Int)).toNat = 0 := by
            have : ¬ (k : Int) < n := fun h => hgo ⟨h, hej⟩
            omega
          rw [this]; rfl
        · exact rEnts_stop _ _ _ _ _ hej
      have hall : rAll bs = (l, rEnd bs sj) := by rw [HALL.out, hent']
      have HED := hid (rend_any (w.heap.size + 1) ba blen bcap bs nvj fvj sj wr hkj HL.out)
      obtain ⟨sE, hsE⟩ : ∃ v, rEnd bs sj = v := ⟨_, rfl⟩
      rw [hsE] at HED hall
      have hdec : decI bs = if sE.e ≠ 0 then ([], sE.e, sE.at_) else (l, 0, 0) := by unfold decI; rw [hall]
      have HDEC := hid hdec
      have hRw := hR.since
      have hRl := hR.lt
      have HOWN := hid hown
      have HENTS := hid hents
      have HKJ := hid hkj
      have HI := hid hi
      have HE0 := hid he0
      have HRW := hid hRw
      have hck : decide ((k : Int) < n) = false ∨ (decide ((k : Int) < n) = true ∧ (sj.e == 0) = false) := by
        by_cases h : (k : Int) < n
        · exact .inr ⟨by simpa using h, by simpa using fun e => hgo ⟨h, e⟩⟩
        · exact .inl (by simpa using h)
      -- what the rest of the call gives
      have HREST : Hid (∀ w9, OnlyR (w.heap.size + 1) wr w9 → w9.heap[w.heap.size + 1]? = some (.cells (rdA (.slice ba blen bcap) sE nvj fvj) 206 (0, 0)) → ∀ v, ∀ W, W = w9.setCell ⟨w.heap.size, 0, none⟩ v → W.ownsRow w.heap.size 115 5 (.slice fa k fcap) k css.flatten ∧ OwnEnts w.heap.size W css l ∧ Below w.heap.size w W) := by
        rintro w9 o9 k9 v W rfl
        have he9 := (o9.block w.heap.size (by omega) (by omega)).trans HE0.out
        have hne9 : some (w.heap.size + 1) ≠ (Value.slice fa k fcap).ownBlock := owns_other HOWN.out HKJ.out (by decide)
        have ho9 : w9.ownsRow w.heap.size 115 5 (.slice fa k fcap) k css.flatten := ownsRow_block HOWN.out (fun q hq1 hq2 => o9.block q hq2 (fun e => hne9 (by rw [hq1, e])))
        have KS : KeepP kS wr (w9.setCell ⟨w.heap.size, 0, none⟩ v) := ((KeepT.only o9 HKJ.out).toS).setCell he9 (by decide) _ _
        refine ⟨ownsRow_setCell_other ho9 (fun e => owns_other ho9 he9 (by decide) e.symm) _, HENTS.out.keep KS, ?_⟩
        exact (HRW.out.trans (o9.toBelow (B := w.heap.size) (by omega) hRl)).setCell (p := ⟨w.heap.size, 0, none⟩) (Nat.le_refl _) _
      clear hent hent' hall hdec hsE hkj hown hents hi he0 hRw hR hgo hn12 hinv
      have HCON : Hid (∀ w9, OnlyR (w.heap.size + 1) wr w9 → w9.heap[w.heap.size + 1]? = some (.cells (rdA (.slice ba blen bcap) sE nvj fvj) 206 (0, 0)) → w9.cell? ⟨w.heap.size + 1, 3, none⟩ = some (.int .i64 sE.e) ∧ w9.cell? ⟨w.heap.size + 1, 1, none⟩ = some (.int .i64 sE.at_) ∧ w9.cell? ⟨ib, 0, none⟩ = some (.slice fa k fcap) ∧ w9.cell? ⟨w.heap.size, 0, none⟩ = some (.slice none 0 0) ∧ w9.frozen? ⟨w.heap.size, 0, none⟩ = false) := by
        intro w9 o9 k9
        have he9 := (o9.block w.heap.size (by omega) (by omega)).trans HE0.out
        have hi9 := (o9.block ib hibl (by omega)).trans HI.out
        exact ⟨by simp [World.cell?, k9, rdA], by simp [World.cell?, k9, rdA], by simp [World.cell?, hi9], by simp [World.cell?, he9], by simp [World.frozen?, he9]⟩
      have HFIN : Hid (∀ w9, OnlyR (w.heap.size + 1) wr w9 → w9.heap[w.heap.size + 1]? = some (.cells (rdA (.slice ba blen bcap) sE nvj fvj) 206 (0, 0)) → ∀ W, ((sE.e ≠ 0 ∧ W = w9.setCell ⟨w.heap.size, 0, none⟩ (.slice none 0 0)) → ∃ v, Ending.returned (.tuple #[.agg #[.slice none 0 0], .int .i64 sE.e, .int .i64 sE.at_]) = .returned (.tuple #[.agg #[v], .int .i64 (decI bs).2.1, .int .i64 (decI bs).2.2]) ∧ OwnI w.heap.size W v (decI bs).1 ∧ Below w.heap.size w W) ∧ ((sE.e = 0 ∧ W = w9.setCell ⟨w.heap.size, 0, none⟩ (.slice fa k fcap)) → ∃ v, Ending.returned (.tuple #[.agg #[.slice fa k fcap], .int .i64 0, .int .i64 0]) = .returned (.tuple #[.agg #[v], .int .i64 (decI bs).2.1, .int .i64 (decI bs).2.2]) ∧ OwnI w.heap.size W v (decI bs).1 ∧ Below w.heap.size w W)) := by
        intro w9 o9 k9 W
        constructor
        · rintro ⟨he, hW⟩
          have h := HREST.out w9 o9 k9 _ W hW
          rw [HDEC.out, if_pos he]
          exact ⟨_, rfl, OwnI.nil _ _, h.2.2⟩
        · rintro ⟨he, hW⟩
          have h := HREST.out w9 o9 k9 _ W hW
          rw [HDEC.out, if_neg (by simpa using he)]
          exact ⟨_, rfl, ⟨css, by rw [hlk]; exact h.1, h.2.1⟩, h.2.2⟩
      clear HREST HENTS HOWN HKJ HI HE0 HRW
      by_cases he : sE.e = 0
      · have he' : (sE.e != 0) = false := by simpa using he
        have HH := hid he
        clear he
        rcases hck with hck | ⟨hck, hej⟩
        · go_wp2_with fail
          refine HED.out.mono ?_
          rintro e w9 ⟨rfl, o9, k9⟩
          obtain ⟨z3, z1, zi, z0, y0⟩ := HCON.out w9 o9 k9
          have HF9 := hid (HFIN.out w9 o9 k9)
          clear o9 k9
          go_wp2
          exact bodyPost_ret (v := .tuple #[.agg #[.slice fa k fcap], .int .i64 0, .int .i64 0]) (by simp [results, Tryz.results102, go_sem, z0]) rfl ((HF9.out _).2 ⟨HH.out, rfl⟩)
        · go_wp2_with fail
          refine HED.out.mono ?_
          rintro e w9 ⟨rfl, o9, k9⟩
          obtain ⟨z3, z1, zi, z0, y0⟩ := HCON.out w9 o9 k9
          have HF9 := hid (HFIN.out w9 o9 k9)
          clear o9 k9
          go_wp2
          exact bodyPost_ret (v := .tuple #[.agg #[.slice fa k fcap], .int .i64 0, .int .i64 0]) (by simp [results, Tryz.results102, go_sem, z0]) rfl ((HF9.out _).2 ⟨HH.out, rfl⟩)
      · have he' : (sE.e != 0) = true := by simpa using he
        have HH := hid he
        clear he
        rcases hck with hck | ⟨hck, hej⟩
        · go_wp2_with fail
          refine HED.out.mono ?_
          rintro e w9 ⟨rfl, o9, k9⟩
          obtain ⟨z3, z1, zi, z0, y0⟩ := HCON.out w9 o9 k9
          have HF9 := hid (HFIN.out w9 o9 k9)
          clear o9 k9
          go_wp2
          go_region
          all_goals
            go_wp2
            obtain ⟨v', h1, h2, h3⟩ := (HF9.out _).1 ⟨HH.out, rfl⟩
            exact bodyPost_ret (v := .tuple #[.agg #[.slice none 0 0], .int .i64 sE.e, .int .i64 sE.at_]) (by simp [results, Tryz.results102, go_sem, z0]) rfl ⟨v', h1, h2.below (Below.refl _ _).drew, h3.drew⟩
        · go_wp2_with fail
          refine HED.out.mono ?_
          rintro e w9 ⟨rfl, o9, k9⟩
          obtain ⟨z3, z1, zi, z0, y0⟩ := HCON.out w9 o9 k9
          have HF9 := hid (HFIN.out w9 o9 k9)
          clear o9 k9
          go_wp2
          go_region
          all_goals
            go_wp2
            obtain ⟨v', h1, h2, h3⟩ := (HF9.out _).1 ⟨HH.out, rfl⟩
            exact bodyPost_ret (v := .tuple #[.agg #[.slice none 0 0], .int .i64 sE.e, .int .i64 sE.at_]) (by simp [results, Tryz.results102, go_sem, z0]) rfl ⟨v', h1, h2.below (Below.refl _ _).drew, h3.drew⟩
end Go.Proofs.YtffnfjkjlmlonaaGreatDoor
namespace Go.Proofs.YtffnfjkjlmlonaaGreatDoor
open Go.RowKit
theorem strCells_u8s (s : ByteArray) : Lib.strCells s = u8s (byteL s) := by
  unfold u8s byteL
  rw [List.map_map]
  rfl
theorem treeOk_at (funcs : Int) (inst : List Int) : ∀ (l : List (Int × Int)) (k : Nat) (i b : Int), treeOk funcs inst l i b = true → k < l.length → withB (l.getD k (0, 0)).1 funcs = true ∧ pcB (l.getD k (0, 0)).2 (if k = 0 then b else (l.getD (k - 1) (0, 0)).2) (i + k) inst = true
  | [], k, i, b, _, h => by simp at h
  | p :: r, k, i, b, ht, hk => by
    unfold treeOk at ht
    rw [Bool.and_eq_true, Bool.and_eq_true] at ht
    cases k with
    | zero => simpa using ht.1
    | succ k =>
      have := treeOk_at funcs inst r k (i + 1) p.2 ht.2 (by simpa using hk)
      have e1 : i + ((k + 1 : Nat) : Int) = i + 1 + (k : Int) := by omega
      rw [e1]
      simp only [List.getD_cons_succ, Nat.add_sub_cancel, if_neg (Nat.succ_ne_zero k)]
      refine ⟨this.1, ?_⟩
      cases k with
      | zero => simpa using this.2
      | succ k => simpa using this.2
theorem treeOk_nn (funcs : Int) (inst : List Int) : ∀ (l : List (Int × Int)) (i b : Int), -1 ≤ b → treeOk funcs inst l i b = true → ∀ j, j < l.length → 0 ≤ (l.getD j (0, 0)).2
  | [], _, _, _, _, j, h => by simp at h
  | p :: r, i, b, hb, ht, j, hj => by
    unfold treeOk at ht
    rw [Bool.and_eq_true, Bool.and_eq_true] at ht
    have h1 := ht.1.2
    unfold pcB at h1
    rw [Bool.and_eq_true] at h1
    have h2 := (of_decide_eq_true h1.1).1
    cases j with
    | zero => simp; omega
    | succ j => simpa using treeOk_nn funcs inst r (i + 1) p.2 (by omega) ht.2 j (by simpa using hj)
end Go.Proofs.YtffnfjkjlmlonaaGreatDoor
namespace Go.Proofs.YtffnfjkjlmlonaaGreatDoor
open Go.RowKit
theorem entOk_parts {n : Int} {x : EntD} {names : List ByteArray} {room : Int} (h : entOk n x names room = true) : newB x.name names = true ∧ wordB x.file = true ∧ wfT x.lines = true ∧ wfT x.index = true ∧ linesB x.lines room = true ∧ sumS x.index = sumS x.lines ∧ (x.tree.length : Int) = mostT x.index ∧ treeOk n (unroll x.index) x.tree 1 (-1) = true := by
  unfold entOk at h
  simp only [Bool.and_eq_true] at h
  obtain ⟨⟨h1, h2⟩, ⟨⟨h3, h4⟩, h5, h6⟩, h7, h8⟩ := h
  exact ⟨h1, h2, h3, h4, h5, by simpa using h6, by simpa using h7, h8⟩
theorem wordB_size {s : ByteArray} (h : wordB s = true) : s.size ≤ 20 := by
  unfold wordB at h
  rw [Bool.and_eq_true] at h
  exact (of_decide_eq_true h.1).2
theorem RdI.at {w : World} {a : Option Addr} {len cap : Nat} {l : List EntD} (h : RdI w a len cap l) {k : Nat} {x : EntD} (hx : l[k]? = some x) : ∃ b off la lcap xa xcap ta tcap, a = some ⟨b, off, none⟩ ∧ w.cell? ⟨b, off + k * 5, none⟩ = some (.string x.name) ∧ w.cell? ⟨b, off + k * 5 + 1, none⟩ = some (.string x.file) ∧ w.cell? ⟨b, off + k * 5 + 2, none⟩ = some (.slice la x.lines.length lcap) ∧ w.cell? ⟨b, off + k * 5 + 3, none⟩ = some (.slice xa x.index.length xcap) ∧ w.cell? ⟨b, off + k * 5 + 4, none⟩ = some (.slice ta x.tree.length tcap) ∧ RdS w la x.lines.length lcap x.lines ∧ RdS w xa x.index.length xcap x.index ∧ RdS w ta x.tree.length tcap x.tree := by
  obtain ⟨b, off, cs, e, _, hc, la, lcap, xa, xcap, ta, tcap, rfl, h1, h2, h3, _⟩ := h.2.2.2 k x hx
  exact ⟨b, off, la, lcap, xa, xcap, ta, tcap, e, hc 0 _ rfl, hc 1 _ rfl, hc 2 _ rfl, hc 3 _ rfl, hc 4 _ rfl, h1, h2, h3⟩
end Go.Proofs.YtffnfjkjlmlonaaGreatDoor
namespace Go.Proofs.YtffnfjkjlmlonaaGreatDoor
open Go.RowKit
theorem wfIF_at {n : Int} : ∀ {l : List EntD} {names : List ByteArray} {room : Int} {k : Nat} {x : EntD}, wfIF n l names room = true → l[k]? = some x → ∃ names' room', entOk n x names' room' = true
  | [], _, _, _, _, _, h => by simp at h
  | y :: r, names, room, k, x, h, hx => by
    unfold wfIF at h
    rw [Bool.and_eq_true] at h
    cases k with
    | zero => simp at hx; subst hx; exact ⟨_, _, h.1⟩
    | succ k => exact wfIF_at h.2 (by simpa using hx)
/-- What is asked of an entry to write it. -/
structure EntW (x : EntD) : Prop where
  name : x.name.size ≤ 20
  file : x.file.size ≤ 20
  lines : wfT x.lines = true
  index : wfT x.index = true
  len : x.tree.length ≤ 9999
  tree : ∀ j, j < x.tree.length → 0 ≤ (x.tree.getD j (0, 0)).1 ∧ (x.tree.getD j (0, 0)).1 ≤ 2147483647 ∧ 0 ≤ (x.tree.getD j (0, 0)).2 ∧ (x.tree.getD j (0, 0)).2 ≤ 2147483647
end Go.Proofs.YtffnfjkjlmlonaaGreatDoor
