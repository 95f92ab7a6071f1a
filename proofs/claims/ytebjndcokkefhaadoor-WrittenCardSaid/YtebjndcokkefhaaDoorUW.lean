/- The contract of the statement's Written: true at whatever it is given. -/
import Derived.Test.YtebjndcokkefhaaDoorZ47
import Derived.Test.YtebjndcokkefhaaDoorZ19
import Derived.Test.YtebjndcokkefhaaDoorZ48
import Derived.Test.YtebjndcokkefhaaDoorZ48
namespace Go.Proofs.YtebjndcokkefhaaDoor
open Go.RowKit

theorem byte_of_wf {z : Int} (h : (Lit.int .u8 z).wf = true) : 0 ≤ z ∧ z ≤ 255 := by
  have h1 : IntKind.u8.min = 0 := by decide
  have h2 : IntKind.u8.max = 255 := by decide
  simp [Lit.wf] at h
  omega

set_option maxHeartbeats 8000000 in
set_option maxRecDepth 100000 in
theorem Written_any (pa : Option Addr) (pcap : Nat) (p : List FnD) (bud at_ turn : Int) (w : World) (hp : RdP w pa p.length pcap p) (hraw : RawP p) (hbud : R64 bud) (hat : R64 at_) (htu : R64 turn) (hH : HeadAt w) :
    Calls Tryd.prog 3 #[.agg #[.slice pa p.length pcap], .int .i64 bud, .int .i64 at_, .int .i64 turn] w fun e w' => e = .returned (.bool true) ∧ Below w.heap.size w w' := by
  obtain ⟨wb, hwb⟩ : ∃ v, v = w.alloc (Obj.cells #[.slice pa p.length pcap] 24) := ⟨_, rfl⟩
  have hbb : Below w.heap.size w wb := by rw [hwb]; exact (Below.refl _ _).alloc (Nat.le_refl _) _
  have hbs : wb.heap.size = w.heap.size + 1 := by rw [hwb]; simp
  have HT := hid (whole_any pa pcap p wb (hp.below hbb) hraw)
  have HBB := hid hbb
  have HH := hid hH
  generalize p.length = pl at *
  clear hp hbb hH
  go_enter Tryd.func3, Tryd.ntmps3
  go_wp2_with fail
  rw [← hwb]
  clear hwb
  refine HT.out.mono ?_
  rintro e w1 ⟨hb1, q, qa, qcap, rfl, hchk, hrd⟩
  have hs1 := hb1.size
  have hbw1 : Below w.heap.size w w1 := HBB.out.trans (hb1.mono HBB.out.size)
  clear HT
  obtain ⟨w2, hw2⟩ : ∃ v, v = w1.alloc (Obj.cells #[.slice qa q.length qcap] 24) := ⟨_, rfl⟩
  have hb2 : Below w1.heap.size w1 w2 := by rw [hw2]; exact (Below.refl _ _).alloc (Nat.le_refl _) _
  have hs2 : w2.heap.size = w1.heap.size + 1 := by rw [hw2]; simp
  have kq : w2.heap[w1.heap.size]? = some (.cells #[.slice qa q.length qcap] 24 (0, 0)) := by rw [hw2]; exact heap_new_at rfl
  have hr2 : RdP w2 qa q.length qcap q := hrd w2 (fun b _ h => hb2.block b h)
  have hbw2 : Below w.heap.size w w2 := hbw1.trans (hb2.mono hbw1.size)
  have HB := hid (built_any qa qcap q bud w2 hr2 hbud hchk (HH.out.below hbw2 (Nat.le_refl _)))
  have HCK := hid hchk
  have HR2 := hid hr2
  have HBW2 := hid hbw2
  have HKQ := hid kq
  obtain ⟨ql, hql⟩ : ∃ v, v = q.length := ⟨_, rfl⟩
  rw [← hql] at HB HR2 HKQ hw2 ⊢
  have HQL := hid hql
  clear hb1 hbw1 hb2 hr2 hbw2 kq hchk hrd hql
  go_wp2_with fail
  rw [← hw2]
  clear hw2
  refine HB.out.mono ?_
  rintro e w3 ⟨hb3, n, cs, bv, hn0, hn30, hcs, rfl, hown⟩
  clear HB
  obtain ⟨hwf, -, -⟩ := img_wf HCK.out hcs
  have HWF := hid hwf
  have hdec := decI_enc hwf
  have HSHORT := hid (fun (j : Nat) (hj : j < (encI (imgD q cs)).length) => decI_short (l := imgD q cs) hwf (j := j) hj)
  have HMORE := hid (decI_more hwf)
  have hpos := encI_pos (imgD q cs)
  obtain ⟨hby, hbl⟩ := encI_ok hwf
  have HDES := hid (fun (ia : Option Addr) (icap : Nat) (W : World) (hi : RdI W ia (imgD q cs).length icap (imgD q cs)) (hW : Below w2.heap.size w2 W) => described_any ia icap qa qcap q n cs W hi (by rw [← HQL.out]; exact HR2.out.below hW) HCK.out hcs ⟨hn0, hn30⟩)
  have HENC := hid (fun (ia : Option Addr) (icap : Nat) (W : World) (hi : RdI W ia (imgD q cs).length icap (imgD q cs)) (hW : Below w.heap.size w W) => uEncode_wf ia (imgD q cs).length icap (imgD q cs) W hi hwf (HH.out.below hW (Nat.le_refl _)))
  obtain ⟨bs, hbs'⟩ : ∃ v, v = encI (imgD q cs) := ⟨_, rfl⟩
  rw [← hbs'] at hown hdec HSHORT HMORE hpos hby hbl HENC
  obtain ⟨N, hN⟩ : ∃ v, v = bs.length := ⟨_, rfl⟩
  rw [← hN] at hown hpos hbl HENC
  obtain ⟨ba, bcap, rfl, hrb⟩ := rd_of_owns8 hown hN.symm
  obtain ⟨bb, boff, rfl, hbc⟩ := hrb.open (by omega)
  have hbx : ∀ j, 0 ≤ bs.getD j 0 ∧ bs.getD j 0 ≤ 255 := getD_of_mem bs hby
  have hbbl : bb < w3.heap.size := World.block_lt_of_cell? w3 _ (hbc 0 (by omega))
  have hs3 := hb3.size
  have hbw3 : Below w.heap.size w w3 := HBW2.out.trans (hb3.mono HBW2.out.size)
  have HD1 := hid (uDecode_any (some ⟨bb, boff, none⟩) N bcap bs w3 hrb (fun q hq => by cases hq; exact hbbl) hbx (HH.out.below hbw3 (Nat.le_refl _)))
  rw [hdec] at HD1
  have hcap1 := hrb.hcap
  have hcap2 := hrb.hmax
  unfold maxLen at hcap2
  have HRB := hid hrb
  have HBX := hid hbx
  have HBC := hid hbc
  have HBW3 := hid hbw3
  have HB3 := hid hb3
  have HN := hid hN
  have hN0 : (0 : Int) < (N : Int) := by omega
  have hN1 : decide ((N : Int) = 0) = false := by simp; omega
  have HKQ3 := hid ((hb3.block w1.heap.size (by omega)).trans HKQ.out)
  generalize imgD q cs = L at *
  clear hdec hown hrb hbc hbx hby hbs' hN hwf hb3 hbw3 hcs
  go_wp2_with fail
  refine HD1.out.mono ?_
  rintro e w4 ⟨v, rfl, hownI, hb4⟩
  obtain ⟨va, vc, rfl, hri⟩ := hownI.rd
  dsimp only at hri ⊢
  have hs4 := hb4.size
  obtain ⟨w5, hw5⟩ : ∃ v, v = w4.alloc (Obj.cells #[.slice va L.length vc] 31) := ⟨_, rfl⟩
  have hb5 : Below w4.heap.size w4 w5 := by rw [hw5]; exact (Below.refl _ _).alloc (Nat.le_refl _) _
  have hs5 : w5.heap.size = w4.heap.size + 1 := by rw [hw5]; simp
  have ki5 : w5.heap[w4.heap.size]? = some (.cells #[.slice va L.length vc] 31 (0, 0)) := by rw [hw5]; exact heap_new_at rfl
  have hb35 : Below w3.heap.size w3 w5 := hb4.trans (hb5.mono hs4)
  have hbw5 : Below w.heap.size w w5 := HBW3.out.trans (hb35.mono HBW3.out.size)
  have hri5 := hri.below hb5
  have HE5 := hid (HENC.out va vc w5 hri5 hbw5)
  have HRI5 := hid hri5
  have HB35 := hid hb35
  have HBW5 := hid hbw5
  have HKI5 := hid ki5
  clear hri hri5 hb35 hbw5 ki5 hb5 hb4 hownI HD1 HENC
  go_wp2_with fail
  rw [← hw5]
  clear hw5
  refine HE5.out.mono ?_
  rintro e w6 ⟨cv, rfl, hownC, hb6⟩
  have hs6 := hb6.size
  obtain ⟨ca, cc, rfl, hrc⟩ := rd_of_owns8 hownC HN.out.symm
  have hb36 : Below w3.heap.size w3 w6 := HB35.out.trans (hb6.mono HB35.out.size)
  have hri6 := HRI5.out.below hb6
  have hb26 : Below w2.heap.size w2 w6 := HB3.out.trans (hb36.mono hs3)
  have HD6 := hid (HDES.out va vc w6 hri6 hb26)
  rw [← HQL.out] at HD6
  have ki6 := (hb6.block w4.heap.size (by omega)).trans HKI5.out
  have kq6 := (hb36.block w1.heap.size (by omega)).trans HKQ3.out
  have x0 : w6.cell? ⟨w4.heap.size, 0, none⟩ = some (.slice va L.length vc) := by simp [World.cell?, ki6]
  have x1 : w6.cell? ⟨w1.heap.size, 0, none⟩ = some (.slice qa ql qcap) := by simp [World.cell?, kq6]
  have HB36 := hid hb36
  have HRC := hid hrc
  have hbw6 : Below w.heap.size w w6 := HBW3.out.trans (hb36.mono HBW3.out.size)
  have HBW6 := hid hbw6
  clear hownC hb6 hb36 hri6 hb26 HDES HE5 HRI5 hrc hbw6 ki6 kq6
  go_wp2_with fail
  refine HD6.out.mono ?_
  rintro e w7 ⟨rfl, hb7⟩
  have hs7 := hb7.size
  clear x0 x1 HD6
  have hb37 : Below w3.heap.size w3 w7 := HB36.out.trans (hb7.mono HB36.out.size)
  obtain ⟨cb, coff, rfl, hcc⟩ := HRC.out.open (by omega)
  have hcw : ∀ i, i < N → w7.cell? ⟨bb, boff + i, none⟩ = some (.int .u8 (bs.getD i 0)) := fun i hi => (hb37.cell (p := ⟨bb, boff + i, none⟩) (World.block_lt_of_cell? w3 _ (HBC.out i hi))).trans (HBC.out i hi)
  have hcw2 : ∀ i, i < N → w7.cell? ⟨cb, coff + i, none⟩ = some (.int .u8 (bs.getD i 0)) := fun i hi => (hb7.cell (p := ⟨cb, coff + i, none⟩) (World.block_lt_of_cell? w6 _ (hcc i hi))).trans (hcc i hi)
  have v1 := run_convert_bytes_arg (P := Tryd.prog) w7 26 5 Tryd.underlying26 Tryd.underlying5 bb boff N bcap bs HN.out.symm hcw 9 Tryd.underlying9
  have v2 := run_convert_bytes_arg (P := Tryd.prog) w7 26 5 Tryd.underlying26 Tryd.underlying5 cb coff N cc bs HN.out.symm hcw2 9 Tryd.underlying9
  have HPK := hid (pick_any at_ N w7 hat.1 hat.2 (by omega) (by omega))
  have hpk := pickI_lt at_ (n := N) (by omega)
  generalize pickI at_ N = kk at *
  obtain ⟨k, rfl⟩ : ∃ v : Nat, kk = (v : Int) := ⟨kk.toNat, by omega⟩
  have hkN : k < N := by omega
  have HCW := hid hcw
  have HB37 := hid hb37
  have HBW7 := hid (HBW3.out.trans (hb37.mono HBW3.out.size))
  clear hcw hcw2 hcc hb7 hb37
  go_wp2_with fail
  clear v1 v2
  refine HPK.out.mono ?_
  rintro e w' ⟨rfl, he⟩
  rw [he]
  clear he w'
  have hrk : Rd .u8 w7 (some ⟨bb, boff, none⟩) k bcap (bs.take k) := ⟨by rw [List.length_take, ← HN.out]; omega, by omega, by unfold maxLen; omega, fun i hi => ⟨bb, boff, rfl, by
    rw [HCW.out i (by omega)]
    simp [List.getD, hi]⟩⟩
  have hxk : ∀ j, 0 ≤ (bs.take k).getD j 0 ∧ (bs.take k).getD j 0 ≤ 255 := fun j => by
    by_cases hj : j < k
    · have := HBX.out j
      simpa [List.getD, hj] using this
    · have : (bs.take k)[j]? = none := List.getElem?_eq_none (by rw [List.length_take]; omega)
      simp [List.getD, this]
  have hbb7 : bb < w7.heap.size := World.block_lt_of_cell? w7 _ (HCW.out 0 (by omega))
  have HD2 := hid (uDecode_any (some ⟨bb, boff, none⟩) k bcap (bs.take k) w7 hrk (fun q hq => by cases hq; exact hbb7) hxk (HH.out.below HBW7.out (Nat.le_refl _)))
  rw [HSHORT.out k (by rw [← HN.out]; exact hkN)] at HD2
  generalize (decI (bs.take k)).2.2 = e2 at HD2
  generalize (decI (bs.take k)).1 = D2 at HD2
  clear hrk hxk HPK
  go_wp2_with fail
  refine HD2.out.mono ?_
  rintro e w8 ⟨v8, rfl, hown8, hb8⟩
  obtain ⟨a8, c8, rfl, -⟩ := hown8.rd
  have hs8 := hb8.size
  clear HD2
  obtain ⟨wX, hwX⟩ : ∃ v, v = w8.alloc (Obj.cells #[.slice a8 D2.length c8] 31) := ⟨_, rfl⟩
  have hbX : Below w7.heap.size w7 wX := by rw [hwX]; exact hb8.alloc hs8 _
  have hnews : ∀ j u, (u8s bs)[j]? = some u → wX.cell? ((⟨bb, boff, none⟩ : Addr).add j) = some u := by
    intro j u hu
    have hj : j < N := by have := (List.getElem?_eq_some_iff.1 hu).1; simp [u8s] at this; rw [HN.out]; exact this
    have hc := HCW.out j hj
    rw [add_none, (hbX.cell (p := ⟨bb, boff + j, none⟩) (World.block_lt_of_cell? w7 _ hc)), hc, ← hu]
    have hj' : j < bs.length := by rw [← HN.out]; exact hj
    simp [u8s, List.getD, hj']
  rw [hwX] at hnews
  have HNW := hid hnews
  have HBX7 := hid hbX
  have HWX := hid hwX
  obtain ⟨i0, hi, hz0, hz1, hz2⟩ := info_parts Tryd.infoByte
  have hu8l : (u8s bs).length = N * 1 := by simp [u8s, HN.out]
  have HU8L := hid hu8l
  clear hnews hbX hwX hb8 hown8 hu8l
  go_wp2_with (at_builtin; refine wpList_append_own _ rfl (.tmp 91) (.tmp 92) 26 rfl w8.heap.size 5 i0 (.int .u8 0) 1 1 Tryd.underlying26 hi hz0 hz1 hz2 rfl (by decide) _ _ _ rfl (World.ownsRow_nil _ _ _ _) ⟨bb, boff, none⟩ N bcap (u8s bs) rfl HU8L.out HNW.out (u8s_one _) (by unfold maxLen; omega) (by omega) (by simp) ?_)
  intro v9 w9 hown9 hgrow9 _
  have hbX9 := HBX7.out
  rw [HWX.out] at hbX9
  have hb9 : Below w7.heap.size w7 w9 := hbX9.grown hgrow9 (by simp; omega) (fun b hb => by simp [Value.ownBlock] at hb)
  have hs9 := hb9.size
  have hs89 : w8.heap.size ≤ w9.heap.size := by have := hgrow9.size; simp at this; omega
  obtain ⟨g9, c9, rfl⟩ : ∃ g c, v9 = .slice (some ⟨g, 0, none⟩) N c := by
    rcases hown9.2 with ⟨h1, h2⟩ | ⟨g, c', cur, h1, _⟩
    · omega
    · exact ⟨_, _, h1⟩
  have HO9 := hid hown9
  have HB9 := hid hb9
  clear hown9 hgrow9 hb9 hbX9 HNW
  go_wp2_with (at_builtin; refine wpList_append_own _ rfl (.tmp 94) (.tmp 97) 26 rfl w8.heap.size 5 i0 (.int .u8 0) 1 1 Tryd.underlying26 hi hz0 hz1 hz2 rfl (by decide) _ _ _ rfl (HO9.out.alloc _) ⟨w9.heap.size, 0, none⟩ 1 1 [_] rfl rfl (new1_at rfl _ _) (fun u hu => by rw [List.mem_singleton.1 hu]; rfl) (by unfold maxLen; omega) (by omega) (by simp; omega) ?_)
  intro v10 w10 hown10 hgrow10 _
  have hb10 : Below w7.heap.size w7 w10 := (HB9.out.alloc hs9 _).grown hgrow10 (by simp; omega) (fun b hb => Nat.le_trans hs8 (HO9.out.lt b hb).1)
  have hs10 := hb10.size
  have hown10' : w10.ownsRow w8.heap.size 5 1 v10 (N + 1) (u8s (bs ++ [turn % 256])) := by rw [u8s_snoc]; exact hown10
  obtain ⟨g10, c10, rfl⟩ : ∃ g c, v10 = .slice (some ⟨g, 0, none⟩) (N + 1) c := by
    rcases hown10.2 with ⟨h1, h2⟩ | ⟨g, c', cur, h1, _⟩
    · omega
    · exact ⟨_, _, h1⟩
  obtain ⟨ra, rc, er, hr10⟩ := rd_of_owns8 hown10' (by rw [List.length_append, ← HN.out]; rfl)
  cases er
  have hg10 := (hown10.lt g10 rfl)
  have hx10 : ∀ j, 0 ≤ (bs ++ [turn % 256]).getD j 0 ∧ (bs ++ [turn % 256]).getD j 0 ≤ 255 := getD_of_mem _ (fun x hx => by
    rcases List.mem_append.1 hx with h | h
    · obtain ⟨j, hj, rfl⟩ := List.getElem_of_mem h
      have := HBX.out j
      simpa [List.getD, hj] using this
    · rw [List.mem_singleton.1 h]; omega)
  have hbw10 : Below w.heap.size w w10 := HBW7.out.trans (hb10.mono HBW7.out.size)
  have HD3 := hid (uDecode_any (some ⟨g10, 0, none⟩) (N + 1) c10 (bs ++ [turn % 256]) w10 hr10 (fun q hq => by cases hq; exact hg10.2) hx10 (HH.out.below hbw10 (Nat.le_refl _)))
  rw [HMORE.out, ← HN.out] at HD3
  have hcm := hr10.hcap
  have hcm2 := hr10.hmax
  unfold maxLen at hcm2
  have HO10 := hid hown10'
  have HB10 := hid hb10
  have HBW10 := hid hbw10
  have HX10 := hid hx10
  clear hown10 hown10' hgrow10 hb10 hr10 hx10 hbw10 HO9 HB9
  go_wp2_with fail
  refine HD3.out.mono ?_
  rintro e w11 ⟨v11, rfl, hown11, hb11⟩
  obtain ⟨a11, c11, rfl, -⟩ := hown11.rd
  have hs11 := hb11.size
  have HO11 := hid (ownsRow_below HO10.out hb11)
  have HBW11 := hid (HBW10.out.trans (hb11.mono HBW10.out.size))
  have HPT := hid (fun W => pick_any turn 255 W htu.1 htu.2 (by omega) (by omega))
  have hpt := pickI_lt turn (n := 255) (by omega)
  generalize pickI turn 255 = t9 at *
  clear hown11 hb11 HD3
  go_wp2_with fail
  obtain ⟨w12, hw12⟩ : ∃ v, v = w11.alloc (Obj.cells #[.slice a11 0 c11] 31) := ⟨_, rfl⟩
  have HO12 := hid (HO11.out.alloc (Obj.cells #[.slice a11 0 c11] 31))
  rw [← hw12] at HO12
  have HBW12 : Hid (Below w.heap.size w w12) := hid (by rw [hw12]; exact HBW11.out.alloc HBW11.out.size _)
  have hs12 : w12.heap.size = w11.heap.size + 1 := by rw [hw12]; simp
  rw [← hw12]
  clear hw12
  have ck : w12.cell? ⟨g10, k, none⟩ = some (.int .u8 (bs.getD k 0)) := by
    have h := HO12.out.cellAt k (by omega)
    have hk' : k < bs.length := by rw [← HN.out]; exact hkN
    rw [h, u8s_snoc, List.getElem?_append_left (by rw [u8s_len]; exact hk')]
    simp [u8s, List.getD, hk']
  have fk : w12.frozen? ⟨g10, k, none⟩ = false := by
    rcases HO12.out.2 with ⟨h1, _⟩ | ⟨g, cap, cur, h1, h2, h3, _⟩
    · cases h1
    · cases h1; simp [World.frozen?, h3]
  have hbk := HBX.out k
  obtain ⟨bk, hbke⟩ : ∃ v, v = bs.getD k 0 := ⟨_, rfl⟩
  rw [← hbke] at ck hbk
  have HBK := hid hbke
  clear hbke
  go_region_with (go_at_call 12; refine (HPT.out _).mono ?_; rintro e w' ⟨rfl, he⟩; rw [he]; clear he w')
  all_goals
    have hzw := wf_bits BinOp.xor IntKind.u8 bk (IntKind.u8.wrap (IntKind.i64.wrap (1 + t9)))
    generalize bits BinOp.xor IntKind.u8 bk (IntKind.u8.wrap (IntKind.i64.wrap (1 + t9))) = z at *
    have hzb : 0 ≤ z ∧ z ≤ 255 := byte_of_wf hzw
    obtain ⟨w13, hw13⟩ : ∃ v, v = (w12.setCell ⟨g10, k, none⟩ (.int .u8 z)).drew := ⟨_, rfl⟩
    have hwg : w.heap.size ≤ g10 := Nat.le_trans (Nat.le_trans HBW7.out.size hs8) hg10.1
    have hbw13 : Below w.heap.size w w13 := by rw [hw13]; exact (HBW12.out.setCell (p := ⟨g10, k, none⟩) hwg _).drew
    have ho13 : w13.ownsRow w8.heap.size 5 1 (.slice (some ⟨g10, 0, none⟩) (N + 1) c10) (N + 1) ((u8s (bs ++ [turn % 256])).set k (.int .u8 z)) := by rw [hw13]; exact ((HO12.out.stored k (.int .u8 z)).1).drew
    have hr13 : Rd .u8 w13 (some ⟨g10, 0, none⟩) N c10 (bs.set k z) := ⟨by rw [List.length_set]; exact HN.out.symm, by omega, by unfold maxLen; omega, fun i hi => ⟨g10, 0, rfl, by
      have hil : i < bs.length := by rw [← HN.out]; exact hi
      rw [Nat.zero_add, ho13.cellAt i (by omega)]
      by_cases hik : k = i
      · subst hik
        rw [List.getElem?_set_self (by rw [u8s_len, List.length_append]; omega)]
        simp [List.getD, hil]
      · rw [List.getElem?_set_ne hik, u8s_snoc, List.getElem?_append_left (by rw [u8s_len]; exact hil)]
        simp [u8s, List.getD, hil, hik]⟩⟩
    have hx13 : ∀ j, 0 ≤ (bs.set k z).getD j 0 ∧ (bs.set k z).getD j 0 ≤ 255 := getD_of_mem _ (fun x hx => by
      rcases List.mem_or_eq_of_mem_set hx with h | h
      · obtain ⟨j, hj, rfl⟩ := List.getElem_of_mem h
        have := HBX.out j
        simpa [List.getD, hj] using this
      · rw [h]; exact hzb)
    have HCN := hid (canon_any (some ⟨g10, 0, none⟩) N c10 (bs.set k z) w13 hr13 (fun q hq => by cases hq; exact (ho13.lt g10 rfl).2) hx13 (HH.out.below hbw13 (Nat.le_refl _)))
    have HBW13 := hid hbw13
    rw [← hw13]
    clear hw13 hr13 hx13 ho13 hbw13 ck fk
    go_wp2_with fail
    refine HCN.out.mono ?_
    rintro e w14 ⟨rfl, hb14⟩
    have HF := hid (HBW13.out.trans (hb14.mono HBW13.out.size))
    clear hb14
    go_wp2
    go_ret
    exact ⟨rfl, HF.out⟩
end Go.Proofs.YtebjndcokkefhaaDoor
