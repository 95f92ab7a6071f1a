/- The contract of the developers' reader's method entry: an entry as the plain reader takes it, its lists in rows of the call's own. -/
import Derived.Test.YtffnfjkjlmlonaaGreatDoorZB9
namespace Go.Proofs.YtffnfjkjlmlonaaGreatDoor
open Go.RowKit
structure KeptK (P : Prop) : Prop where
  out : P
/-- One goal for all orders of a region. -/
theorem cutK {P G : Prop} (h : P) (k : KeptK P → G) : G := k ⟨h⟩
/-- The names grow by one. -/
theorem RdrAt.named {w0 : World} {b : Value} {rb : Nat} {w w5 : World} {s : RsD} {nv fv : Value} {g cap : Nat} {str : ByteArray} {o : Obj} (hk : w.heap[rb]? = some (.cells (rdA b s nv fv) 206 (0, 0))) (h1 : Below w0.heap.size w0 w) (h2 : w0.heap.size ≤ rb) (h3 : w.ownsRow w0.heap.size 9 1 nv s.names.length (strs s.names)) (h4 : w.ownsRow w0.heap.size 9 1 fv s.files.length (strs s.files))
    (h5 : ∀ k, nv.ownBlock = some k → fv.ownBlock ≠ some k) (h6 : ∀ x ∈ s.names, x.size ≤ 20) (h7 : ∀ x ∈ s.files, x.size ≤ 20) (hsz : str.size ≤ 20) (hown5 : w5.ownsRow w0.heap.size 9 1 (.slice (some ⟨g, 0, none⟩) (s.names.length + 1) cap) (s.names.length + 1) (strs s.names ++ [.string str])) (hgrow5 : (w.alloc o).grownBy w5 nv.ownBlock) (hat5 : nv.ownBlock = some g ∨ g = w.heap.size + 1) :
    RdrAt w0 b rb (w5.setCell ⟨rb, 4, none⟩ (.slice (some ⟨g, 0, none⟩) (s.names.length + 1) cap)) { s with names := s.names ++ [str] } ∧ KeepT w (w5.setCell ⟨rb, 4, none⟩ (.slice (some ⟨g, 0, none⟩) (s.names.length + 1) cap)) := by
  have hlt := OnlyR.lt hk
  have hner : nv.ownBlock ≠ some rb := owns_ne h3 hk
  have hfer : fv.ownBlock ≠ some rb := owns_ne h4 hk
  have k5 : w5.heap[rb]? = _ := (hgrow5.block rb (by simp; omega) (fun e => hner e.symm)).trans ((heap_alloc_old _ _ hlt).trans hk)
  have hgne : g ≠ rb := by
    rcases hat5 with h | h
    · intro e; subst e; exact hner h
    · intro e; omega
  have hs0 := h1.size
  have hb5 : Below w0.heap.size w0 w5 := (h1.alloc (by omega) _).grown hgrow5 (by simp; omega) (fun k hk => (h3.lt k hk).1)
  refine ⟨⟨.slice (some ⟨g, 0, none⟩) (s.names.length + 1) cap, fv, ?_, hb5.setCell (p := ⟨rb, 4, none⟩) h2 _, h2, ?_, ?_, ?_, ?_, h7⟩, (KeepT.grown ((KeepT.refl w).alloc o) hgrow5 (h3.alloc _) (by decide)).setCell k5 4 _⟩
  · rw [heap_setCell_same w5 rb 4 _ _ _ k5]; rfl
  · simp only
    have e1 : (s.names ++ [str]).length = s.names.length + 1 := by simp
    have e2 : strs (s.names ++ [str]) = strs s.names ++ [.string str] := by simp [strs]
    rw [e1, e2]
    exact ownsRow_setCell_other hown5 (by simp [Value.ownBlock]; exact hgne) _
  · refine ownsRow_setCell_other (ownsRow_block h4 (fun k hk1 hk2 => ?_)) hfer _
    exact (hgrow5.block k (by simp; omega) (fun e => h5 k e.symm hk1)).trans (heap_alloc_old _ _ hk2)
  · intro k hk1 hk2
    have hkg : k = g := by simp [Value.ownBlock] at hk1; exact hk1.symm
    subst hkg
    rcases hat5 with h | h
    · exact h5 k h hk2
    · have := (h4.lt k hk2).2
      omega
  · simp only
    intro x hxm
    rcases List.mem_append.1 hxm with hm | hm
    · exact h6 x hm
    · rw [List.mem_singleton.1 hm]; exact hsz
def entV (x : EntD) (l i t : Value) : Value := .agg #[.string x.name, .string x.file, l, i, t]
set_option maxHeartbeats 4000000 in
set_option maxRecDepth 100000 in
theorem rentry_any (w0 : World) (ba : Option Addr) (blen bcap : Nat) (bs : List Int) (rb : Nat) (s : RsD) (funcs : Int) (w : World) (hR : RdrAt w0 (.slice ba blen bcap) rb w s) (hb0 : Rd .u8 w0 ba blen bcap bs) (hne : ∀ q, ba = some q → q.block < w0.heap.size) (hx : ∀ j, 0 ≤ bs.getD j 0 ∧ bs.getD j 0 ≤ 255) (hi : InvR bs s) (hfl : s.files.length ≤ 50) (hnl : s.names.length ≤ 50) (hr0 : -100000 ≤ s.room) (hr1 : s.room ≤ 1000) :
    Calls Tryz.prog 160 #[.pointer (some ⟨rb, 0, none⟩), .int .i64 funcs] w fun e w' => ∃ lv iv tv, e = .returned (entV (rEntry bs s funcs).1 lv iv tv) ∧ RdrAt w0 (.slice ba blen bcap) rb w' (rEntry bs s funcs).2 ∧ KeepT w w' ∧
      w'.ownsRow w.heap.size 109 2 lv (rEntry bs s funcs).1.lines.length (flat (rEntry bs s funcs).1.lines) ∧ w'.ownsRow w.heap.size 109 2 iv (rEntry bs s funcs).1.index.length (flat (rEntry bs s funcs).1.index) ∧ w'.ownsRow w.heap.size 112 2 tv (rEntry bs s funcs).1.tree.length (flat (rEntry bs s funcs).1.tree) ∧
      (rEntry bs s funcs).1.name.size ≤ 20 ∧ (rEntry bs s funcs).1.file.size ≤ 20 := by
  have hlt := hR.lt
  have hrb := hR.rb
  have hner : ∀ q, ba = some q → q.block ≠ rb := fun q hq => by have := hne q hq; omega
  -- the plain reader, step by step
  have HE : Hid (rEntry bs s funcs = (⟨(rText bs s s.names).1, (rFile bs (entA bs s)).1, (entC bs s).1, (entE bs s).1, (rTree bs (entF bs s) (entE bs s).1 funcs).1⟩, (rTree bs (entF bs s) (entE bs s).1 funcs).2)) := rfl
  have hiA : InvR bs (entA bs s) := by have := rText_inv hx hi s.names; exact ⟨this.1, this.2.1, this.2.2⟩
  have hiB : InvR bs (entB bs s) := rFile_inv hx hiA
  have hiD : InvR bs (entD bs s) := by have := rTake_inv (rTab_inv hx hiB) (linesB (entC bs s).1 (entB bs s).room); exact ⟨this.1, this.2.1, this.2.2⟩
  have hiF : InvR bs (entF bs s) := rTake_inv (rTab_inv hx hiD) _
  have hwC : wfS (entC bs s).1 (-1) 1000 = true := wfS_of_getT bs hx _
  have hwE : wfS (entE bs s).1 (-1) 1000 = true := wfS_of_getT bs hx _
  have hAf : (entA bs s).files = s.files := (rText_nf bs s s.names).2.1
  have hroomB : (entB bs s).room = s.room := by
    unfold entB rFile
    split
    · rw [(rTake_nf _ _).2.2, (rNum_nf _ _).2.2]; exact (rText_nf bs s s.names).2.2
    · simp only
      rw [(rText_nf _ _ _).2.2, (rTake_nf _ _).2.2, (rNum_nf _ _).2.2]; exact (rText_nf bs s s.names).2.2
  have hsumC := unroll_all_len hwC
  have hsumC0 : 0 ≤ sumS (entC bs s).1 := by omega
  have hszn := rText_size bs s s.names
  obtain ⟨nv, fv, hk, h1, h2, h3, h4, h5, h6, h7⟩ := hR
  obtain ⟨na, ncap, hnve, hnt, hnq⟩ := rdT_of_owns h3 rfl h6
  have hnn : ∀ q, na = some q → q.block ≠ rb := fun q hq e => owns_ne h3 hk (by rw [← e]; exact hnq q hq)
  subst hnve
  obtain ⟨wA, hwA⟩ : ∃ wA, wA = w.alloc (Obj.cells #[.string ⟨#[]⟩, .string ⟨#[]⟩, .slice none 0 0, .slice none 0 0, .slice none 0 0] 115) := ⟨_, rfl⟩
  have hbA : Below w.heap.size w wA := by rw [hwA]; exact (Below.refl _ _).alloc (Nat.le_refl _) _
  have hsA : wA.heap.size = w.heap.size + 1 := by rw [hwA]; simp
  have heA : wA.heap[w.heap.size]? = some (.cells #[.string ⟨#[]⟩, .string ⟨#[]⟩, .slice none 0 0, .slice none 0 0, .slice none 0 0] 115 (0, 0)) := by rw [hwA]; exact heap_alloc_new _ _
  have hkA : wA.heap[rb]? = some (.cells (rdA (.slice ba blen bcap) s (.slice na s.names.length ncap) fv) 206 (0, 0)) := (hbA.block rb hlt).trans hk
  have q4 : w.cell? ⟨rb, 4, none⟩ = some (.slice na s.names.length ncap) := by simp [World.cell?, hk, rdA]
  have HTX := hid (rtext_any rb ba blen bcap bs (.slice na s.names.length ncap) fv s na s.names.length ncap s.names wA hkA ((hb0.below h1 (Nat.le_refl _)).below hbA (Nat.le_refl _)) hner hx hi (hnt.below hbA) hnn)
  obtain ⟨nm, hnm⟩ : ∃ v, v = (rText bs s s.names).1 := ⟨_, rfl⟩
  obtain ⟨sx, hsx⟩ : ∃ v, v = (rText bs s s.names).2 := ⟨_, rfl⟩
  have hsxn : sx.names = s.names := by rw [hsx]; exact (rText_nf _ _ _).1
  have hsxf : sx.files = s.files := by rw [hsx]; exact (rText_nf _ _ _).2.1
  have hA : entA bs s = { sx with names := sx.names ++ [nm] } := by unfold entA; rw [hsxn, hsx, hnm]
  rw [← hnm, ← hsx] at HTX
  rw [← hnm] at hszn HE
  have hnl' : s.names.length = sx.names.length := by rw [hsxn]
  rw [hnl'] at HTX q4 hkA hk h3 hnt hnl h5
  have HFL := hid (fun (W : World) (h : RdrAt w0 (.slice ba blen bcap) rb W (entA bs s)) => rfile_any w0 ba blen bcap bs rb (entA bs s) W h hb0 hne hx hiA (by rw [hAf]; omega))
  obtain ⟨fl, hflv⟩ : ∃ v, v = (rFile bs (entA bs s)).1 := ⟨_, rfl⟩
  have hBv : (rFile bs (entA bs s)).2 = entB bs s := rfl
  rw [← hflv, hBv] at HFL
  rw [← hflv] at HE
  have HTC := hid (fun (W : World) (h : RdrAt w0 (.slice ba blen bcap) rb W (entB bs s)) => rtable_at w0 ba blen bcap bs rb (entB bs s) W h hb0 hx)
  have hCv : rTab bs (entB bs s) = entC bs s := rfl
  rw [hCv] at HTC
  have hDv : entD bs s = { rTake (entC bs s).2 (linesB (entC bs s).1 (entB bs s).room) with room := (entB bs s).room - sumS (entC bs s).1 } := rfl
  have hCroom : (entC bs s).2.room = (entB bs s).room := (rTab_nf bs _).2.2
  have HTE := hid (fun (W : World) (h : RdrAt w0 (.slice ba blen bcap) rb W (entD bs s)) => rtable_at w0 ba blen bcap bs rb (entD bs s) W h hb0 hx)
  have hEv : rTab bs (entD bs s) = entE bs s := rfl
  rw [hEv] at HTE
  have hFv : rTake (entE bs s).2 (sumS (entE bs s).1 == sumS (entC bs s).1) = entF bs s := rfl
  have HTR := hid (fun (W : World) (h : RdrAt w0 (.slice ba blen bcap) rb W (entF bs s)) xa xlen xcap (hr : RdS W xa xlen xcap (entE bs s).1) => rtree_at w0 ba blen bcap bs rb (entF bs s) W h hb0 hne hx hiF xa xlen xcap (entE bs s).1 funcs hr hwE)
  obtain ⟨tr, htr⟩ : ∃ v, v = (rTree bs (entF bs s) (entE bs s).1 funcs).1 := ⟨_, rfl⟩
  obtain ⟨sT, hsT⟩ : ∃ v, v = (rTree bs (entF bs s) (entE bs s).1 funcs).2 := ⟨_, rfl⟩
  rw [← htr, ← hsT] at HTR HE
  obtain ⟨sF, hsF⟩ : ∃ v, v = entF bs s := ⟨_, rfl⟩
  obtain ⟨sD, hsD⟩ : ∃ v, v = entD bs s := ⟨_, rfl⟩
  obtain ⟨sB, hsB⟩ : ∃ v, v = entB bs s := ⟨_, rfl⟩
  obtain ⟨sA, hsAe⟩ : ∃ v, v = entA bs s := ⟨_, rfl⟩
  obtain ⟨⟨ix, sE⟩, hE⟩ : ∃ v, entE bs s = v := ⟨_, rfl⟩
  obtain ⟨⟨ls, sC⟩, hC⟩ : ∃ v, entC bs s = v := ⟨_, rfl⟩
  rw [← hsAe] at HFL hA
  rw [← hsB] at HFL HTC hDv hroomB hCroom
  rw [hC] at HTC hDv hFv hwC hsumC hsumC0 HE hCroom
  rw [hE] at HTE hFv hwE HE HTR
  rw [← hsD] at HTE hDv
  rw [← hsF] at HTR hFv
  simp only at HTC hDv hFv hwC hsumC hsumC0 HE HTE hwE HTR hCroom
  rw [HE.out]
  simp only
  rw [hroomB] at hCroom hDv
  have HCR := hid hCroom
  clear hroomB hCroom
  have HLM := hid (fun (W : World) a len cap (h : RdS W a len cap ls) => linesMayBe_any a len cap ls s.room W h hwC)
  have HPC := hid (fun (W : World) a len cap (h : RdS W a len cap ls) => pcs_any a len cap ls W h hwC)
  have HPI := hid (fun (W : World) a len cap (h : RdS W a len cap ix) => pcs_any a len cap ix W h hwE)
  have HK1 := hid hk
  have H1 := hid (h1.trans (hbA.mono h1.size))
  have H3 := hid h3
  have H4 := hid h4
  have HNQ := hid hnq
  have HSX := hid hsxn
  have HSF := hid hsxf
  have HKA := hid hkA
  have HBA := hid hbA
  have HEA := hid heA
  have hsizeA : w0.heap.size ≤ w.heap.size := h1.size
  obtain ⟨i0, hif, hz0, hz1, hz2⟩ := info_parts Tryz.infoString
  generalize sumS ls = pl at *
  generalize sumS ix = pi at *
  generalize linesB ls s.room = lb at *
  generalize hnn0 : sx.names.length = nn at *
  have HNN := hid hnn0
  clear hnm hsx hk h1 h3 h4 hnt hnq hkA hbA heA hflv hBv hCv hEv htr hsT hsF hsD hsB hsAe hE hC hi hiA hiB hiD hiF hsxn hsxf hnn0 hAf hnl' HE hwC hwE
  go_enter Tryz.func160, Tryz.ntmps160
  go_wp2_with fail
  rw [← hwA]
  refine HTX.out.mono ?_
  rintro e w1 ⟨rfl, o1, k1⟩
  have e1 := (o1.block w.heap.size (by omega) (by omega)).trans HEA.out
  have o1K : KeepT wA w1 := KeepT.only o1 HKA.out
  have hw1 := o1.size
  have q1 : w1.cell? ⟨rb, 4, none⟩ = some (.slice na nn ncap) := by simp [World.cell?, k1, rdA]
  have hr1' := OnlyR.lt k1
  have hbw1 : Below w0.heap.size w0 w1 := H1.out.trans (o1.toBelow hrb (by omega))
  have hnv1 : w1.ownsRow w0.heap.size 9 1 (.slice na nn ncap) sx.names.length (strs sx.names) := by
    have h0 : wA.ownsRow w0.heap.size 9 1 (.slice na nn ncap) sx.names.length (strs sx.names) := by rw [HNN.out, HSX.out]; exact owns_below H3.out HBA.out
    exact ownsRow_block h0 (fun k hk1 hk2 => o1.block k hk2 (fun e => owns_ne h0 HKA.out (e ▸ hk1)))
  have hfv1 : w1.ownsRow w0.heap.size 9 1 fv sx.files.length (strs sx.files) := by
    have h0 : wA.ownsRow w0.heap.size 9 1 fv sx.files.length (strs sx.files) := by rw [HSF.out]; exact owns_below H4.out HBA.out
    exact ownsRow_block h0 (fun k hk1 hk2 => o1.block k hk2 (fun e => owns_ne h0 HKA.out (e ▸ hk1)))
  have HNV1 := hid hnv1
  have HFV1 := hid hfv1
  have HK1' := hid k1
  have HBW1 := hid hbw1
  clear hnv1 hfv1 q4 k1 hbw1
  rw [HNN.out] at HNV1
  go_wp2_with (at_builtin; refine wpList_append_lies _ rfl (.tmp 20) (.tmp 22) 138 rfl w0.heap.size 9 i0 (.string ⟨#[]⟩) 1 16 Tryz.underlying138 hif hz0 hz1 hz2 rfl (by decide) _ _ _ rfl (HNV1.out.alloc _) ⟨w1.heap.size, 0, none⟩ 1 1 [.string nm] rfl rfl (cell_one_new _ _ _) (fun u hu => by rw [List.mem_singleton.1 hu]; rfl) (by decide) (by unfold maxLen; omega) (by omega) (by simp; omega) _ rfl ?_)
  intro g cap w5 hown5 hgrow5 hat5 hlt5
  have hM := RdrAt.named (w0 := w0) (b := .slice ba blen bcap) (rb := rb) (w := w1) (w5 := w5) (s := sx) (nv := .slice na nn ncap) (fv := fv) (g := g) (cap := cap) (str := nm) HK1'.out HBW1.out hrb (by rw [HNN.out]; exact HNV1.out) HFV1.out h5 (by rw [HSX.out]; exact h6) (by rw [HSF.out]; exact h7) hszn (by rw [HNN.out]; exact hown5) hgrow5 hat5
  rw [HNN.out, ← hA] at hM
  have hnvr : (Value.slice na nn ncap).ownBlock ≠ some rb := owns_ne HNV1.out HK1'.out
  have k5 : w5.heap[rb]? = _ := (hgrow5.block rb (by simp; omega) (fun e => hnvr e.symm)).trans ((heap_alloc_old _ _ hr1').trans HK1'.out)
  have z5 : w5.cell? ⟨rb, 4, none⟩ = some (.slice na nn ncap) := by simp [World.cell?, k5, rdA]
  have f5 : w5.frozen? ⟨rb, 4, none⟩ = false := by simp [World.frozen?, k5, rdA]
  obtain ⟨w6, hw6⟩ : ∃ w6, w6 = w5.setCell ⟨rb, 4, none⟩ (.slice (some ⟨g, 0, none⟩) (nn + 1) cap) := ⟨_, rfl⟩
  rw [← hw6] at hM
  have hR6 := hM.1
  have K6 : KeepT wA w6 := o1K.trans hM.2
  clear hM hown5 hgrow5 hat5 k5 q1 hnvr
  go_wp2_with fail
  rw [← hw6]
  clear hw6 z5 f5 hlt5
  refine (HFL.out w6 hR6).mono ?_
  rintro e w7 ⟨rfl, hR7, K7, hsf⟩
  go_wp2_with fail
  refine (HTC.out w7 hR7).mono ?_
  rintro e w8 ⟨lv, rfl, hR8, K8, hown8⟩
  obtain ⟨la, lcap, rfl, hls8⟩ := rdsOf hown8 rfl
  obtain ⟨nv8, fv8, k8⟩ := hR8.box
  have c6 : w8.cell? ⟨rb, 6, none⟩ = some (.int .i64 s.room) := by simp [World.cell?, k8, rdA, HCR.out]
  go_wp2_with fail
  refine (HLM.out w8 la _ lcap hls8).mono ?_
  rintro e w9 ⟨rfl, b9⟩
  have HT9 := hid (take_at w0 ba blen bcap rb sC w9 (hR8.below b9) lb)
  clear c6 k8
  go_wp2_with fail
  refine HT9.out.mono ?_
  rintro e w10 ⟨rfl, hR10, K10⟩
  obtain ⟨nv10, fv10, k10⟩ := hR10.box
  have c10 : w10.cell? ⟨rb, 6, none⟩ = some (.int .i64 s.room) := by simp [World.cell?, k10, rdA, (rTake_nf sC lb).2.2, HCR.out]
  have g10 : w10.frozen? ⟨rb, 6, none⟩ = false := by simp [World.frozen?, k10, rdA]
  have hlt10 := OnlyR.lt k10
  have K810 : KeepT w8 w10 := (KeepT.below b9).trans K10
  have hown10 := K810.owns hown8 (by decide)
  have hls10 : RdS w10 la ls.length lcap ls := by
    obtain ⟨a', c', e', h'⟩ := rdsOf hown10 rfl
    simp at e'
    obtain ⟨rfl, rfl⟩ := e'
    exact h'
  have HPL := hid (HPC.out w10.drew la _ lcap (hls10.below (Below.refl _ _).drew (Nat.le_refl _)))
  have hplb := hsumC.2
  have HDV := hid hDv
  have hwr : IntKind.i64.wrap (s.room - pl) = s.room - pl := by rw [IntKind.wrap_i64]; omega
  have HK10 := hid k10
  have HR10 := hid hR10
  clear k10 HLM HT9 HTC HFL HTX b9 hDv hsumC
  go_wp2
  apply cutK
  case k =>
    intro key
    go_region_with (go_at_call 200; refine HPL.out.mono ?_; rintro e w11 ⟨rfl, b11⟩; have c11 : w11.cell? ⟨rb, 6, none⟩ = some (.int .i64 s.room) := (((b11.cell (p := ⟨rb, 6, none⟩) hlt10)).trans c10); have g11 : w11.frozen? ⟨rb, 6, none⟩ = false := (((b11.frozen (p := ⟨rb, 6, none⟩) hlt10)).trans g10))
    all_goals
      have hfin : RdrAt w0 (.slice ba blen bcap) rb (w11.setCell ⟨rb, 6, none⟩ (.int .i64 (s.room - pl))) sD ∧ KeepT w10 (w11.setCell ⟨rb, 6, none⟩ (.int .i64 (s.room - pl))) := by
        have b11' : Below w10.heap.size w10 w11 := ⟨b11.os, b11.tape, b11.output, b11.size, b11.block⟩
        have k11 := (b11'.block rb hlt10).trans HK10.out
        have := (HR10.out.below b11').next (s' := sD) ((OnlyR.refl rb w11).setCell 6 (.int .i64 (s.room - pl))) (fun nv' fv' h => by
          rw [heap_setCell_same w11 rb 6 _ _ _ h, HDV.out]; rfl) (by rw [HDV.out]) (by rw [HDV.out])
        exact ⟨this.1, (KeepT.below b11').trans this.2⟩
      obtain ⟨w12, hw12⟩ : ∃ w12, w12 = w11.setCell ⟨rb, 6, none⟩ (.int .i64 (s.room - pl)) := ⟨_, rfl⟩
      rw [← hw12] at hfin ⊢
      clear hw12 c11 g11 b11
      revert hfin
      revert w12
      exact key.out
  intro w12 hfin
  obtain ⟨hR12, K12⟩ := hfin
  go_wp2_with fail
  refine (HTE.out w12 hR12).mono ?_
  rintro e w13 ⟨iv, rfl, hR13, K13, hown13⟩
  obtain ⟨ia, icap, rfl, hix13⟩ := rdsOf hown13 rfl
  go_wp2_with fail
  refine (HPI.out w13 ia _ icap hix13).mono ?_
  rintro e w14 ⟨rfl, b14⟩
  have K814 : KeepT w8 w14 := ((K810.trans K12).trans K13).trans (KeepT.below b14)
  have hls14 : RdS w14 la ls.length lcap ls := by
    obtain ⟨a', c', e', h'⟩ := rdsOf (K814.owns hown8 (by decide)) rfl
    simp at e'
    obtain ⟨rfl, rfl⟩ := e'
    exact h'
  go_wp2_with fail
  refine (HPC.out w14 la _ lcap hls14).mono ?_
  rintro e w15 ⟨rfl, b15⟩
  have HT15 := hid (take_at w0 ba blen bcap rb sE w15 ((hR13.below b14).below b15) (pi == pl))
  rw [hFv] at HT15
  go_wp2_with fail
  refine HT15.out.mono ?_
  rintro e w16 ⟨rfl, hR16, K16⟩
  have K1316 : KeepT w13 w16 := ((KeepT.below b14).trans (KeepT.below b15)).trans K16
  have hix16 : RdS w16 ia ix.length icap ix := by
    obtain ⟨a', c', e', h'⟩ := rdsOf (K1316.owns hown13 (by decide)) rfl
    simp at e'
    obtain ⟨rfl, rfl⟩ := e'
    exact h'
  go_wp2_with fail
  refine (HTR.out w16 hR16 ia _ icap hix16).mono ?_
  rintro e w17 ⟨tv, rfl, hR17, K17, hown17⟩
  have K816 : KeepT w8 w16 := (K814.trans (KeepT.below b15)).trans K16
  have K817 : KeepT w8 w17 := K816.trans K17
  have K1317 : KeepT w13 w17 := K1316.trans K17
  have KA8 : KeepT wA w8 := (K6.trans K7).trans K8
  have KA17 : KeepT wA w17 := KA8.trans K817
  have Kw17 : KeepT w w17 := (KeepT.below HBA.out).trans KA17
  have e17 := KA17.block w.heap.size _ _ _ HEA.out (by decide)
  have hlv17 := K817.owns hown8 (by decide)
  have hiv17 := K1317.owns hown13 (by decide)
  obtain ⟨ta, tcap, rfl, -, -⟩ := owns_form hown17
  have x0 : w17.cell? ⟨w.heap.size, 0, none⟩ = some (.string ⟨#[]⟩) := by simp [World.cell?, e17]
  have x1 : w17.cell? ⟨w.heap.size, 1, none⟩ = some (.string ⟨#[]⟩) := by simp [World.cell?, e17]
  have x2 : w17.cell? ⟨w.heap.size, 2, none⟩ = some (.slice none 0 0) := by simp [World.cell?, e17]
  have x3 : w17.cell? ⟨w.heap.size, 3, none⟩ = some (.slice none 0 0) := by simp [World.cell?, e17]
  have x4 : w17.cell? ⟨w.heap.size, 4, none⟩ = some (.slice none 0 0) := by simp [World.cell?, e17]
  have y0 : w17.frozen? ⟨w.heap.size, 0, none⟩ = false := by simp [World.frozen?, e17]
  have y1 : w17.frozen? ⟨w.heap.size, 1, none⟩ = false := by simp [World.frozen?, e17]
  have y2 : w17.frozen? ⟨w.heap.size, 2, none⟩ = false := by simp [World.frozen?, e17]
  have y3 : w17.frozen? ⟨w.heap.size, 3, none⟩ = false := by simp [World.frozen?, e17]
  have y4 : w17.frozen? ⟨w.heap.size, 4, none⟩ = false := by simp [World.frozen?, e17]
  have HFIN : Hid (∀ W, W = ((((w17.setCell ⟨w.heap.size, 0, none⟩ (.string nm)).setCell ⟨w.heap.size, 1, none⟩ (.string fl)).setCell ⟨w.heap.size, 2, none⟩ (.slice la ls.length lcap)).setCell ⟨w.heap.size, 3, none⟩ (.slice ia ix.length icap)).setCell ⟨w.heap.size, 4, none⟩ (.slice ta tr.length tcap) →
      RdrAt w0 (.slice ba blen bcap) rb W sT ∧ KeepT w W ∧ W.ownsRow w.heap.size 109 2 (.slice la ls.length lcap) ls.length (flat ls) ∧ W.ownsRow w.heap.size 109 2 (.slice ia ix.length icap) ix.length (flat ix) ∧ W.ownsRow w.heap.size 112 2 (.slice ta tr.length tcap) tr.length (flat tr) ∧ nm.size ≤ 20 ∧ fl.size ≤ 20) := by
    rintro W rfl
    have d1 := heap_setCell_same w17 w.heap.size 0 _ _ (.string nm) e17
    have d2 := heap_setCell_same _ w.heap.size 1 _ _ (.string fl) d1
    have d3 := heap_setCell_same _ w.heap.size 2 _ _ (.slice la ls.length lcap) d2
    have d4 := heap_setCell_same _ w.heap.size 3 _ _ (.slice ia ix.length icap) d3
    have hw8 : w.heap.size ≤ w7.heap.size := by have := K6.size; have := K7.size; omega
    have hw13 : w.heap.size ≤ w12.heap.size := by have := K8.size; have := K810.size; have := K12.size; omega
    have hw17 : w.heap.size ≤ w16.heap.size := by have := K816.size; have := K8.size; omega
    refine ⟨((((hR17.setOther e17 (by omega) _ _).setOther d1 (by omega) _ _).setOther d2 (by omega) _ _).setOther d3 (by omega) _ _).setOther d4 (by omega) _ _, ((((Kw17.setNew (Nat.le_refl _) _ _).setNew (Nat.le_refl _) _ _).setNew (Nat.le_refl _) _ _).setNew (Nat.le_refl _) _ _).setNew (Nat.le_refl _) _ _, ?_, ?_, ?_, hszn, hsf⟩
    · have hn : (Value.slice la ls.length lcap).ownBlock ≠ some w.heap.size := fun e => owns_other hlv17 e17 (by decide) e.symm
      exact owns_low7 (ownsRow_setCell_other (ownsRow_setCell_other (ownsRow_setCell_other (ownsRow_setCell_other (ownsRow_setCell_other hlv17 hn _) hn _) hn _) hn _) hn _) hw8
    · have hn : (Value.slice ia ix.length icap).ownBlock ≠ some w.heap.size := fun e => owns_other hiv17 e17 (by decide) e.symm
      exact owns_low7 (ownsRow_setCell_other (ownsRow_setCell_other (ownsRow_setCell_other (ownsRow_setCell_other (ownsRow_setCell_other hiv17 hn _) hn _) hn _) hn _) hn _) hw13
    · have hn : (Value.slice ta tr.length tcap).ownBlock ≠ some w.heap.size := fun e => owns_other hown17 e17 (by decide) e.symm
      exact owns_low7 (ownsRow_setCell_other (ownsRow_setCell_other (ownsRow_setCell_other (ownsRow_setCell_other (ownsRow_setCell_other hown17 hn _) hn _) hn _) hn _) hn _) hw17
  clear hown17 hlv17 hiv17 e17 hR17 K817 K1317 KA17 Kw17 hown8 hown13 hown10
  go_wp2
  exact bodyPost_ret (v := .agg #[.string nm, .string fl, .slice la ls.length lcap, .slice ia ix.length icap, .slice ta tr.length tcap]) (by simp [results, Tryz.results160, go_sem, x0, x1, x2, x3, x4]) rfl ⟨_, _, _, rfl, HFIN.out _ rfl⟩
end Go.Proofs.YtffnfjkjlmlonaaGreatDoor
