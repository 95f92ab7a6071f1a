/- Contracts of the reference's Laid and Codes: do the codes of a well-formed program fit? The contract of strconv.Itoa, laid at this program. The contract of table.Bytes: it gives what the plain function of this text gives, in a row of the call's own; nothing that was there is written. -/
import Derived.Test.YtffnfjkjlmlonaaGreatDoorA2
import Derived.Shelf.LaysM
import Derived.Shelf.Strconv.Itoa3
import Derived.Test.YtffnfjkjlmlonaaGreatDoorProg
import Derived.Test.YtffnfjkjlmlonaaGreatDoorZ1
namespace Go.Proofs.YtffnfjkjlmlonaaGreatDoor
open Go.RowKit

theorem lay_any (p : List FnD) (hgd : Good p) (bud : Int) (w0 : World) (pa : Option Addr) (pcap cb : Nat) (hp0 : RdP w0 pa p.length pcap p) (hcb : w0.heap.size ≤ cb) : ∀ f : Nat, LaysAt p bud f w0 pa pcap cb
  | 0 => by
    intro fn ar w v nos n ra rl rcap ya yl ycap way no hfr hfn hni
    have := freeN_cons hni (by omega) p.length (by omega)
    omega
  | f + 1 => lay_step p hgd bud f w0 pa pcap cb hp0 hcb (lay_any p hgd bud w0 pa pcap cb hp0 hcb f)

set_option maxHeartbeats 4000000 in
set_option maxRecDepth 100000 in
theorem rLaid_any (pa : Option Addr) (pcap : Nat) (p : List FnD) (bud : Int) (fn : Nat) (w : World) (hp : RdP w pa p.length pcap p) (hgd : Good p) (hfn : fn < p.length) :
    Calls Tryz.prog 170 #[.agg #[.slice pa p.length pcap], .int .i64 bud, .int .i64 fn] w fun e w' => Below w.heap.size w w' ∧ ∃ cb v nos, e = .returned (.pointer (some ⟨cb, 0, none⟩)) ∧ RcAt cb w' v nos (rlI p bud 12 fn [] (0, false)) := by
  obtain ⟨wA, hwA⟩ : ∃ v, v = w.alloc (Obj.cells #[.slice pa p.length pcap] 44) := ⟨_, rfl⟩
  have hbA : Below w.heap.size w wA := by rw [hwA]; exact (Below.refl _ _).alloc (Nat.le_refl _) _
  have hsA : wA.heap.size = w.heap.size + 1 := by rw [hwA]; simp
  obtain ⟨wB, hwB⟩ : ∃ v, v = wA.alloc (Obj.cells #[.slice none 0 0, .bool false, .int .i64 0] 225) := ⟨_, rfl⟩
  have hbB : Below wA.heap.size wA wB := by rw [hwB]; exact (Below.refl _ _).alloc (Nat.le_refl _) _
  have hsB : wB.heap.size = w.heap.size + 2 := by rw [hwB]; simp; omega
  have kB : wB.heap[w.heap.size + 1]? = some (.cells #[.slice none 0 0, .bool false, .int .i64 0] 225 (0, 0)) := by rw [hwB]; exact heap_new_at hsA
  obtain ⟨wC, hwC⟩ : ∃ v, v = wB.alloc (Obj.cells #[.int .i64 fn] 3) := ⟨_, rfl⟩
  have hbC : Below wB.heap.size wB wC := by rw [hwC]; exact (Below.refl _ _).alloc (Nat.le_refl _) _
  have kC : wC.heap[w.heap.size + 2]? = some (.cells #[.int .i64 fn] 3 (0, 0)) := by rw [hwC]; exact heap_new_at hsB
  have hbAC : Below w.heap.size w wC := (hbA.trans (hbB.mono (by omega))).trans (hbC.mono (by omega))
  have hR : RcAt (w.heap.size + 1) wC (.slice none 0 0) 0 (0, false) := ⟨(hbC.block _ (by omega)).trans kB, ⟨[], World.ownsRow_nil _ _ _ _⟩, by decide, by decide, by decide⟩
  have h12 := hgd.len.2
  have hL := lay_any p hgd bud w pa pcap (w.heap.size + 1) hp (by omega) 12 fn [] wC (.slice none 0 0) 0 0 (some ⟨w.heap.size + 2, 0, none⟩) 1 1 none 0 0 [] 0 (Nat.le_trans (freeN_le _ _) h12) hfn (by simp) hR hbAC
    ⟨rfl, Nat.le_refl _, by unfold maxLen; omega, fun i hi => ⟨w.heap.size + 2, 0, rfl, by
      have : i = 0 := by omega
      subst this
      simp [World.cell?, kC]⟩⟩
    (fun q hq => by cases hq; exact ⟨by simp, by simp [Value.ownBlock]⟩) (by omega)
    ⟨rfl, Nat.le_refl _, by unfold maxLen; omega, fun i hi => by omega⟩ (fun q hq => by cases hq) (.inl ⟨rfl, rfl, rfl⟩) (by omega)
  have HL := hid hL
  have HB := hid hbAC
  generalize rlI p bud 12 fn [] (0, false) = fin at *
  have hpc1 := hp.2.1
  have hpc2 := hp.2.2.1
  unfold maxLen at hpc2
  generalize p.length = pl at *
  have hcA : wB.cell? ⟨w.heap.size, 0, none⟩ = some (.slice pa pl pcap) := by
    have : wB.heap[w.heap.size]? = some (.cells #[.slice pa pl pcap] 44 (0, 0)) := (hbB.block _ (by omega)).trans (by rw [hwA]; exact heap_new_at rfl)
    simp [World.cell?, this]
  have hcC := (hbC.cell (p := ⟨w.heap.size, 0, none⟩) (by show w.heap.size < _; omega)).trans hcA
  clear hL hbAC hR hp hgd hbA hbB hbC kB kC hcA
  rw [hwC, hwB, hwA] at HL hcC HB
  clear hwC hwB hwA wC wB wA hsA hsB
  go_enter Tryz.func170, Tryz.ntmps170
  go_wp2_with fail
  refine HL.out.mono ?_
  rintro e w1 ⟨rfl, v', ⟨nos', hr'⟩, hk'⟩
  have HF := hid hk'.low
  have HR := hid hr'
  clear hk' hr' hcC
  go_wp2
  go_ret
  exact ⟨HB.out.trans (HF.out.mono (by omega)), _, v', nos', rfl, HR.out⟩

theorem Tryz.infoRCode : (Tryz.prog.info? 156).map (fun i => (i.zero, i.size, i.bytes)) = some (some (.pointer none), 1, 8) := by kernel_rfl

set_option maxHeartbeats 4000000 in
set_option maxRecDepth 100000 in
theorem rCodes_any (pa : Option Addr) (pcap : Nat) (p : List FnD) (bud : Int) (w : World) (hp : RdP w pa p.length pcap p) (hgd : Good p) :
    Calls Tryz.prog 114 #[.agg #[.slice pa p.length pcap], .int .i64 bud] w fun e w' => Below w.heap.size w w' ∧ ∃ v, e = .returned (.tuple #[v, .bool (codesD p bud).isSome]) := by
  rw [codesD_fits]
  obtain ⟨wA, hwA⟩ : ∃ v, v = w.alloc (Obj.cells #[.slice pa p.length pcap] 44) := ⟨_, rfl⟩
  have hbA : Below w.heap.size w wA := by rw [hwA]; exact (Below.refl _ _).alloc (Nat.le_refl _) _
  have hsA : wA.heap.size = w.heap.size + 1 := by rw [hwA]; simp
  have kA : wA.heap[w.heap.size]? = some (.cells #[.slice pa p.length pcap] 44 (0, 0)) := by rw [hwA]; exact heap_new_at rfl
  have h12 := hgd.len.2
  have HLD := hid (fun (W : World) (hW : Below w.heap.size w W) (fn : Nat) (hfn : fn < p.length) => rLaid_any pa pcap p bud fn W (hp.below hW) hgd hfn)
  have HRL := hid (fun (fn : Nat) => rlI_cnt p bud 12 fn [] 0 (by omega))
  have hpc1 := hp.2.1
  have hpc2 := hp.2.2.1
  unfold maxLen at hpc2
  have HKA := hid kA
  have HBA := hid hbA
  obtain ⟨fin, hfin⟩ : ∃ v, v = rlAll p bud p.length 0 0 := ⟨_, rfl⟩
  rw [← hfin]
  have HFIN := hid hfin
  generalize hpl : p.length = pl at *
  clear hp hgd kA hbA hfin
  go_enter Tryz.func114, Tryz.ntmps114
  go_wp2
  rw [← hwA]
  clear hwA
  obtain ⟨i0, hi, hz0, hz1, hz2⟩ := info_parts Tryz.infoRCode
  go_loopw [6, 7, 8] (fun lv av fv wr => ∃ (k all : Nat) (xs : List Value), av = .int .i64 all ∧ fv = .int .i64 k ∧ k ≤ pl ∧ all ≤ 1000 ∧ fin = rlAll p bud (pl - k) k all ∧ wr.ownsRow wA.heap.size 156 1 lv k xs ∧ Below wA.heap.size wA wr) (fun _ _ fv _ => pl - (intOf fv).toNat)
  case atStart => exact ⟨0, 0, [], rfl, rfl, by omega, by omega, HFIN.out, World.ownsRow_nil _ _ _ _, Below.refl _ _⟩
  case round =>
    clear HFIN
    obtain ⟨k, all, xs, rfl, rfl, hk, hall, hfe, hown, hbel⟩ := hrel
    have hsz := hbel.size
    have kr := (hbel.block w.heap.size (by omega)).trans HKA.out
    have p0 : wr.cell? ⟨w.heap.size, 0, none⟩ = some (.slice pa pl pcap) := by simp [World.cell?, kr]
    have ltA : w.heap.size < wr.heap.size := by omega
    have HOWN := hid hown
    have HBEL := hid hbel
    by_cases hkl : k < pl
    · have hkl' : (k : Int) < (pl : Int) := by omega
      have hbw := HBA.out.trans (hbel.mono HBA.out.size)
      have HLW := hid (HLD.out wr hbw k hkl)
      have hstep : fin = if (rlI p bud 12 k [] (0, false)).2 = true ∨ 1000 < all + (rlI p bud 12 k [] (0, false)).1 then false else rlAll p bud (pl - (k + 1)) (k + 1) (all + (rlI p bud 12 k [] (0, false)).1) := by
        rw [hfe, show pl - k = (pl - (k + 1)) + 1 by omega]
        rfl
      generalize rlI p bud 12 k [] (0, false) = rr at *
      obtain ⟨rn, rb⟩ := rr
      dsimp only at *
      have HSTEP := hid hstep
      clear hstep hfe hown hbel kr hbw
      go_wp2_with fail
      clear p0
      refine HLW.out.mono ?_
      rintro e w2 ⟨hb2, cb, v, nos, rfl, hrc⟩
      have hs2 := hb2.size
      have hbx := hrc.box
      dsimp only at hbx
      obtain ⟨la, lcap, rfl, hlc, hlm⟩ : ∃ la lcap, v = .slice la rn lcap ∧ rn ≤ lcap ∧ lcap ≤ maxLen := by
        obtain ⟨ys, hx⟩ := hrc.row
        dsimp only at hx
        rcases hx.2 with ⟨h1, h2⟩ | ⟨g, c, cur, h1, _, _, h3, h4, _⟩
        · exact ⟨none, 0, by rw [h1, h2], by omega, by unfold maxLen; omega⟩
        · exact ⟨_, c, h1, h3, h4⟩
      unfold maxLen at hlm
      have hn1 := hrc.n1
      dsimp only at hn1
      have b0 : w2.cell? ⟨cb, 0, none⟩ = some (.slice la rn lcap) := by simp [World.cell?, hbx]
      have b1 : w2.cell? ⟨cb, 1, none⟩ = some (.bool rb) := by simp [World.cell?, hbx]
      have ltc : cb < w2.heap.size := hrc.lt
      have ew : IntKind.i64.wrap ((all : Int) + (rn : Int)) = ((all + rn : Nat) : Int) := by rw [IntKind.wrap_i64]; omega
      have HO2 := hid (ownsRow_below HOWN.out hb2)
      have HB2 := hid (HBEL.out.trans (hb2.mono hsz))
      have HF := hid (HBA.out.trans (HB2.out.mono HBA.out.size))
      clear hb2 hrc hbx HLW HOWN HBEL
      cases rb with
      | true =>
        have hf : fin = false := by rw [HSTEP.out, if_pos (.inl rfl)]
        have HFF := hid hf
        clear HSTEP hf
        go_wp2
        exact bodyPost_ret (v := .tuple #[.slice none 0 0, .bool false]) (by simp [results, Tryz.results114, go_sem]) rfl ⟨HF.out, _, by rw [HFF.out]⟩
      | false =>
        by_cases hbig : 1000 < all + rn
        · have hbig' : (1000 : Int) < ((all + rn : Nat) : Int) := by omega
          have hf : fin = false := by rw [HSTEP.out, if_pos (.inr hbig)]
          have HFF := hid hf
          clear HSTEP hf
          go_wp2
          exact bodyPost_ret (v := .tuple #[.slice none 0 0, .bool false]) (by simp [results, Tryz.results114, go_sem]) rfl ⟨HF.out, _, by rw [HFF.out]⟩
        · have hbig' : decide ((1000 : Int) < ((all + rn : Nat) : Int)) = false := by simp; omega
          have hf : fin = rlAll p bud (pl - (k + 1)) (k + 1) (all + rn) := by rw [HSTEP.out, if_neg (by simp; omega)]
          have HFF := hid hf
          have hs2A : wA.heap.size ≤ w2.heap.size := by omega
          clear HSTEP hf
          go_wp2_with (at_builtin; refine wpList_append_lies _ rfl (.tmp 36) (.tmp 38) 152 rfl wA.heap.size 156 i0 (.pointer none) 1 8 Tryz.underlying152 hi hz0 hz1 hz2 rfl (by decide) _ _ _ rfl (HO2.out.alloc _) ⟨w2.heap.size, 0, none⟩ 1 1 [.pointer (some ⟨cb, 0, none⟩)] rfl rfl (cell_one_new _ _ _) (fun u hu => by rw [List.mem_singleton.1 hu]; rfl) (by decide) (by unfold maxLen; omega) (by omega) (by simp; omega) _ rfl ?_)
          intro g c w5 hown5 hgrow5 hat5 hlt5
          have HB5 : Hid (Below wA.heap.size wA w5) := hid ((HB2.out.alloc hs2A _).grown hgrow5 (by simp; omega) (fun q hq => (HO2.out.lt q hq).1))
          have HO5 := hid hown5
          clear hown5 hgrow5 hat5 b0 b1 HO2 HB2 hi hz0 hz1 hz2
          go_wp2
          go_roundw
          case rel => exact ⟨k + 1, all + rn, _, rfl, by go_num, by omega, by omega, HFF.out, by rw [hsA]; exact HO5.out, HB5.out⟩
          case measure => simp [intOf]; omega
    · have hkl' : decide ((k : Int) < (pl : Int)) = false := by simp; omega
      have hf : fin = true := by rw [hfe, show pl - k = 0 by omega]; rfl
      have HFF := hid hf
      have HF := hid (HBA.out.trans (HBEL.out.mono HBA.out.size))
      clear hf hfe hown hbel kr
      go_wp2
      exact bodyPost_ret (v := .tuple #[_, .bool true]) (by simp [results, Tryz.results114, go_sem]; rfl) rfl ⟨HF.out, _, by rw [HFF.out]⟩
end Go.Proofs.YtffnfjkjlmlonaaGreatDoor
namespace Go.Proofs
open Go.Shelf
def Tryz.laysM171_ren : Go.Shelf.Ren := ⟨fun | 171 => 163 | 243 => 209 | 246 => 227 | 283 => 229 | 284 => 230 | 285 => 231 | 286 => 232 | 129 => 234 | 317 => 233 | 318 => 235 | 319 => 236 | 320 => 237 | 337 => 238 | 338 => 239 | n => n, fun | 3 => 3 | 9 => 9 | 2 => 2 | 4 => 4 | 171 => 283 | 0 => 0 | 53 => 284 | 37 => 36 | 5 => 5 | 173 => 287 | 212 => 290 | 51 => 291 | 20 => 20 | 213 => 292 | 46 => 293 | 232 => 296 | 233 => 297 | n => n, fun | 17 => 1 | 18 => 2 | 19 => 3 | n => n⟩
theorem Tryz.laysM171 : Go.Proofs.LaysM.n171 Tryz.prog Tryz.laysM171_ren := {
  mixed := by kernel_rfl
  f129 := Tryz.func234.trans (congrArg some (by kernel_rfl))
  f171 := Tryz.func163.trans (congrArg some (by kernel_rfl))
  f243 := Tryz.func209.trans (congrArg some (by kernel_rfl))
  f246 := Tryz.func227.trans (congrArg some (by kernel_rfl))
  f283 := Tryz.func229.trans (congrArg some (by kernel_rfl))
  f284 := Tryz.func230.trans (congrArg some (by kernel_rfl))
  f285 := Tryz.func231.trans (congrArg some (by kernel_rfl))
  f286 := Tryz.func232.trans (congrArg some (by kernel_rfl))
  f317 := Tryz.func233.trans (congrArg some (by kernel_rfl))
  f318 := Tryz.func235.trans (congrArg some (by kernel_rfl))
  f319 := Tryz.func236.trans (congrArg some (by kernel_rfl))
  f320 := Tryz.func237.trans (congrArg some (by kernel_rfl))
  f337 := Tryz.func238.trans (congrArg some (by kernel_rfl))
  f338 := Tryz.func239.trans (congrArg some (by kernel_rfl))
  t0 := Tryz.underlying0
  a0 := Tryz.isAgg0
  z0 := Tryz.sizeOf0
  v0 := Tryz.zeroValue0
  t2 := Tryz.underlying2
  a2 := Tryz.isAgg2
  z2 := Tryz.sizeOf2
  v2 := Tryz.zeroValue2
  t3 := Tryz.underlying3
  a3 := Tryz.isAgg3
  z3 := Tryz.sizeOf3
  v3 := Tryz.zeroValue3
  t4 := Tryz.underlying4
  a4 := Tryz.isAgg4
  z4 := Tryz.sizeOf4
  v4 := Tryz.zeroValue4
  t5 := Tryz.underlying5
  a5 := Tryz.isAgg5
  z5 := Tryz.sizeOf5
  v5 := Tryz.zeroValue5
  t9 := Tryz.underlying9
  a9 := Tryz.isAgg9
  z9 := Tryz.sizeOf9
  v9 := Tryz.zeroValue9
  t20 := Tryz.underlying20
  a20 := Tryz.isAgg20
  z20 := Tryz.sizeOf20
  v20 := Tryz.zeroValue20
  t37 := Tryz.underlying36
  a37 := Tryz.isAgg36
  z37 := Tryz.sizeOf36
  v37 := Tryz.zeroValue36
  t46 := Tryz.underlying293
  a46 := Tryz.isAgg293
  z46 := Tryz.sizeOf293
  v46 := Tryz.zeroValue293
  t51 := Tryz.underlying291
  a51 := Tryz.isAgg291
  z51 := Tryz.sizeOf291
  v51 := Tryz.zeroValue291
  t53 := Tryz.underlying284
  a53 := Tryz.isAgg284
  z53 := Tryz.sizeOf284
  v53 := Tryz.zeroValue284
  t171 := Tryz.underlying283
  a171 := Tryz.isAgg283
  z171 := Tryz.sizeOf283
  v171 := Tryz.zeroValue283
  t173 := Tryz.underlying287
  a173 := Tryz.isAgg287
  z173 := Tryz.sizeOf287
  v173 := Tryz.zeroValue287
  t212 := Tryz.underlying290
  a212 := Tryz.isAgg290
  z212 := Tryz.sizeOf290
  v212 := Tryz.zeroValue290
  t213 := Tryz.underlying292
  a213 := Tryz.isAgg292
  z213 := Tryz.sizeOf292
  t232 := Tryz.underlying296
  a232 := Tryz.isAgg296
  z232 := Tryz.sizeOf296
  v232 := Tryz.zeroValue296
  t233 := Tryz.underlying297
  a233 := Tryz.isAgg297
  z233 := Tryz.sizeOf297
  v233 := Tryz.zeroValue297
  g17 := by kernel_rfl
  g18 := by kernel_rfl
  g19 := by kernel_rfl
  i0 := by kernel_rfl
  i2 := by kernel_rfl
  i3 := by kernel_rfl
  i4 := by kernel_rfl
  i5 := by kernel_rfl
  i9 := by kernel_rfl
  i20 := by kernel_rfl
  i37 := by kernel_rfl
  i46 := by kernel_rfl
  i51 := by kernel_rfl
  i53 := by kernel_rfl
  i171 := by kernel_rfl
  i173 := by kernel_rfl
  i212 := by kernel_rfl
  i232 := by kernel_rfl
  i233 := by kernel_rfl
  m17 := by kernel_rfl
  m18 := by kernel_rfl
  m19 := by kernel_rfl }
open Go.RowKit Go.Sort Go.Lib in
theorem Tryz.strconv_Itoa (n : Int) (h0 : -9223372036854775808 ≤ n) (h1 : n ≤ 9223372036854775807) (w : World) (htab : Lib.TabIs Tryz.prog w "internal/strconv.uint64pow10" .u64 Lib.pow10Tab) :
    Calls Tryz.prog 163 #[.int .i64 n] w fun e w' => e = .returned (.string ⟨(Lib.itoa n).toArray⟩) ∧ ∃ k os, w' = grow (w.drewN k) os := Any.strconv_Itoa Tryz.laysM171 n h0 h1 w htab
end Go.Proofs
namespace Go.Proofs.YtffnfjkjlmlonaaGreatDoor
open Go.RowKit

theorem wfS_len : ∀ (l : List (Int × Int)) (b r : Int), wfS l b r = true → 0 ≤ r → (l.length : Int) ≤ r
  | [], _, _, _, h => by simpa using h
  | p :: t, b, r, h, hr => by
    unfold wfS at h
    by_cases h1 : isV p.1 = false ∨ p.1 = b
    · rw [if_pos h1] at h; cases h
    · rw [if_neg h1] at h
      by_cases h2 : p.2 < 1 ∨ r < p.2
      · rw [if_pos h2] at h; cases h
      · rw [if_neg h2] at h
        have := wfS_len t _ _ h (by omega)
        simp; omega
theorem wfS_at : ∀ (l : List (Int × Int)) (b r : Int) (k : Nat), wfS l b r = true → r ≤ 1000 → k < l.length →
    0 ≤ (l.getD k (0, 0)).1 ∧ (l.getD k (0, 0)).1 ≤ 9999 ∧ 1 ≤ (l.getD k (0, 0)).2 ∧ (l.getD k (0, 0)).2 ≤ 1000
  | [], _, _, _, _, _, h => by simp at h
  | p :: t, b, r, k, h, hr, hk => by
    unfold wfS at h
    by_cases h1 : isV p.1 = false ∨ p.1 = b
    · rw [if_pos h1] at h; cases h
    · rw [if_neg h1] at h
      by_cases h2 : p.2 < 1 ∨ r < p.2
      · rw [if_pos h2] at h; cases h
      · rw [if_neg h2] at h
        cases k with
        | zero =>
          have hv : isV p.1 = true := by simpa using fun e => h1 (.inl e)
          unfold isV at hv
          have hv := of_decide_eq_true hv
          simp only [List.getD_cons_zero]
          omega
        | succ k =>
          have := wfS_at t _ _ k h (by omega) (by simpa using hk)
          simpa using this

def atS : List (Int × Int) → Int → Int × Int
  | [], _ => (0, 1)
  | p :: r, pc => if pc < p.2 then (p.1, 0) else atS r (pc - p.2)
def atT (l : List (Int × Int)) (pc : Int) : Int × Int := if wfT l = false then (0, 4) else if pc < 0 then (0, 1) else atS l pc

theorem drop_getD {α : Type} (l : List α) (k : Nat) (d : α) (h : k < l.length) : l.drop k = l.getD k d :: l.drop (k + 1) := by
  rw [List.drop_eq_getElem_cons h]; simp [List.getD, h]

theorem owns_some {w : World} {base : Nat} {e : TypeId} {size : Nat} {v : Value} {n : Nat} {xs : List Value} (h : w.ownsRow base e size v n xs) (hn : 0 < n) :
    ∃ g cap, v = .slice (some ⟨g, 0, none⟩) n cap ∧ base ≤ g ∧ g < w.heap.size ∧ ∀ j u, xs[j]? = some u → w.cell? ((⟨g, 0, none⟩ : Addr).add j) = some u := by
  have hc := fun g hg => h.cells (g := g) hg
  rcases h.2 with ⟨_, h0⟩ | ⟨g, cap, cur, rfl, hg, hh, _⟩
  · omega
  · exact ⟨g, cap, rfl, hg, (Array.getElem?_eq_some_iff.1 hh).1, hc g rfl⟩

def putS : List (Int × Int) → Int → List Int
  | [], _ => [0]
  | p :: r, before => numB (zig (p.1 - before)) ++ (numB p.2 ++ putS r p.1)
def putT (l : List (Int × Int)) : List Int × Int := if wfT l = false then ([], 4) else (putS l (-1), 0)
theorem zig_bd (d : Int) (h1 : -10000 ≤ d) (h2 : d ≤ 10000) : 0 ≤ zig d ∧ zig d ≤ 20000 := by
  unfold zig; by_cases h : 0 ≤ d
  · rw [if_pos h]; omega
  · rw [if_neg h]; omega

/-- The relation of table.Bytes' loop. -/
def RelP (w : World) (l : List (Int × Int)) (b before i : Value) (wr : World) : Prop :=
  ∃ (k : Nat) (pre : List Int) (c : Int), before = .int .i64 c ∧ i = .int .i64 k ∧ k ≤ l.length ∧ -1 ≤ c ∧ c ≤ 9999 ∧ putS l (-1) = pre ++ putS (l.drop k) c ∧ pre.length ≤ 10 * k ∧
    wr.ownsRow w.heap.size 5 1 b pre.length (u8s pre) ∧ Below w.heap.size w wr

/-- A row of the call's own is not a block of another element type. -/
theorem owns_other {w : World} {base : Nat} {e e' : TypeId} {size : Nat} {v : Value} {n : Nat} {xs : List Value} (h : w.ownsRow base e size v n xs) {g : Nat} {cs : Array Value} {fz : Nat × Nat} (hg : w.heap[g]? = some (.cells cs e' fz)) (hne : e ≠ e') : some g ≠ v.ownBlock := by
  rcases h.2 with ⟨rfl, _⟩ | ⟨g', cap, cur, rfl, _, hh, _⟩
  · simp [Value.ownBlock]
  · intro hb
    simp [Value.ownBlock] at hb
    subst hb
    rw [hg] at hh
    injection hh with hh
    injection hh with _ hh _
    exact hne hh.symm

theorem box_cells {w : World} {g : Nat} {x y : Value} {e : TypeId} (h : w.heap[g]? = some (.cells #[x, y] e (0, 0))) : w.cell? ⟨g, 0, none⟩ = some x ∧ w.cell? ⟨g, 1, none⟩ = some y := by
  constructor <;> simp [World.cell?, h]

theorem u8s_one (l : List Int) : ∀ u ∈ u8s l, u.oneCell' = true := by
  intro u hu
  obtain ⟨x, _, rfl⟩ := List.mem_map.1 hu
  rfl

theorem owns_low7 {w : World} {base base' : Nat} {e : TypeId} {size : Nat} {v : Value} {n : Nat} {xs : List Value} (h : w.ownsRow base e size v n xs) (hb : base' ≤ base) : w.ownsRow base' e size v n xs := by
  refine ⟨h.1, ?_⟩
  rcases h.2 with hn | ⟨g, cap, cur, hv, hg, r⟩
  · exact .inl hn
  · exact .inr ⟨g, cap, cur, hv, Nat.le_trans hb hg, r⟩

set_option maxHeartbeats 2000000 in
set_option maxRecDepth 100000 in
theorem tbytes_any (a : Option Addr) (len cap : Nat) (l : List (Int × Int)) (w : World) (hr : RdS w a len cap l) (hwt : wfT l = true) :
    Calls Tryz.prog 133 #[.slice a len cap] w fun e w' => ∃ v, e = .returned v ∧
      w'.ownsRow w.heap.size 5 1 v (putS l (-1)).length (u8s (putS l (-1))) ∧ Below w.heap.size w w' := by
  have HL := hid hr.hlen
  have hmax := hr.hmax
  have hcap := hr.hcap
  unfold maxLen at hmax
  obtain ⟨i0, hi, hz0, hz1, hz2⟩ := info_parts Tryz.infoByte
  have hws : wfS l (-1) 1000 = true := by unfold wfT at hwt; rw [Bool.and_eq_true] at hwt; exact hwt.1
  have hln := wfS_len l (-1) 1000 hws (by omega)
  have HWS := hid hws
  clear hwt hws
  have hb : Below w.heap.size w w := Below.refl _ _
  go_enter Tryz.func133, Tryz.ntmps133
  go_wp2
  go_loopw [3, 4, 10] (fun b c i wr => RelP w l b c i wr) (fun _ _ i _ => len - (intOf i).toNat)
  case atStart => exact ⟨0, [], -1, rfl, rfl, by omega, by omega, by omega, rfl, by simp, World.ownsRow_nil _ _ _ _, hb⟩
  case round =>
    clear hb
    obtain ⟨k, pre, c, rfl, rfl, hk, hc0, hc1, hP, hpl, hown, hbel⟩ := hrel
    rw [HL.out] at hk hln
    have hsz := hbel.size
    by_cases hlt : k < len
    · obtain ⟨b0, off, rfl, hc⟩ := (hr.below hbel (Nat.le_refl _)).open (by omega)
      obtain ⟨hcv, hcn⟩ := hc k hlt
      have hlt' : k < l.length := by rw [HL.out]; exact hlt
      have hb0 := World.block_lt_of_cell? wr _ hcv
      have hat := wfS_at l (-1) 1000 k HWS.out (by omega) hlt'
      have e : putS (l.drop k) c = numB (zig ((l.getD k (0, 0)).1 - c)) ++ (numB (l.getD k (0, 0)).2 ++ putS (l.drop (k + 1)) (l.getD k (0, 0)).1) := by
        rw [drop_getD l k (0, 0) hlt']; rfl
      obtain ⟨⟨v, n⟩, hp⟩ : ∃ p, l.getD k (0, 0) = p := ⟨_, rfl⟩
      rw [hp] at hcv hcn e hat
      simp only at hcv hcn e hb0 hat
      obtain ⟨d1, d2, d3, d4⟩ := hat
      have HP := hid (hP.trans (by rw [e]))
      clear e hP hr hc hp
      have hzb := zig_bd (v - c) (by omega) (by omega)
      go_wp2_with (go_at_call 184; refine (fromSigned_any _ _ (by omega) (by omega)).mono ?_; rintro e w' ⟨rfl, rfl⟩)
      obtain ⟨bw, hbw⟩ : ∃ bw, bw = wr.alloc (Obj.cells #[Value.int IntKind.i64 v, Value.int IntKind.i64 n] 109) := ⟨_, rfl⟩
      have hown1 : bw.ownsRow w.heap.size 5 1 u3 pre.length (u8s pre) := by rw [hbw]; exact hown.alloc _
      have hbel1 : Below w.heap.size w bw := by rw [hbw]; exact hbel.alloc hsz _
      have hbs : bw.heap.size = wr.heap.size + 1 := by rw [hbw]; simp
      have hx : bw.heap[wr.heap.size]? = some (.cells #[.int .i64 v, .int .i64 n] 109 (0, 0)) := by rw [hbw]; exact heap_alloc_new _ _
      rw [← hbw]
      clear hbw hown hbel hcv hcn
      refine (bytes_any _ _ (by omega) (by omega)).mono ?_
      rintro e w2 ⟨v2, rfl, ho2, hb2⟩
      have hl1 := numB_len (zig (v - c))
      obtain ⟨A, hA⟩ : ∃ A, A = numB (zig (v - c)) := ⟨_, rfl⟩
      rw [← hA] at ho2 hl1 HP
      clear hA
      obtain ⟨g2, cap2, rfl, hg2, hg2', hcs2⟩ := owns_some ho2 (by omega)
      have hown2 := owns_below hown1 hb2
      have hbel2 := hbel1.trans (hb2.mono hbel1.size)
      have hy := (hb2.block wr.heap.size (by omega)).trans hx
      have hs2 := hb2.size
      clear hown1 hbel1 hx hb2 ho2 hzb
      have HY := hid hy
      clear hy
      go_wp2_with (at_builtin; refine wpList_append_own _ rfl (.tmp 19) (.tmp 21) 36 rfl w.heap.size 5 i0 (.int .u8 0) 1 1 Tryz.underlying36 hi hz0 hz1 hz2 rfl (by decide) _ _ _ rfl hown2 ⟨g2, 0, none⟩ A.length cap2 (u8s A) rfl (by rw [u8s_len, Nat.mul_one]) hcs2 (u8s_one A) (by unfold maxLen; omega) (by omega) (by omega) ?_)
      intro v3 w3 hown3 hgrow3 _
      have hbel3 : Below w.heap.size w w3 := hbel2.grown hgrow3 (by omega) (fun k hk => (hown2.lt k hk).1)
      have hz := (hgrow3.block wr.heap.size (by omega) (owns_other hown2 HY.out (by decide))).trans HY.out
      obtain ⟨hz0', hz1'⟩ := box_cells hz
      have hs3 := hgrow3.size
      clear hown2 hbel2 HY hgrow3 hcs2
      have HZ := hid hz
      clear hz
      go_wp2_with fail
      clear hz0' hz1'
      refine (bytes_any _ _ (by omega) (by omega)).mono ?_
      rintro e w4 ⟨v4, rfl, ho4, hb4⟩
      have hl4 := numB_len n
      obtain ⟨B, hB⟩ : ∃ B, B = numB n := ⟨_, rfl⟩
      rw [← hB] at ho4 hl4 HP
      clear hB
      obtain ⟨g4, cap4, rfl, hg4, hg4', hcs4⟩ := owns_some ho4 (by omega)
      have hown4 := owns_below hown3 hb4
      have hbel4 := hbel3.trans (hb4.mono hbel3.size)
      have hy := (hb4.block wr.heap.size (by omega)).trans HZ.out
      have hs4 := hb4.size
      clear hown3 hbel3 HZ hb4 ho4
      have HY := hid hy
      clear hy
      go_wp2_with (at_builtin; refine wpList_append_own _ rfl (.tmp 23) (.tmp 26) 36 rfl w.heap.size 5 i0 (.int .u8 0) 1 1 Tryz.underlying36 hi hz0 hz1 hz2 rfl (by decide) _ _ _ rfl hown4 ⟨g4, 0, none⟩ B.length cap4 (u8s B) rfl (by rw [u8s_len, Nat.mul_one]) hcs4 (u8s_one B) (by unfold maxLen; omega) (by omega) (by omega) ?_)
      intro v5 w5 hown5 hgrow5 _
      have hbel5 : Below w.heap.size w w5 := hbel4.grown hgrow5 (by omega) (fun k hk => (hown4.lt k hk).1)
      have hz := (hgrow5.block wr.heap.size (by omega) (owns_other hown4 HY.out (by decide))).trans HY.out
      obtain ⟨hz0', hz1'⟩ := box_cells hz
      clear hown4 hbel4 HY hgrow5 hcs4 hz hz1'
      have HO := hid hown5
      clear hown5
      go_wp2
      go_roundw
      case rel =>
        refine ⟨k + 1, pre ++ (A ++ B), v, rfl, by go_num, by omega, by omega, by omega, by rw [HP.out]; simp, by simp; omega, ?_, hbel5⟩
        rw [u8s_append, u8s_append, List.length_append, List.length_append, ← Nat.add_assoc]
        exact HO.out
      case measure => simp [intOf]; omega
    · have HP : Hid (putS l (-1) = pre ++ [0]) := by show _ = _; rw [hP, List.drop_of_length_le (by rw [HL.out]; omega)]; rfl
      clear hP
      go_wp2_with (at_builtin; refine wpList_append_own _ rfl (.tmp 31) (.tmp 32) 36 rfl w.heap.size 5 i0 (.int .u8 0) 1 1 Tryz.underlying36 hi hz0 hz1 hz2 rfl (by decide) _ _ _ rfl (hown.alloc _) ⟨wr.heap.size, 0, none⟩ 1 1 [.int .u8 0] rfl rfl (cell_one_new _ _ _) (fun u hu => by rw [List.mem_singleton.1 hu]; rfl) (by unfold maxLen; omega) (by omega) (by simp; omega) ?_)
      intro v5 w5 hown5 hgrow5 _
      have hbel5 : Below w.heap.size w w5 := (hbel.alloc hsz _).grown hgrow5 (by simp; omega) (fun k hk => (hown.lt k hk).1)
      have HO := hid hown5
      clear hown5 hgrow5 hown hbel
      go_wp2
      go_ret
      rw [HP.out]
      refine ⟨_, rfl, ?_, hbel5⟩
      rw [u8s_snoc, List.length_append]
      exact HO.out

end Go.Proofs.YtffnfjkjlmlonaaGreatDoor
