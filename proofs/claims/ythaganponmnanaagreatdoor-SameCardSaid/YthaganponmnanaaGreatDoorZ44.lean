/- Contracts of the machine's method Pcs, the developers' own and unfold's. The statement's world where lists of frames have come out, each written full of its number; contracts of marked and looks there: the look answers true. Contract of the statement's own World.frames: a list of frames that has come out anew is written full of its number, and kept. -/
import Derived.Test.YthaganponmnanaaGreatDoorZ35
import Derived.Test.YthaganponmnanaaGreatDoorZ23
import Derived.Test.YthaganponmnanaaGreatDoorZ20
import Derived.Test.YthaganponmnanaaGreatDoorZ15
import Derived.Test.YthaganponmnanaaGreatDoorZ24
namespace Go.Proofs.YthaganponmnanaaGreatDoor
open Go.RowKit

theorem begunAt_le (pc : Int) : ∀ (l : List (Int × Int)) (k : Nat), begunAt pc l k ≤ k + l.length
  | [], k => by unfold begunAt; omega
  | x :: r, k => by
    unfold begunAt
    split
    · simp
    · have := begunAt_le pc r (k + 1)
      simp
      omega
theorem RdPl.below {w w' : World} {a : Option Addr} {len cap : Nat} {l : List PlD} (h : RdPl w a len cap l) (hb : Below w.heap.size w w') : RdPl w' a len cap l := RdL.below h hb (fun _ _ h => h)
theorem RdNd.below {w w' : World} {a : Option Addr} {len cap : Nat} {l : List (Int × Int)} (h : RdNd w a len cap l) (hb : Below w.heap.size w w') : RdNd w' a len cap l := RdL.below h hb (fun _ _ h => h)

set_option maxHeartbeats 8000000 in
set_option maxRecDepth 100000 in
theorem mPcs_any (p : List FnD) (bud : Int) (mb : Nat) (X : RX) (w0 : World) (s : StandD) (w : World) (cs : List CodeD) (hcs : codesD p bud = some cs) (hgd : Good (strip p)) (hw : Wf (strip p) s) (hm : MachAt p bud mb X w0 w s) :
    Calls Tryz.prog 27 #[.pointer (some ⟨mb, 0, none⟩)] w fun e w' => ∃ a cap, e = .returned (.slice a (pcsD cs s.live).length cap) ∧
      w'.ownsRow w.heap.size 3 1 (.slice a (pcsD cs s.live).length cap) (pcsD cs s.live).length (ints (pcsD cs s.live)) ∧ Below w.heap.size w w' := by
  obtain ⟨cs', ca, ccap, hcs', hex, hrd⟩ := hm.codes
  obtain rfl : cs' = cs := Option.some.inj (hcs'.symm.trans hcs)
  have hrdw := hrd w s hm.run
  obtain ⟨hbd, hcl⟩ := codesD_bd hcs
  have hk4 : w.cell? ⟨mb, 4, none⟩ = some (.slice ca cs'.length ccap) := by
    obtain ⟨pa, pcap, v, hk, _⟩ := hm.run
    rw [hex] at hk
    simp [World.cell?, hk]
  have HSP := hid (fun (W : World) (hW : Below w.heap.size w W) => Spots_any X w0 (strip p) mb s W hgd hw (hm.run.below hW))
  have hlen := hw.len
  have HFN : Hid (∀ x ∈ s.live, 0 ≤ x.fn ∧ x.fn < p.length ∧ 0 ≤ x.next ∧ x.next < 100) := fun x hx => by
    have h := hw.live x hx
    have h1 := h.fn
    have h2 := h.next
    have h3 := (h.fnOk hgd).body
    rw [strip_length] at h1
    exact ⟨h1.1, h1.2, h2.1, by omega⟩
  obtain ⟨cl, hcl2⟩ : ∃ v, v = cs'.length := ⟨_, rfl⟩
  rw [← hcl2] at hk4 hcl
  have HCL := hid hcl2
  have HRD := hid hrdw
  have HBD := hid hbd
  obtain ⟨sp, hsp⟩ : ∃ v, v = s.live.map spot := ⟨_, rfl⟩
  have hspl : sp.length = s.live.length := by rw [hsp]; simp
  have HS1 : Hid (∀ x ∈ sp, 0 ≤ x.1 ∧ x.1 < cl ∧ 0 ≤ x.2 ∧ x.2 < 100) := fun x hx => by
    rw [hsp] at hx
    obtain ⟨y, hy, rfl⟩ := List.mem_map.1 hx
    have := HFN.out y hy
    unfold spot
    dsimp only
    omega
  obtain ⟨res, hres⟩ : ∃ v, v = pcsF cs' sp noCode 0 [] := ⟨_, rfl⟩
  have hpd : pcsD cs' s.live = res.reverse := by unfold pcsD; rw [← hsp, ← hres]
  rw [hpd]
  rw [← hsp, ← hspl] at HSP
  rw [← hspl] at hlen
  have HRES := hid hres
  obtain ⟨ns, hns⟩ : ∃ v, v = sp.length := ⟨_, rfl⟩
  rw [← hns] at HSP hlen
  have HNS := hid hns
  have ltm := World.block_lt_of_cell? w _ hk4
  simp only at ltm
  clear hm hw hgd hrd hrdw hbd hcs hcs' hex hsp hspl hres hpd hns hcl2 HFN
  go_enter Tryz.func27, Tryz.ntmps27
  obtain ⟨wa, hwa⟩ : ∃ v, v = w.alloc (Obj.cells #[.int .i64 0, .slice none 0 0, .slice none 0 0] 87) := ⟨_, rfl⟩
  have hba : Below w.heap.size w wa := by rw [hwa]; exact (Below.refl _ _).alloc (Nat.le_refl _) _
  have hsa : wa.heap.size = w.heap.size + 1 := by rw [hwa]; simp
  have ka : wa.heap[w.heap.size]? = some (.cells #[.int .i64 0, .slice none 0 0, .slice none 0 0] 87 (0, 0)) := by rw [hwa]; exact heap_new_at rfl
  go_wp2_with fail
  rw [← hwa]
  clear hwa
  refine (HSP.out wa hba).mono ?_
  clear HSP
  rintro e w1 ⟨sa, scap, rfl, hso, hb1⟩
  have hs1 := hb1.size
  have k1 := (hb1.block w.heap.size (by omega)).trans ka
  have HK1 := hid k1
  rw [HNS.out] at hso
  obtain ⟨sa', scap', hse, hsr⟩ := rd_row ndCells 2 (fun _ => rfl) hso (W := w1) (fun _ _ => rfl)
  rw [← HNS.out] at hse hsr
  simp only [Value.slice.injEq, true_and] at hse
  obtain ⟨rfl, rfl⟩ := hse
  have HSR := hid hsr
  have hsc := hsr.2.1
  have hsm := hsr.2.2.1
  unfold maxLen at hsm
  have hbw1 : Below w.heap.size w w1 := hba.trans (hb1.mono hba.size)
  have HSO : Hid (∀ b, (Value.slice sa ns scap).ownBlock = some b → w.heap.size + 1 ≤ b ∧ b < w1.heap.size) := fun b hb => by
    have h := hso.lt b (by rw [← HNS.out]; exact hb)
    omega
  clear hso hsr ka k1
  go_wp2
  go_loopw [3, 5, 16] (fun lv ki i wr => ∃ (j k : Nat) (c : CodeD) (l : List Int) (pa : Option Addr) (pcap : Nat) (ta : Option Addr) (tcap : Nat), i = .int .i64 j ∧ ki = .int .i64 k ∧ (j < ns ∨ (ns = 0 ∧ j = 0)) ∧ k ≤ 1000 ∧ l.length ≤ j ∧ res = pcsF cs' (sp.drop j) c k l ∧ Below w.heap.size w wr ∧
    (∀ b, b < w1.heap.size → b ≠ w.heap.size → wr.heap[b]? = w1.heap[b]?) ∧ w1.heap.size ≤ wr.heap.size ∧ wr.heap[w.heap.size]? = some (.cells #[.int .i64 c.first, .slice pa c.places.length pcap, .slice ta c.tree.length tcap] 87 (0, 0)) ∧
    (k ≠ 0 → RdPl w pa c.places.length pcap c.places ∧ RdNd w ta c.tree.length tcap c.tree ∧ CodeBd c) ∧ wr.ownsRow w1.heap.size 3 1 lv l.length (ints l)) (fun _ _ i _ => ns - (intOf i).toNat)
  case atStart => exact ⟨0, 0, noCode, [], none, 0, none, 0, rfl, rfl, by omega, by omega, by simp, by rw [HRES.out]; simp, hbw1, fun b _ _ => rfl, Nat.le_refl _, HK1.out, fun h => absurd rfl h, World.ownsRow_nil _ _ _ _⟩
  case round =>
    clear HK1
    obtain ⟨j, k, c0, l, pa0, pcap0, ta0, tcap0, rfl, rfl, hj, hk, hll, hr, hbel, hkeep, hsz, hbox, hrd0, hown⟩ := hrel
    have hl20 : l.length ≤ 20 := by omega
    by_cases hn0 : ns = 0
    · have hj0 : j = 0 := by omega
      subst hj0
      subst hn0
      have hsn : sp = [] := List.length_eq_zero_iff.1 HNS.out.symm
      rw [hsn] at hr
      have hl0 : l = [] := List.length_eq_zero_iff.1 (by omega)
      have hfin : res = [] := by rw [hr, hl0]; rfl
      rw [hl0] at hown
      obtain ⟨ra, rcap, rfl, hrdI⟩ := rdI_of_owns (l := []) hown rfl
      have HRV := hid (reversed_any ra rcap [] wr hrdI (by simp))
      have HFN := hid hfin
      have hswr := hbel.size
      have HBL := hid hbel
      simp only [List.length_nil, List.reverse_nil] at HRV
      clear hr hown hfin hl0 hsn hrdI hbox hrd0 hkeep hbel
      simp only [List.length_nil]
      go_wp2_with fail
      refine HRV.out.mono ?_
      clear HRV
      rintro e w6 ⟨fa, fcap, rfl, ho6, hb6⟩
      have HO6 := hid (owns_lower ho6 (base' := w.heap.size) hswr)
      have HB6 := hid (HBL.out.trans (hb6.mono hswr))
      clear ho6 hb6
      go_wp2
      exact bodyPost_ret (v := .slice fa 0 fcap) (by simp [results, Tryz.results27, go_sem]) rfl ⟨fa, fcap, by rw [HFN.out]; rfl, by rw [HFN.out]; exact HO6.out, HB6.out⟩
    have hjn : j < ns := by omega
    have hjn' : (j : Int) < (ns : Int) := by omega
    obtain ⟨x, hx⟩ : ∃ x, sp[j]? = some x := ⟨_, List.getElem?_eq_getElem (by rw [← HNS.out]; exact hjn)⟩
    obtain ⟨sb, soff, scs, rfl, -, hcell, rfl⟩ := HSR.out.2.2.2 j x hx
    have hsb := HSO.out sb rfl
    have up : ∀ (q : Addr) (u : Value), q.block = sb → w1.cell? q = some u → wr.cell? q = some u := fun q u hq h => (World.cell?_of_block (hkeep q.block (by rw [hq]; exact hsb.2) (by rw [hq]; omega))).trans h
    have t0 : wr.cell? ⟨sb, soff + j * 2, none⟩ = some (.int .i64 x.1) := up _ _ rfl (hcell 0 _ rfl)
    have t1 : wr.cell? ⟨sb, soff + j * 2 + 1, none⟩ = some (.int .i64 x.2) := up _ _ rfl (hcell 1 _ rfl)
    have hxr := HS1.out x (List.mem_of_getElem? hx)
    have hdr : sp.drop j = x :: sp.drop (j + 1) := by
      obtain ⟨hlt, he⟩ := List.getElem?_eq_some_iff.1 hx
      rw [List.drop_eq_getElem_cons hlt, he]
    rw [hdr] at hr
    obtain ⟨x1, x2⟩ := x
    dsimp only at t0 t1 hxr hr
    obtain ⟨fN, rfl⟩ : ∃ n : Nat, x1 = n := ⟨x1.toNat, by omega⟩
    obtain ⟨ll, hll2⟩ : ∃ v, v = l.length := ⟨_, rfl⟩
    rw [← hll2] at hown hll hl20
    have HLL : Hid (l.length = ll) := hll2.symm
    have ltw : w.heap.size < wr.heap.size := by omega
    have ltsb : sb < wr.heap.size := by omega
    clear hcell up hdr hx hll2
    by_cases hk0 : k = 0
    · subst hk0
      -- the code is chosen anew
      obtain ⟨c, hc⟩ : ∃ c, cs'[fN]? = some c := ⟨_, List.getElem?_eq_getElem (by rw [← HCL.out]; omega)⟩
      obtain ⟨cb, coff, ccs, rfl, -, hcc, pa, pcap, ta, tcap, rfl, hrp, hrt⟩ := HRD.out.2.2.2 fN c hc
      have hcat : codeAt cs' (fN : Int) c0 0 = c := by unfold codeAt; rw [if_pos rfl, Int.toNat_natCast, hc]; rfl
      unfold pcsF at hr
      have hz0n : ((0 : Nat) : Int) = 0 := rfl
      rw [hcat, hz0n] at hr
      have HBC := hid (HBD.out c (List.mem_of_getElem? hc))
      have HRP := hid hrp
      have HRT := hid hrt
      have HR := hid hr
      have upw : ∀ (q : Addr) (u : Value), w.cell? q = some u → wr.cell? q = some u := fun q u h => (hbel.cell (World.block_lt_of_cell? w _ h)).trans h
      have d0 : wr.cell? ⟨cb, coff + fN * 3, none⟩ = some (.int .i64 c.first) := upw _ _ (hcc 0 _ rfl)
      have d1 : wr.cell? ⟨cb, coff + fN * 3 + 1, none⟩ = some (.slice pa c.places.length pcap) := upw _ _ (hcc 1 _ rfl)
      have d2 : wr.cell? ⟨cb, coff + fN * 3 + 2, none⟩ = some (.slice ta c.tree.length tcap) := upw _ _ (hcc 2 _ rfl)
      have d4 : wr.cell? ⟨mb, 4, none⟩ = some (.slice (some ⟨cb, coff, none⟩) cl ccap) := upw _ _ hk4
      obtain ⟨w2, hw2⟩ : ∃ v, v = wr.alloc (Obj.cells #[.int .i64 fN, .int .i64 x2] 107) := ⟨_, rfl⟩
      have hb2 : Below wr.heap.size wr w2 := by rw [hw2]; exact (Below.refl _ _).alloc (Nat.le_refl _) _
      have hs2 : w2.heap.size = wr.heap.size + 1 := by rw [hw2]; simp
      have kS0 : w2.heap[wr.heap.size]? = some (.cells #[.int .i64 fN, .int .i64 x2] 107 (0, 0)) := by rw [hw2]; exact heap_new_at rfl
      have up2 : ∀ (q : Addr) (u : Value), wr.cell? q = some u → w2.cell? q = some u := fun q u h => (hb2.cell (World.block_lt_of_cell? wr _ h)).trans h
      have e0 := up2 _ _ d0
      have e1 := up2 _ _ d1
      have e2 := up2 _ _ d2
      have e4 := up2 _ _ d4
      have s0 : w2.cell? ⟨wr.heap.size, 0, none⟩ = some (.int .i64 fN) := by simp [World.cell?, kS0]
      have kbx := (hb2.block w.heap.size ltw).trans hbox
      have b0 : w2.cell? ⟨w.heap.size, 0, none⟩ = some (.int .i64 c0.first) := by simp [World.cell?, kbx]
      have b1 : w2.cell? ⟨w.heap.size, 1, none⟩ = some (.slice pa0 c0.places.length pcap0) := by simp [World.cell?, kbx]
      have b2 : w2.cell? ⟨w.heap.size, 2, none⟩ = some (.slice ta0 c0.tree.length tcap0) := by simp [World.cell?, kbx]
      have f0 : w2.frozen? ⟨w.heap.size, 0, none⟩ = false := by simp [World.frozen?, kbx]
      have f1 : w2.frozen? ⟨w.heap.size, 1, none⟩ = false := by simp [World.frozen?, kbx]
      have f2 : w2.frozen? ⟨w.heap.size, 2, none⟩ = false := by simp [World.frozen?, kbx]
      have hfc : (fN : Int) < (cl : Int) := by omega
      have hfc2 : fN < cl := by omega
      have hccap := HRD.out.2.1
      have hccm := HRD.out.2.2.1
      unfold maxLen at hccm
      rw [← HCL.out] at hccap
      have HKBX := hid kbx
      have HKS0 := hid kS0
      clear d0 d1 d2 d4 upw up2 hcc kbx kS0
      go_wp2
      rw [← hw2]
      clear hw2
      go_region
      obtain ⟨W0, hW0⟩ : ∃ v, v = (((w2.setCell ⟨w.heap.size, 0, none⟩ (.int .i64 c.first)).setCell ⟨w.heap.size, 1, none⟩ (.slice pa c.places.length pcap)).setCell ⟨w.heap.size, 2, none⟩ (.slice ta c.tree.length tcap)).drew := ⟨_, rfl⟩
      have hot : ∀ b, b ≠ w.heap.size → W0.heap[b]? = w2.heap[b]? := fun b hb => by
        rw [hW0]
        show (((w2.setCell ⟨w.heap.size, 0, none⟩ (.int .i64 c.first)).setCell ⟨w.heap.size, 1, none⟩ (.slice pa c.places.length pcap)).setCell ⟨w.heap.size, 2, none⟩ (.slice ta c.tree.length tcap)).heap[b]? = _
        iterate 3 rw [heap_setCell_other _ _ _ _ (by show b ≠ w.heap.size; exact hb)]
      have kW : W0.heap[w.heap.size]? = some (.cells #[.int .i64 c.first, .slice pa c.places.length pcap, .slice ta c.tree.length tcap] 87 (0, 0)) := by
        rw [hW0]
        show (((w2.setCell ⟨w.heap.size, 0, none⟩ (.int .i64 c.first)).setCell ⟨w.heap.size, 1, none⟩ (.slice pa c.places.length pcap)).setCell ⟨w.heap.size, 2, none⟩ (.slice ta c.tree.length tcap)).heap[w.heap.size]? = _
        rw [heap_setCell_same _ w.heap.size 2 _ _ _ (heap_setCell_same _ w.heap.size 1 _ _ _ (heap_setCell_same w2 w.heap.size 0 _ _ _ HKBX.out))]
        rfl
      have kS : W0.heap[wr.heap.size]? = some (.cells #[.int .i64 fN, .int .i64 x2] 107 (0, 0)) := (hot wr.heap.size (by omega)).trans HKS0.out
      have hsW : W0.heap.size = wr.heap.size + 1 := by
        rw [hW0]
        show (((w2.setCell ⟨w.heap.size, 0, none⟩ (.int .i64 c.first)).setCell ⟨w.heap.size, 1, none⟩ (.slice pa c.places.length pcap)).setCell ⟨w.heap.size, 2, none⟩ (.slice ta c.tree.length tcap)).heap.size = _
        simp [hs2]
      have hbW : Below w.heap.size w W0 := by
        rw [hW0]
        exact ((((hbel.trans (hb2.mono hbel.size)).setCell (p := ⟨w.heap.size, 0, none⟩) (Nat.le_refl _) _).setCell (p := ⟨w.heap.size, 1, none⟩) (Nat.le_refl _) _).setCell (p := ⟨w.heap.size, 2, none⟩) (Nat.le_refl _) _).drew
      have hkW : ∀ b, b < w1.heap.size → b ≠ w.heap.size → W0.heap[b]? = w1.heap[b]? := fun b h1 h2 => ((hot b h2).trans (hb2.block b (by omega))).trans (hkeep b h1 h2)
      have HOW : Hid (W0.ownsRow w1.heap.size 3 1 u3 ll (ints l)) := owns_same (ownsRow_below hown hb2) (fun b hb => hot b (by have := (hown.lt b hb).1; omega))
      rw [← hW0]
      clear hW0 hot HKBX HKS0 e0 e1 e2 e4 s0 b0 b1 b2 f0 f1 f2 hb2 hown hkeep hbox hrd0 hr hbel t0 t1 hrp hrt hcat
      have HPO := hid (cPlaceOf_any c pa pcap ta tcap (0 : Int) x2 W0 (HRP.out.below hbW))
      obtain ⟨pc, hpc⟩ : ∃ v, v = placeOf (0 : Int) x2 c.places := ⟨_, rfl⟩
      rw [← hpc] at HPO HR
      have hpcl : pc ≤ 1000 := by rw [hpc]; exact Nat.le_trans (placeOf_le _ _ _) HBC.out.2.1
      clear hpc
      obtain ⟨c1, ⟨c2, c3⟩, c4, c5⟩ : 0 ≤ c.first ∧ (c.first ≤ 1000 ∧ True) ∧ c.places.length ≤ 1000 ∧ c.tree.length ≤ 1000 := ⟨HBC.out.1.1, ⟨HBC.out.1.2, trivial⟩, HBC.out.2.1, HBC.out.2.2⟩
      have z0 : W0.cell? ⟨w.heap.size, 0, none⟩ = some (.int .i64 c.first) := by simp [World.cell?, kW]
      have z1 : W0.cell? ⟨w.heap.size, 1, none⟩ = some (.slice pa c.places.length pcap) := by simp [World.cell?, kW]
      have z2 : W0.cell? ⟨w.heap.size, 2, none⟩ = some (.slice ta c.tree.length tcap) := by simp [World.cell?, kW]
      have y1 : W0.cell? ⟨wr.heap.size, 1, none⟩ = some (.int .i64 x2) := by simp [World.cell?, kS]
      have HKW := hid kW
      have HKK := hid hkW
      have ltc := (Array.getElem?_eq_some_iff.1 kW).1
      clear kW kS hkW
      go_wp2_with fail
      refine HPO.out.mono ?_
      clear HPO z0 z1 z2 y1
      rintro e W1 ⟨rfl, hb1'⟩
      have kW1 := (hb1'.block w.heap.size ltc).trans HKW.out
      have hsW1 := hb1'.size
      have hbW1 : Below w.heap.size w W1 := hbW.trans (hb1'.mono hbW.size)
      have hkW1 : ∀ b, b < w1.heap.size → b ≠ w.heap.size → W1.heap[b]? = w1.heap[b]? := fun b h1 h2 => (hb1'.block b (by omega)).trans (HKK.out b h1 h2)
      have how1 := ownsRow_below HOW.out hb1'
      have HOW1 := hid how1
      have z0 : W1.cell? ⟨w.heap.size, 0, none⟩ = some (.int .i64 c.first) := by simp [World.cell?, kW1]
      have z1 : W1.cell? ⟨w.heap.size, 1, none⟩ = some (.slice pa c.places.length pcap) := by simp [World.cell?, kW1]
      have z2 : W1.cell? ⟨w.heap.size, 2, none⟩ = some (.slice ta c.tree.length tcap) := by simp [World.cell?, kW1]
      have ltc1 := (Array.getElem?_eq_some_iff.1 kW1).1
      have ewn : IntKind.i64.wrap ((ns : Int) - 1) = (ns : Int) - 1 := by rw [IntKind.wrap_i64]; omega
      have ewp : IntKind.i64.wrap (c.first + pc) = c.first + pc := by rw [IntKind.wrap_i64]; omega
      have ewq : IntKind.i64.wrap (c.first + pc + 1) = c.first + pc + 1 := by rw [IntKind.wrap_i64]; omega
      have HKW1 := hid kW1
      have HKK1 := hid hkW1
      have HBW1 := hid hbW1
      clear HKW HKK HOW kW1 how1 hkW1 hbW1
      by_cases hlast : j + 1 = ns
      · have hl1 : ((j : Int) == (ns : Int) - 1) = true := by simp; omega
        have hfin : res = l ++ [c.first + pc] := by
          have h := HR.out
          rw [if_pos (by rw [List.length_drop, ← HNS.out]; omega)] at h
          exact h
        have HFN := hid hfin
        obtain ⟨i0, hi, hz0, hz1, hz2⟩ := info_parts Tryz.infoInt
        clear hfin HR
        go_wp2_with (at_builtin; refine wpList_append_own _ rfl (.tmp 41) (.tmp 46) 25 rfl w1.heap.size 3 i0 (.int .i64 0) 1 8 Tryz.underlying25 hi hz0 hz1 hz2 rfl (by decide) _ _ _ rfl (HOW1.out.alloc _) ⟨W1.heap.size, 0, none⟩ 1 1 [.int .i64 (c.first + pc)] rfl rfl (new1_at rfl _ _) (one1 _) (by unfold maxLen; omega) (by omega) (by simp; omega) ?_)
        intro v5 w5 hown5 hgrow5 _
        have hb5 : Below w.heap.size w w5 := (HBW1.out.alloc (by omega) _).grown hgrow5 (by simp; omega) (fun k hk => by have := (HOW1.out.lt k hk).1; omega)
        have hil : ints l ++ [.int .i64 (c.first + pc)] = ints res := by rw [HFN.out]; simp [ints]
        rw [hil] at hown5
        obtain ⟨ra, rcap, rfl, hrdI⟩ := rdI_of_owns hown5 (by rw [HFN.out, List.length_append, HLL.out]; rfl)
        have hrl : res.length = ll + 1 := by rw [HFN.out, List.length_append, HLL.out]; rfl
        have HRV := hid (reversed_any ra rcap res w5 (by rw [hrl]; exact hrdI) (by omega))
        rw [hrl] at HRV
        have HB5 := hid hb5
        have HRL := hid hrl
        have hsw5 := hb5.size
        clear hown5 hgrow5 hb5 hil hrdI hrl HFN HOW1 hi hz0 hz1 hz2 z0 z1 z2 ewn ewp ewq
        go_wp2_with fail
        refine HRV.out.mono ?_
        clear HRV
        rintro e w6 ⟨fa, fcap, rfl, ho6, hb6⟩
        have HO6 := hid (owns_lower ho6 (base' := w.heap.size) hsw5)
        have HB6 := hid (HB5.out.trans (hb6.mono hsw5))
        clear ho6 hb6
        go_wp2
        exact bodyPost_ret (v := .slice fa (ll + 1) fcap) (by simp [results, Tryz.results27, go_sem]) rfl ⟨fa, fcap, by rw [List.length_reverse, HRL.out], by rw [List.length_reverse, HRL.out]; exact HO6.out, HB6.out⟩
      · have hl1 : ((j : Int) == (ns : Int) - 1) = false := by simp; omega
        have HBG := hid (begunAt_any c pa pcap ta tcap (pc : Int) W1 (HRT.out.below HBW1.out) (by omega))
        obtain ⟨k2, hk2⟩ : ∃ v, v = begunAt (pc : Int) c.tree 0 := ⟨_, rfl⟩
        have hk2l : k2 ≤ 1000 := by rw [hk2]; exact Nat.le_trans (begunAt_le _ _ _) (by omega)
        rw [← hk2] at HBG
        have hres2 : res = if k2 = 0 then pcsF cs' (sp.drop (j + 1)) c 0 (l ++ [c.first + pc + 1]) else pcsF cs' (sp.drop (j + 1)) c k2 l := by
          have h := HR.out
          rw [if_neg (by rw [List.length_drop, ← HNS.out]; omega), ← hk2] at h
          exact h
        have HR2 := hid hres2
        clear hk2 HR hres2
        go_wp2_with fail
        refine HBG.out.mono ?_
        clear HBG z0 z1 z2
        rintro e W2 ⟨rfl, hb2'⟩
        have kW2 := (hb2'.block w.heap.size ltc1).trans HKW1.out
        have hsW2 := hb2'.size
        have hbW2 : Below w.heap.size w W2 := HBW1.out.trans (hb2'.mono HBW1.out.size)
        have hkW2 : ∀ b, b < w1.heap.size → b ≠ w.heap.size → W2.heap[b]? = w1.heap[b]? := fun b h1 h2 => (hb2'.block b (by omega)).trans (HKK1.out b h1 h2)
        have HOW2 := hid (ownsRow_below HOW1.out hb2')
        have z0 : W2.cell? ⟨w.heap.size, 0, none⟩ = some (.int .i64 c.first) := by simp [World.cell?, kW2]
        have ltc2 := (Array.getElem?_eq_some_iff.1 kW2).1
        have HKW2 := hid kW2
        have HKK2 := hid hkW2
        have HBW2 := hid hbW2
        clear HKW1 HKK1 HBW1 HOW1 kW2 hkW2 hbW2
        by_cases hkz : k2 = 0
        · subst hkz
          have HR3 : Hid (res = pcsF cs' (sp.drop (j + 1)) c 0 (l ++ [c.first + pc + 1])) := by
            have h := HR2.out
            rw [if_pos rfl] at h
            exact h
          obtain ⟨i0, hi, hz0, hz1, hz2⟩ := info_parts Tryz.infoInt
          clear HR2
          go_wp2_with (at_builtin; refine wpList_append_own _ rfl (.tmp 53) (.tmp 59) 25 rfl w1.heap.size 3 i0 (.int .i64 0) 1 8 Tryz.underlying25 hi hz0 hz1 hz2 rfl (by decide) _ _ _ rfl (HOW2.out.alloc _) ⟨W2.heap.size, 0, none⟩ 1 1 [.int .i64 (c.first + pc + 1)] rfl rfl (new1_at rfl _ _) (one1 _) (by unfold maxLen; omega) (by omega) (by simp; omega) ?_)
          intro v5 w5 hown5 hgrow5 _
          have hb5 : Below w.heap.size w w5 := (HBW2.out.alloc (by omega) _).grown hgrow5 (by simp; omega) (fun k hk => by have := (HOW2.out.lt k hk).1; omega)
          have hil : ints l ++ [.int .i64 (c.first + pc + 1)] = ints (l ++ [c.first + pc + 1]) := by simp [ints]
          rw [hil] at hown5
          have hne5 : ∀ b, b < w1.heap.size → w5.heap[b]? = W2.heap[b]? := fun b h1 => (hgrow5.block b (by simp; omega) (fun e => by have := (HOW2.out.lt b e.symm).1; omega)).trans (heap_alloc_old _ _ (by omega))
          have g1 := (hne5 w.heap.size (by omega)).trans HKW2.out
          have g2 : ∀ b, b < w1.heap.size → b ≠ w.heap.size → w5.heap[b]? = w1.heap[b]? := fun b h1 h2 => (hne5 b h1).trans (HKK2.out b h1 h2)
          have g3 : w1.heap.size ≤ w5.heap.size := by have := hgrow5.size; simp at this; omega
          have HREL := hid (⟨hown5, hb5, g1, g2, g3⟩ : _ ∧ _ ∧ _ ∧ _ ∧ _)
          clear hown5 hgrow5 hb5 hil hne5 g1 g2 g3 HOW2 HBW2 HKW2 HKK2 hi hz0 hz1 hz2 z0 ewn ewp ewq
          go_wp2
          go_roundw
          case rel =>
            obtain ⟨x1, x2, x3, x4, x5⟩ := HREL.out
            exact ⟨j + 1, 0, c, l ++ [c.first + pc + 1], pa, pcap, ta, tcap, by go_num, rfl, by omega, by omega, by rw [List.length_append, HLL.out]; show ll + 1 ≤ j + 1; omega, HR3.out, x2, x4, x5, x3, fun h => absurd rfl h, by rw [List.length_append, HLL.out]; exact x1⟩
          case measure => simp [intOf]; omega
        · have hkz' : ((k2 : Int) == 0) = false := by simp; omega
          have HR3 : Hid (res = pcsF cs' (sp.drop (j + 1)) c k2 l) := by
            have h := HR2.out
            rw [if_neg hkz] at h
            exact h
          clear HR2
          go_wp2
          go_roundw
          case rel => exact ⟨j + 1, k2, c, l, pa, pcap, ta, tcap, by go_num, rfl, by omega, by omega, by rw [HLL.out]; omega, HR3.out, HBW2.out, HKK2.out, by omega, HKW2.out, fun _ => ⟨HRP.out, HRT.out, HBC.out⟩, by rw [HLL.out]; exact HOW2.out⟩
          case measure => simp [intOf]; omega
    · have hcat : codeAt cs' (fN : Int) c0 k = c0 := by unfold codeAt; rw [if_neg hk0]
      unfold pcsF at hr
      rw [hcat] at hr
      obtain ⟨hrp, hrt, hbc⟩ := hrd0 hk0
      have HBC := hid hbc
      have HRP := hid hrp
      have HRT := hid hrt
      have HR := hid hr
      have hk0' : ((k : Int) == 0) = false := by simp; omega
      obtain ⟨W0, hW0⟩ : ∃ v, v = wr.alloc (Obj.cells #[.int .i64 fN, .int .i64 x2] 107) := ⟨_, rfl⟩
      have hb2 : Below wr.heap.size wr W0 := by rw [hW0]; exact (Below.refl _ _).alloc (Nat.le_refl _) _
      have hsW : W0.heap.size = wr.heap.size + 1 := by rw [hW0]; simp
      have kS : W0.heap[wr.heap.size]? = some (.cells #[.int .i64 fN, .int .i64 x2] 107 (0, 0)) := by rw [hW0]; exact heap_new_at rfl
      have kW := (hb2.block w.heap.size ltw).trans hbox
      have hbW : Below w.heap.size w W0 := hbel.trans (hb2.mono hbel.size)
      have hkW : ∀ b, b < w1.heap.size → b ≠ w.heap.size → W0.heap[b]? = w1.heap[b]? := fun b h1 h2 => (hb2.block b (by omega)).trans (hkeep b h1 h2)
      have HOW : Hid (W0.ownsRow w1.heap.size 3 1 u3 ll (ints l)) := ownsRow_below hown hb2
      have HT := hid hW0
      clear hW0 hb2 hown hkeep hbox hrd0 hr hbel hrp hrt hcat hbc
      have HPO := hid (cPlaceOf_any c0 pa0 pcap0 ta0 tcap0 (k : Int) x2 W0 (HRP.out.below hbW))
      obtain ⟨pc, hpc⟩ : ∃ v, v = placeOf (k : Int) x2 c0.places := ⟨_, rfl⟩
      rw [← hpc] at HPO HR
      have hpcl : pc ≤ 1000 := by rw [hpc]; exact Nat.le_trans (placeOf_le _ _ _) HBC.out.2.1
      clear hpc
      obtain ⟨c1, ⟨c2, c3⟩, c4, c5⟩ : 0 ≤ c0.first ∧ (c0.first ≤ 1000 ∧ True) ∧ c0.places.length ≤ 1000 ∧ c0.tree.length ≤ 1000 := ⟨HBC.out.1.1, ⟨HBC.out.1.2, trivial⟩, HBC.out.2.1, HBC.out.2.2⟩
      have z0 : W0.cell? ⟨w.heap.size, 0, none⟩ = some (.int .i64 c0.first) := by simp [World.cell?, kW]
      have z1 : W0.cell? ⟨w.heap.size, 1, none⟩ = some (.slice pa0 c0.places.length pcap0) := by simp [World.cell?, kW]
      have z2 : W0.cell? ⟨w.heap.size, 2, none⟩ = some (.slice ta0 c0.tree.length tcap0) := by simp [World.cell?, kW]
      have y1 : W0.cell? ⟨wr.heap.size, 1, none⟩ = some (.int .i64 x2) := by simp [World.cell?, kS]
      have HKW := hid kW
      have HKK := hid hkW
      have ltc := (Array.getElem?_eq_some_iff.1 kW).1
      clear kW kS hkW
      rw [HT.out] at z0 z1 z2 y1
      go_wp2_with fail
      rw [← HT.out]
      clear HT
      refine HPO.out.mono ?_
      clear HPO z0 z1 z2 y1
      rintro e W1 ⟨rfl, hb1'⟩
      have kW1 := (hb1'.block w.heap.size ltc).trans HKW.out
      have hsW1 := hb1'.size
      have hbW1 : Below w.heap.size w W1 := hbW.trans (hb1'.mono hbW.size)
      have hkW1 : ∀ b, b < w1.heap.size → b ≠ w.heap.size → W1.heap[b]? = w1.heap[b]? := fun b h1 h2 => (hb1'.block b (by omega)).trans (HKK.out b h1 h2)
      have how1 := ownsRow_below HOW.out hb1'
      have HOW1 := hid how1
      have z0 : W1.cell? ⟨w.heap.size, 0, none⟩ = some (.int .i64 c0.first) := by simp [World.cell?, kW1]
      have z1 : W1.cell? ⟨w.heap.size, 1, none⟩ = some (.slice pa0 c0.places.length pcap0) := by simp [World.cell?, kW1]
      have z2 : W1.cell? ⟨w.heap.size, 2, none⟩ = some (.slice ta0 c0.tree.length tcap0) := by simp [World.cell?, kW1]
      have ltc1 := (Array.getElem?_eq_some_iff.1 kW1).1
      have ewn : IntKind.i64.wrap ((ns : Int) - 1) = (ns : Int) - 1 := by rw [IntKind.wrap_i64]; omega
      have ewp : IntKind.i64.wrap (c0.first + pc) = c0.first + pc := by rw [IntKind.wrap_i64]; omega
      have ewq : IntKind.i64.wrap (c0.first + pc + 1) = c0.first + pc + 1 := by rw [IntKind.wrap_i64]; omega
      have HKW1 := hid kW1
      have HKK1 := hid hkW1
      have HBW1 := hid hbW1
      clear HKW HKK HOW kW1 how1 hkW1 hbW1
      by_cases hlast : j + 1 = ns
      · have hl1 : ((j : Int) == (ns : Int) - 1) = true := by simp; omega
        have hfin : res = l ++ [c0.first + pc] := by
          have h := HR.out
          rw [if_pos (by rw [List.length_drop, ← HNS.out]; omega)] at h
          exact h
        have HFN := hid hfin
        obtain ⟨i0, hi, hz0, hz1, hz2⟩ := info_parts Tryz.infoInt
        clear hfin HR
        go_wp2_with (at_builtin; refine wpList_append_own _ rfl (.tmp 41) (.tmp 46) 25 rfl w1.heap.size 3 i0 (.int .i64 0) 1 8 Tryz.underlying25 hi hz0 hz1 hz2 rfl (by decide) _ _ _ rfl (HOW1.out.alloc _) ⟨W1.heap.size, 0, none⟩ 1 1 [.int .i64 (c0.first + pc)] rfl rfl (new1_at rfl _ _) (one1 _) (by unfold maxLen; omega) (by omega) (by simp; omega) ?_)
        intro v5 w5 hown5 hgrow5 _
        have hb5 : Below w.heap.size w w5 := (HBW1.out.alloc (by omega) _).grown hgrow5 (by simp; omega) (fun k hk => by have := (HOW1.out.lt k hk).1; omega)
        have hil : ints l ++ [.int .i64 (c0.first + pc)] = ints res := by rw [HFN.out]; simp [ints]
        rw [hil] at hown5
        obtain ⟨ra, rcap, rfl, hrdI⟩ := rdI_of_owns hown5 (by rw [HFN.out, List.length_append, HLL.out]; rfl)
        have hrl : res.length = ll + 1 := by rw [HFN.out, List.length_append, HLL.out]; rfl
        have HRV := hid (reversed_any ra rcap res w5 (by rw [hrl]; exact hrdI) (by omega))
        rw [hrl] at HRV
        have HB5 := hid hb5
        have HRL := hid hrl
        have hsw5 := hb5.size
        clear hown5 hgrow5 hb5 hil hrdI hrl HFN HOW1 hi hz0 hz1 hz2 z0 z1 z2 ewn ewp ewq
        go_wp2_with fail
        refine HRV.out.mono ?_
        clear HRV
        rintro e w6 ⟨fa, fcap, rfl, ho6, hb6⟩
        have HO6 := hid (owns_lower ho6 (base' := w.heap.size) hsw5)
        have HB6 := hid (HB5.out.trans (hb6.mono hsw5))
        clear ho6 hb6
        go_wp2
        exact bodyPost_ret (v := .slice fa (ll + 1) fcap) (by simp [results, Tryz.results27, go_sem]) rfl ⟨fa, fcap, by rw [List.length_reverse, HRL.out], by rw [List.length_reverse, HRL.out]; exact HO6.out, HB6.out⟩
      · have hl1 : ((j : Int) == (ns : Int) - 1) = false := by simp; omega
        have HBG := hid (begunAt_any c0 pa0 pcap0 ta0 tcap0 (pc : Int) W1 (HRT.out.below HBW1.out) (by omega))
        obtain ⟨k2, hk2⟩ : ∃ v, v = begunAt (pc : Int) c0.tree 0 := ⟨_, rfl⟩
        have hk2l : k2 ≤ 1000 := by rw [hk2]; exact Nat.le_trans (begunAt_le _ _ _) (by omega)
        rw [← hk2] at HBG
        have hres2 : res = if k2 = 0 then pcsF cs' (sp.drop (j + 1)) c0 0 (l ++ [c0.first + pc + 1]) else pcsF cs' (sp.drop (j + 1)) c0 k2 l := by
          have h := HR.out
          rw [if_neg (by rw [List.length_drop, ← HNS.out]; omega), ← hk2] at h
          exact h
        have HR2 := hid hres2
        clear hk2 HR hres2
        go_wp2_with fail
        refine HBG.out.mono ?_
        clear HBG z0 z1 z2
        rintro e W2 ⟨rfl, hb2'⟩
        have kW2 := (hb2'.block w.heap.size ltc1).trans HKW1.out
        have hsW2 := hb2'.size
        have hbW2 : Below w.heap.size w W2 := HBW1.out.trans (hb2'.mono HBW1.out.size)
        have hkW2 : ∀ b, b < w1.heap.size → b ≠ w.heap.size → W2.heap[b]? = w1.heap[b]? := fun b h1 h2 => (hb2'.block b (by omega)).trans (HKK1.out b h1 h2)
        have HOW2 := hid (ownsRow_below HOW1.out hb2')
        have z0 : W2.cell? ⟨w.heap.size, 0, none⟩ = some (.int .i64 c0.first) := by simp [World.cell?, kW2]
        have ltc2 := (Array.getElem?_eq_some_iff.1 kW2).1
        have HKW2 := hid kW2
        have HKK2 := hid hkW2
        have HBW2 := hid hbW2
        clear HKW1 HKK1 HBW1 HOW1 kW2 hkW2 hbW2
        by_cases hkz : k2 = 0
        · subst hkz
          have HR3 : Hid (res = pcsF cs' (sp.drop (j + 1)) c0 0 (l ++ [c0.first + pc + 1])) := by
            have h := HR2.out
            rw [if_pos rfl] at h
            exact h
          obtain ⟨i0, hi, hz0, hz1, hz2⟩ := info_parts Tryz.infoInt
          clear HR2
          go_wp2_with (at_builtin; refine wpList_append_own _ rfl (.tmp 53) (.tmp 59) 25 rfl w1.heap.size 3 i0 (.int .i64 0) 1 8 Tryz.underlying25 hi hz0 hz1 hz2 rfl (by decide) _ _ _ rfl (HOW2.out.alloc _) ⟨W2.heap.size, 0, none⟩ 1 1 [.int .i64 (c0.first + pc + 1)] rfl rfl (new1_at rfl _ _) (one1 _) (by unfold maxLen; omega) (by omega) (by simp; omega) ?_)
          intro v5 w5 hown5 hgrow5 _
          have hb5 : Below w.heap.size w w5 := (HBW2.out.alloc (by omega) _).grown hgrow5 (by simp; omega) (fun k hk => by have := (HOW2.out.lt k hk).1; omega)
          have hil : ints l ++ [.int .i64 (c0.first + pc + 1)] = ints (l ++ [c0.first + pc + 1]) := by simp [ints]
          rw [hil] at hown5
          have hne5 : ∀ b, b < w1.heap.size → w5.heap[b]? = W2.heap[b]? := fun b h1 => (hgrow5.block b (by simp; omega) (fun e => by have := (HOW2.out.lt b e.symm).1; omega)).trans (heap_alloc_old _ _ (by omega))
          have g1 := (hne5 w.heap.size (by omega)).trans HKW2.out
          have g2 : ∀ b, b < w1.heap.size → b ≠ w.heap.size → w5.heap[b]? = w1.heap[b]? := fun b h1 h2 => (hne5 b h1).trans (HKK2.out b h1 h2)
          have g3 : w1.heap.size ≤ w5.heap.size := by have := hgrow5.size; simp at this; omega
          have HREL := hid (⟨hown5, hb5, g1, g2, g3⟩ : _ ∧ _ ∧ _ ∧ _ ∧ _)
          clear hown5 hgrow5 hb5 hil hne5 g1 g2 g3 HOW2 HBW2 HKW2 HKK2 hi hz0 hz1 hz2 z0 ewn ewp ewq
          go_wp2
          go_roundw
          case rel =>
            obtain ⟨x1, x2, x3, x4, x5⟩ := HREL.out
            exact ⟨j + 1, 0, c0, l ++ [c0.first + pc + 1], pa0, pcap0, ta0, tcap0, by go_num, rfl, by omega, by omega, by rw [List.length_append, HLL.out]; show ll + 1 ≤ j + 1; omega, HR3.out, x2, x4, x5, x3, fun h => absurd rfl h, by rw [List.length_append, HLL.out]; exact x1⟩
          case measure => simp [intOf]; omega
        · have hkz' : ((k2 : Int) == 0) = false := by simp; omega
          have HR3 : Hid (res = pcsF cs' (sp.drop (j + 1)) c0 k2 l) := by
            have h := HR2.out
            rw [if_neg hkz] at h
            exact h
          clear HR2
          go_wp2
          go_roundw
          case rel => exact ⟨j + 1, k2, c0, l, pa0, pcap0, ta0, tcap0, by go_num, rfl, by omega, by omega, by rw [HLL.out]; omega, HR3.out, HBW2.out, HKK2.out, by omega, HKW2.out, fun _ => ⟨HRP.out, HRT.out, HBC.out⟩, by rw [HLL.out]; exact HOW2.out⟩
          case measure => simp [intOf]; omega

set_option maxHeartbeats 4000000 in
set_option maxRecDepth 100000 in
theorem uPcs_any (p : List FnD) (bud : Int) (mb : Nat) (X : RX) (w0 : World) (s : StandD) (w : World) (cs : List CodeD) (hcs : codesD p bud = some cs) (hgd : Good (strip p)) (hw : Wf (strip p) s) (hm : MachAt p bud mb X w0 w s) :
    Calls Tryz.prog 16 #[.pointer (some ⟨mb, 0, none⟩)] w fun e w' => ∃ a cap, e = .returned (.slice a (pcsD cs s.live).length cap) ∧
      w'.ownsRow w.heap.size 3 1 (.slice a (pcsD cs s.live).length cap) (pcsD cs s.live).length (ints (pcsD cs s.live)) ∧ Below w.heap.size w w' := by
  have HS := hid (mPcs_any p bud mb X w0 s w cs hcs hgd hw hm)
  clear hm hgd hw hcs
  generalize pcsD cs s.live = l at *
  obtain ⟨n, hn⟩ : ∃ v, v = l.length := ⟨_, rfl⟩
  rw [← hn] at HS ⊢
  clear hn
  go_enter Tryz.func16, Tryz.ntmps16
  go_wp2_with fail
  refine HS.out.mono ?_
  clear HS
  rintro e w1 ⟨a, cap, rfl, ho, hb⟩
  have HO := hid ho
  have HB := hid hb
  clear ho hb
  go_wp2
  exact bodyPost_ret (v := .slice a n cap) (by simp [results, Tryz.results16, go_sem]) rfl ⟨a, cap, rfl, HO.out, HB.out⟩
end Go.Proofs.YthaganponmnanaaGreatDoor
namespace Go.Proofs.YthaganponmnanaaGreatDoor
open Go.RowKit

def mkB : ByteArray := ⟨#[109, 97, 114, 107]⟩
def markD (i : Nat) : FrameD := ⟨mkB, mkB, (i : Int)⟩
def fsW (v : Value) : Array Value := #[.slice none 0 0, .slice none 0 0, .slice none 0 0, .slice none 0 0, .slice none 0 0, v, .slice none 0 0, .slice none 0 0, .slice none 0 0]
theorem ownsRow_form {w : World} {base : Nat} {e : TypeId} {size : Nat} {v : Value} {n : Nat} {xs : List Value} (h : w.ownsRow base e size v n xs) : ∃ a cap, v = .slice a n cap ∧ n ≤ cap ∧ cap ≤ maxLen ∧ (0 < n → ∃ gv, a = some ⟨gv, 0, none⟩) := by
  rcases h.2 with ⟨rfl, rfl⟩ | ⟨g, cap, cur, rfl, _, _, h1, h2, _⟩
  · exact ⟨none, 0, rfl, Nat.le_refl _, by unfold maxLen; omega, fun h => by omega⟩
  · exact ⟨_, cap, rfl, h1, h2, fun _ => ⟨g, rfl⟩⟩

end Go.Proofs.YthaganponmnanaaGreatDoor
namespace Go.Proofs.YthaganponmnanaaGreatDoor
open Go.RowKit

theorem Tryz.infoFrames : (Tryz.prog.info? 57).map (fun i => (i.zero, i.size, i.bytes)) = some (some (.slice none 0 0), 1, 24) := by kernel_rfl

theorem set3 (L R : List Value) (x0 x1 x2 a b c : Value) (k : Nat) (hk : L.length = k) : (((L ++ x0 :: x1 :: x2 :: R).set k a).set (k + 1) b).set (k + 2) c = L ++ a :: b :: c :: R := by
  subst hk
  simp
theorem drop3 (l : List Value) (k : Nat) (h : k + 3 ≤ l.length) : ∃ x0 x1 x2, l.drop k = x0 :: x1 :: x2 :: l.drop (k + 3) := by
  refine ⟨l[k]'(by omega), l[k + 1]'(by omega), l[k + 2]'(by omega), ?_⟩
  rw [List.drop_eq_getElem_cons (by omega), List.drop_eq_getElem_cons (i := k + 1) (by omega), List.drop_eq_getElem_cons (i := k + 1 + 1) (by omega)]

end Go.Proofs.YthaganponmnanaaGreatDoor
