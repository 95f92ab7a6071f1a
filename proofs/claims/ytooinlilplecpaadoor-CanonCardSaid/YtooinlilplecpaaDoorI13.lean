/- The contract of the developers' image.WellFormed where an image is well-formed: true; nothing that was there is written. -/
import Derived.Test.YtooinlilplecpaaDoorI12
namespace Go.Proofs.YtooinlilplecpaaDoor
open Go.RowKit

theorem entOk_parts {n : Int} {x : EntD} {names : List ByteArray} {room : Int} (h : entOk n x names room = true) : newB x.name names = true ∧ wordB x.file = true ∧ wfT x.lines = true ∧ wfT x.index = true ∧ linesB x.lines room = true ∧ sumS x.index = sumS x.lines ∧ (x.tree.length : Int) = mostT x.index ∧ treeOk n (unroll x.index) x.tree 1 (-1) = true := by
  unfold entOk at h
  simp only [Bool.and_eq_true] at h
  obtain ⟨⟨h1, h2⟩, ⟨⟨h3, h4⟩, h5, h6⟩, h7, h8⟩ := h
  exact ⟨h1, h2, h3, h4, h5, by simpa using h6, by simpa using h7, h8⟩
theorem wordB_size {s : ByteArray} (h : wordB s = true) : s.size ≤ 20 := by
  unfold wordB at h
  rw [Bool.and_eq_true] at h
  exact (of_decide_eq_true h.1).2
theorem RdI.at {w : World} {a : Option Addr} {len cap : Nat} {l : List EntD} (h : RdI w a len cap l) {k : Nat} {x : EntD} (hx : l[k]? = some x) : ∃ b off la lcap xa xcap ta tcap, a = some ⟨b, off, none⟩ ∧ w.cell? ⟨b, off + k * 5, none⟩ = some (.string x.name) ∧ w.cell? ⟨b, off + k * 5 + 1, none⟩ = some (.string x.file) ∧ w.cell? ⟨b, off + k * 5 + 2, none⟩ = some (.slice la x.lines.length lcap) ∧ w.cell? ⟨b, off + k * 5 + 3, none⟩ = some (.slice xa x.index.length xcap) ∧ w.cell? ⟨b, off + k * 5 + 4, none⟩ = some (.slice ta x.tree.length tcap) ∧ RdS w la x.lines.length lcap x.lines ∧ RdS w xa x.index.length xcap x.index ∧ RdS w ta x.tree.length tcap x.tree := by
  obtain ⟨b, off, cs, e, _, hc, la, lcap, xa, xcap, ta, tcap, rfl, h1, h2, h3, _⟩ := h.2.2.2 k x hx
  exact ⟨b, off, la, lcap, xa, xcap, ta, tcap, e, hc 0 _ rfl, hc 1 _ rfl, hc 2 _ rfl, hc 3 _ rfl, hc 4 _ rfl, h1, h2, h3⟩
theorem wfIF_drop {n : Int} {l : List EntD} {k : Nat} {x : EntD} {names : List ByteArray} {room : Int} (h : wfIF n (l.drop k) names room = true) (hx : l[k]? = some x) : entOk n x names room = true ∧ wfIF n (l.drop (k + 1)) (names ++ [x.name]) (room - sumS x.lines) = true := by
  obtain ⟨hk, e⟩ := List.getElem?_eq_some_iff.1 hx
  rw [List.drop_eq_getElem_cons hk, e] at h
  unfold wfIF at h
  rw [Bool.and_eq_true] at h
  exact h

set_option maxHeartbeats 4000000 in
set_option maxRecDepth 100000 in
theorem iwf_true (fa : Option Addr) (len fcap : Nat) (l : List EntD) (w : World) (hr : RdI w fa len fcap l) (hwf : wfI l = true) :
    Calls Tryd.prog 15 #[.agg #[.slice fa len fcap]] w fun e w' => e = .returned (.bool true) ∧ Below w.heap.size w w' := by
  have HL := hid hr.1
  have hcap := hr.2.1
  have hmax := hr.2.2.1
  unfold maxLen at hmax
  unfold wfI at hwf
  rw [Bool.and_eq_true, HL.out] at hwf
  have h12 := of_decide_eq_true hwf.1
  have HWF := hid hwf.2
  have HCM := hid (fun W => countMayBe_any (len : Int) W)
  have hcb : cntB (len : Int) = true := by unfold cntB; simp; omega
  rw [hcb] at HCM
  obtain ⟨wA, hwA⟩ : ∃ wA, wA = w.alloc (Obj.cells #[.slice fa len fcap] 26) := ⟨_, rfl⟩
  have hbA : Below w.heap.size w wA := by rw [hwA]; exact (Below.refl _ _).alloc (Nat.le_refl _) _
  have heA : wA.heap[w.heap.size]? = some (.cells #[.slice fa len fcap] 26 (0, 0)) := by rw [hwA]; exact heap_alloc_new _ _
  have hsA : wA.heap.size = w.heap.size + 1 := by rw [hwA]; simp
  obtain ⟨i0, hif, hz0, hz1, hz2⟩ := info_parts Tryd.infoString
  have HR := hid hr
  have HE := hid heA
  have HBA := hid hbA
  have HSA := hid hsA
  clear hr hwf hcb heA hbA hsA
  go_enter Tryd.func15, Tryd.ntmps15
  go_wp2_with (go_at_call 12; refine (HCM.out _).mono ?_; rintro e w' ⟨rfl, rfl⟩)
  rw [← hwA]
  clear hwA
  go_loopw [3, 4, 15] (fun nv rm i wr => ∃ (k : Nat) (names : List ByteArray) (room : Int), i = .int .i64 k ∧ rm = .int .i64 room ∧ k ≤ len ∧ names.length = k ∧ (∀ x ∈ names, x.size ≤ 20) ∧ 0 ≤ room ∧ room ≤ 1000 ∧ wfIF (len : Int) (l.drop k) names room = true ∧ wr.ownsRow w.heap.size 9 1 nv k (strs names) ∧ Below wA.heap.size wA wr) (fun _ _ i _ => len - (intOf i).toNat)
  case atStart => exact ⟨0, [], 1000, rfl, rfl, by omega, rfl, fun x hx => by simp at hx, by omega, by omega, HWF.out, World.ownsRow_nil _ _ _ _, Below.refl _ _⟩
  case round =>
    clear HWF
    obtain ⟨k, names, room, rfl, rfl, hk, hnl, hn20, hr0, hr1, hwk, hown, hbel⟩ := hrel
    have hsz := hbel.size
    have hsA := HSA.out
    have hbw : Below w.heap.size w wr := HBA.out.trans (hbel.mono (by omega))
    have hew := (hbel.block w.heap.size (by omega)).trans HE.out
    obtain ⟨na, ncap, rfl, hnt, -⟩ := rdT_of_owns hown hnl hn20
    by_cases hlt : k < len
    · obtain ⟨x, hx⟩ : ∃ x, l[k]? = some x := ⟨_, List.getElem?_eq_getElem (by rw [HL.out]; exact hlt)⟩
      obtain ⟨hok, hwk2⟩ := wfIF_drop hwk hx
      obtain ⟨p1, p2, p3, p4, p5, p6, p7, p8⟩ := entOk_parts hok
      obtain ⟨b, off, la, lcap, xa, xcap, ta, tcap, rfl, d0, d1, d2, d3, d4, hslw, hsxw, hstw⟩ := HR.out.at hx
      have hbltw := World.block_lt_of_cell? w _ d0
      simp only at hbltw
      have c0 := (hbw.cell (p := ⟨b, off + k * 5, none⟩) hbltw).trans d0
      have c1 := (hbw.cell (p := ⟨b, off + k * 5 + 1, none⟩) hbltw).trans d1
      have c2 := (hbw.cell (p := ⟨b, off + k * 5 + 2, none⟩) hbltw).trans d2
      have c3 := (hbw.cell (p := ⟨b, off + k * 5 + 3, none⟩) hbltw).trans d3
      have c4 := (hbw.cell (p := ⟨b, off + k * 5 + 4, none⟩) hbltw).trans d4
      have hsl := hslw.below hbw (Nat.le_refl _)
      have hsx := hsxw.below hbw (Nat.le_refl _)
      have hst := hstw.below hbw (Nat.le_refl _)
      have HSLW := hid hslw
      have hblt : b < wr.heap.size := by have := hbw.size; omega
      clear d0 d1 d2 d3 d4 hslw hsxw hstw
      have hwl : wfS x.lines (-1) 1000 = true := by unfold wfT at p3; rw [Bool.and_eq_true] at p3; exact p3.1
      have hwi : wfS x.index (-1) 1000 = true := by unfold wfT at p4; rw [Bool.and_eq_true] at p4; exact p4.1
      have hsum := unroll_all_len hwl
      have hroom : sumS x.lines ≤ room := by unfold linesB at p5; rw [Bool.and_eq_true] at p5; exact of_decide_eq_true p5.2
      have hnm20 : x.name.size ≤ 20 := by unfold newB at p1; rw [Bool.and_eq_true] at p1; exact wordB_size p1.1
      have hfl20 := wordB_size p2
      have HNW := hid (fun (W : World) (h : RdT W na k ncap names) => isNewWord_any x.name na k ncap names W h (by unfold maxLen; omega))
      rw [p1] at HNW
      have HIW := hid (fun (W : World) => isWord_any x.file W (by unfold maxLen; omega))
      rw [p2] at HIW
      have HTM := hid (fun (W : World) (h1 : RdS W la x.lines.length lcap x.lines) (h2 : RdS W xa x.index.length xcap x.index) => tablesMayBe_true x la xa ta lcap xcap tcap room W h1 h2 p3 p4 p5 p6)
      have HTR := hid (fun (W : World) (h1 : RdS W ta x.tree.length tcap x.tree) (h2 : RdS W xa x.index.length xcap x.index) => treeMayBe_true ta xa x.tree.length tcap x.index.length xcap x.tree x.index (len : Int) W h1 h2 hwi p7 p8)
      have HPC := hid (fun (W : World) (h1 : RdS W la x.lines.length lcap x.lines) => pcs_any la x.lines.length lcap x.lines W h1 hwl)
      obtain ⟨wB, hwB⟩ : ∃ wB, wB = wr.alloc (Obj.cells #[.string x.name, .string x.file, .slice la x.lines.length lcap, .slice xa x.index.length xcap, .slice ta x.tree.length tcap] 41) := ⟨_, rfl⟩
      have hbB : Below wr.heap.size wr wB := by rw [hwB]; exact (Below.refl _ _).alloc (Nat.le_refl _) _
      have heB : wB.heap[wr.heap.size]? = some (.cells #[.string x.name, .string x.file, .slice la x.lines.length lcap, .slice xa x.index.length xcap, .slice ta x.tree.length tcap] 41 (0, 0)) := by rw [hwB]; exact heap_alloc_new _ _
      have hsB : wB.heap.size = wr.heap.size + 1 := by rw [hwB]; simp
      have HNL := hid hwk2
      have HNT := hid (hnt.below hbB)
      have HSL := hid (hsl.below hbB (Nat.le_refl _))
      have HSX := hid (hsx.below hbB (Nat.le_refl _))
      have HST := hid (hst.below hbB (Nat.le_refl _))
      have HOW := hid (owns_below hown hbB)
      have HEB := hid heB
      have HEW := hid ((hbB.block w.heap.size (by omega)).trans hew)
      have HBEL := hid (hbel.trans (hbB.mono hsz))
      have HBW := hid (hbw.trans (hbB.mono (by omega)))
      have HNLN := hid hnl
      generalize sumS x.lines = sl at *
      generalize x.lines.length = ll at *
      generalize x.index.length = xl at *
      generalize x.tree.length = tl at *
      clear hx hok hwk hwk2 p1 p2 p3 p4 p5 p6 p7 p8 hsl hsx hst hnt hown heB hwl hwi hbB hbel hbw
      go_wp2_with fail
      rw [← hwB]
      clear hwB c0 c1 c2 c3 c4
      refine (HNW.out wB HNT.out).mono ?_
      rintro e w1 ⟨rfl, b1⟩
      have e1 := (b1.block wr.heap.size (by omega)).trans HEB.out
      have s1 := b1.size
      have z1 : w1.cell? ⟨wr.heap.size, 1, none⟩ = some (.string x.file) := by simp [World.cell?, e1]
      go_wp2_with fail
      refine (HIW.out w1).mono ?_
      rintro e w2 ⟨rfl, b2⟩
      have bB2 : Below wB.heap.size wB w2 := b1.trans (b2.mono s1)
      have e2 := (bB2.block wr.heap.size (by omega)).trans HEB.out
      have s2 := bB2.size
      have y0 : w2.cell? ⟨wr.heap.size, 0, none⟩ = some (.string x.name) := by simp [World.cell?, e2]
      have y1 : w2.cell? ⟨wr.heap.size, 1, none⟩ = some (.string x.file) := by simp [World.cell?, e2]
      have y2 : w2.cell? ⟨wr.heap.size, 2, none⟩ = some (.slice la ll lcap) := by simp [World.cell?, e2]
      have y3 : w2.cell? ⟨wr.heap.size, 3, none⟩ = some (.slice xa xl xcap) := by simp [World.cell?, e2]
      have y4 : w2.cell? ⟨wr.heap.size, 4, none⟩ = some (.slice ta tl tcap) := by simp [World.cell?, e2]
      go_wp2_with fail
      refine (HTM.out w2 (HSL.out.below bB2 (Nat.le_refl _)) (HSX.out.below bB2 (Nat.le_refl _))).mono ?_
      rintro e w3 ⟨rfl, b3⟩
      have bB3 : Below wB.heap.size wB w3 := bB2.trans (b3.mono s2)
      have e3 := (bB3.block wr.heap.size (by omega)).trans HEB.out
      have s3 := bB3.size
      have x3 : w3.cell? ⟨wr.heap.size, 3, none⟩ = some (.slice xa xl xcap) := by simp [World.cell?, e3]
      have x4 : w3.cell? ⟨wr.heap.size, 4, none⟩ = some (.slice ta tl tcap) := by simp [World.cell?, e3]
      have f3 := (bB3.block w.heap.size (by omega)).trans HEW.out
      have g3 : w3.cell? ⟨w.heap.size, 0, none⟩ = some (.slice (some ⟨b, off, none⟩) len fcap) := by simp [World.cell?, f3]
      clear y0 y1 y2 y3 y4 z1 e1 e2
      go_wp2_with fail
      refine (HTR.out w3 (HST.out.below bB3 (Nat.le_refl _)) (HSX.out.below bB3 (Nat.le_refl _))).mono ?_
      rintro e w4 ⟨rfl, b4⟩
      have bB4 : Below wB.heap.size wB w4 := bB3.trans (b4.mono s3)
      have e4 := (bB4.block wr.heap.size (by omega)).trans HEB.out
      have s4 := bB4.size
      have u0 : w4.cell? ⟨wr.heap.size, 0, none⟩ = some (.string x.name) := by simp [World.cell?, e4]
      have hown4 := owns_below HOW.out bB4
      have HO4 := hid hown4
      have HE4 := hid e4
      have hw4 : w.heap.size ≤ w4.heap.size := by omega
      clear x3 x4 f3 g3 e3 hown4 e4
      go_wp2_with (at_builtin; refine wpList_append_lies _ rfl (.tmp 45) (.tmp 48) 32 rfl w.heap.size 9 i0 (.string ⟨#[]⟩) 1 16 Tryd.underlying32 hif hz0 hz1 hz2 rfl (by decide) _ _ _ rfl (HO4.out.alloc _) ⟨w4.heap.size, 0, none⟩ 1 1 [.string x.name] rfl rfl (cell_one_new _ _ _) (fun u hu => by rw [List.mem_singleton.1 hu]; rfl) (by decide) (by unfold maxLen; omega) (by omega) (by simp; omega) _ rfl ?_)
      intro g cap' w5 hown5 hgrow5 hat5 hlt5
      have hne5 : some wr.heap.size ≠ (Value.slice na k ncap).ownBlock := owns_other HO4.out HE4.out (by decide)
      have e5 := (hgrow5.block wr.heap.size (by simp; omega) hne5).trans ((heap_alloc_old _ _ (by omega)).trans HE4.out)
      have t5 : w5.cell? ⟨wr.heap.size, 2, none⟩ = some (.slice la ll lcap) := by simp [World.cell?, e5]
      have bw5 : Below w.heap.size w w5 := ((HBW.out.trans (bB4.mono (by omega))).alloc hw4 _).grown hgrow5 (by simp; omega) (fun q hq => (HO4.out.lt q hq).1)
      have hne6 : ∀ q, (Value.slice na k ncap).ownBlock = some q → q ≠ w.heap.size := fun q hq e => by
        have := owns_other HO4.out ((bB4.block w.heap.size (by omega)).trans HEW.out) (by decide)
        exact this (by rw [hq, e])
      have bA5 : Below wA.heap.size wA w5 := by
        refine ((HBEL.out.trans (bB4.mono (by omega))).alloc (by omega) _).grown hgrow5 (by simp; omega) (fun q hq => ?_)
        have h1 := (HO4.out.lt q hq).1
        have h2 := hne6 q hq
        omega
      have HP5 := hid (HPC.out w5 (HSLW.out.below bw5 (Nat.le_refl _)))
      have HR5 : Hid (w5.ownsRow w.heap.size 9 1 (.slice (some ⟨g, 0, none⟩) (k + 1) cap') (k + 1) (strs (names ++ [x.name]))) := by
        have e2 : strs (names ++ [x.name]) = strs names ++ [.string x.name] := by simp [strs]
        show World.ownsRow _ _ _ _ _ _ _
        rw [e2]; exact hown5
      have HBA5 := hid bA5
      have hsz5 := bA5.size
      have hwrp : IntKind.i64.wrap (room - sl) = room - sl := by rw [IntKind.wrap_i64]; omega
      have hsl0 : 0 ≤ sl := by omega
      clear hown5 hgrow5 hat5 hne5 e5 bw5 bA5 HO4 HE4 u0 bB4 b4 bB3 b3 bB2 b2 b1
      go_wp2_with fail
      refine HP5.out.mono ?_
      rintro e w6 ⟨rfl, b6⟩
      have HF6 : Hid (w6.ownsRow w.heap.size 9 1 (.slice (some ⟨g, 0, none⟩) (k + 1) cap') (k + 1) (strs (names ++ [x.name])) ∧ Below wA.heap.size wA w6) := ⟨owns_below HR5.out b6, HBA5.out.trans (b6.mono hsz5)⟩
      clear HP5 HR5 HBA5 b6
      go_wp2
      go_roundw
      case rel => exact ⟨k + 1, names ++ [x.name], room - sl, by go_num, rfl, by omega, by simp [HNLN.out], fun y hy => by
          rcases List.mem_append.1 hy with hm | hm
          · exact hn20 y hm
          · rw [List.mem_singleton.1 hm]; exact hnm20, by omega, by omega, HNL.out, HF6.out.1, HF6.out.2⟩
      case measure => simp [intOf]; omega
    · have hlt' : decide ((k : Int) < (len : Int)) = false := by simp; omega
      go_wp2
      go_ret
      exact ⟨rfl, hbw⟩
end Go.Proofs.YtooinlilplecpaaDoor
