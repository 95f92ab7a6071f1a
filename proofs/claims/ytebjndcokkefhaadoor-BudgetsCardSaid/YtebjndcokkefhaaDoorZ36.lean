/- The contract of the developers' image.WellFormed where an image is well-formed: true; nothing that was there is written. Mathematics of images, the end: an image that was written is read back; cut off it is too short; with a byte more it is refused at its end. -/
import Derived.Test.YtebjndcokkefhaaDoorZ15
import Derived.Test.YtebjndcokkefhaaDoorZ35
namespace Go.Proofs.YtebjndcokkefhaaDoor
open Go.RowKit

theorem entOk_parts {n : Int} {x : EntD} {names : List ByteArray} {room : Int} (h : entOk n x names room = true) : newB x.name names = true ∧ wordB x.file = true ∧ wfT x.lines = true ∧ wfT x.index = true ∧ linesB x.lines room = true ∧ sumS x.index = sumS x.lines ∧ (x.tree.length : Int) = mostT x.index ∧ treeOk n (unroll x.index) x.tree 1 (-1) = true := by
  unfold entOk at h
  simp only [Bool.and_eq_true] at h
  obtain ⟨⟨h1, h2⟩, ⟨⟨h3, h4⟩, h5, h6⟩, h7, h8⟩ := h
  exact ⟨h1, h2, h3, h4, h5, by simpa using h6, by simpa using h7, h8⟩
theorem wordB_size {s : ByteArray} (h : wordB s = true) : s.size ≤ 20 := by
  unfold wordB at h
  rw [Bool.and_eq_true] at h
  exact (of_decide_eq_true h.1).2
theorem RdI.at {w : World} {a : Option Addr} {len cap : Nat} {l : List EntD} (h : RdI w a len cap l) {k : Nat} {x : EntD} (hx : l[k]? = some x) : ∃ b off la lcap xa xcap ta tcap, a = some ⟨b, off, none⟩ ∧ w.cell? ⟨b, off + k * 5, none⟩ = some (.string x.name) ∧ w.cell? ⟨b, off + k * 5 + 1, none⟩ = some (.string x.file) ∧ w.cell? ⟨b, off + k * 5 + 2, none⟩ = some (.slice la x.lines.length lcap) ∧ w.cell? ⟨b, off + k * 5 + 3, none⟩ = some (.slice xa x.index.length xcap) ∧ w.cell? ⟨b, off + k * 5 + 4, none⟩ = some (.slice ta x.tree.length tcap) ∧ RdS w la x.lines.length lcap x.lines ∧ RdS w xa x.index.length xcap x.index ∧ RdS w ta x.tree.length tcap x.tree := by
  obtain ⟨b, off, cs, e, _, hc, la, lcap, xa, xcap, ta, tcap, rfl, h1, h2, h3, _⟩ := h.2.2.2 k x hx
  exact ⟨b, off, la, lcap, xa, xcap, ta, tcap, e, hc 0 _ rfl, hc 1 _ rfl, hc 2 _ rfl, hc 3 _ rfl, hc 4 _ rfl, h1, h2, h3⟩
theorem wfIF_drop {n : Int} {l : List EntD} {k : Nat} {x : EntD} {names : List ByteArray} {room : Int} (h : wfIF n (l.drop k) names room = true) (hx : l[k]? = some x) : entOk n x names room = true ∧ wfIF n (l.drop (k + 1)) (names ++ [x.name]) (room - sumS x.lines) = true := by
  obtain ⟨hk, e⟩ := List.getElem?_eq_some_iff.1 hx
  rw [List.drop_eq_getElem_cons hk, e] at h
  unfold wfIF at h
  rw [Bool.and_eq_true] at h
  exact h

set_option maxHeartbeats 4000000 in
set_option maxRecDepth 100000 in
theorem iwf_true (fa : Option Addr) (len fcap : Nat) (l : List EntD) (w : World) (hr : RdI w fa len fcap l) (hwf : wfI l = true) :
    Calls Tryd.prog 46 #[.agg #[.slice fa len fcap]] w fun e w' => e = .returned (.bool true) ∧ Below w.heap.size w w' := by
  have HL := hid hr.1
  have hcap := hr.2.1
  have hmax := hr.2.2.1
  unfold maxLen at hmax
  unfold wfI at hwf
  rw [Bool.and_eq_true, HL.out] at hwf
  have h12 := of_decide_eq_true hwf.1
  have HWF := hid hwf.2
  have HCM := hid (fun W => countMayBe_any (len : Int) W)
  have hcb : cntB (len : Int) = true := by unfold cntB; simp; omega
  rw [hcb] at HCM
  obtain ⟨wA, hwA⟩ : ∃ wA, wA = w.alloc (Obj.cells #[.slice fa len fcap] 31) := ⟨_, rfl⟩
  have hbA : Below w.heap.size w wA := by rw [hwA]; exact (Below.refl _ _).alloc (Nat.le_refl _) _
  have heA : wA.heap[w.heap.size]? = some (.cells #[.slice fa len fcap] 31 (0, 0)) := by rw [hwA]; exact heap_alloc_new _ _
  have hsA : wA.heap.size = w.heap.size + 1 := by rw [hwA]; simp
  obtain ⟨i0, hif, hz0, hz1, hz2⟩ := info_parts Tryd.infoString
  have HR := hid hr
  have HE := hid heA
  have HBA := hid hbA
  have HSA := hid hsA
  clear hr hwf hcb heA hbA hsA
  go_enter Tryd.func46, Tryd.ntmps46
  go_wp2_with (go_at_call 43; refine (HCM.out _).mono ?_; rintro e w' ⟨rfl, rfl⟩)
  rw [← hwA]
  clear hwA
  go_loopw [3, 4, 15] (fun nv rm i wr => ∃ (k : Nat) (names : List ByteArray) (room : Int), i = .int .i64 k ∧ rm = .int .i64 room ∧ k ≤ len ∧ names.length = k ∧ (∀ x ∈ names, x.size ≤ 20) ∧ 0 ≤ room ∧ room ≤ 1000 ∧ wfIF (len : Int) (l.drop k) names room = true ∧ wr.ownsRow w.heap.size 9 1 nv k (strs names) ∧ Below wA.heap.size wA wr) (fun _ _ i _ => len - (intOf i).toNat)
  case atStart => exact ⟨0, [], 1000, rfl, rfl, by omega, rfl, fun x hx => by simp at hx, by omega, by omega, HWF.out, World.ownsRow_nil _ _ _ _, Below.refl _ _⟩
  case round =>
    clear HWF
    obtain ⟨k, names, room, rfl, rfl, hk, hnl, hn20, hr0, hr1, hwk, hown, hbel⟩ := hrel
    have hsz := hbel.size
    have hsA := HSA.out
    have hbw : Below w.heap.size w wr := HBA.out.trans (hbel.mono (by omega))
    have hew := (hbel.block w.heap.size (by omega)).trans HE.out
    obtain ⟨na, ncap, rfl, hnt, -⟩ := rdT_of_owns hown hnl hn20
    by_cases hlt : k < len
    · obtain ⟨x, hx⟩ : ∃ x, l[k]? = some x := ⟨_, List.getElem?_eq_getElem (by rw [HL.out]; exact hlt)⟩
      obtain ⟨hok, hwk2⟩ := wfIF_drop hwk hx
      obtain ⟨p1, p2, p3, p4, p5, p6, p7, p8⟩ := entOk_parts hok
      obtain ⟨b, off, la, lcap, xa, xcap, ta, tcap, rfl, d0, d1, d2, d3, d4, hslw, hsxw, hstw⟩ := HR.out.at hx
      have hbltw := World.block_lt_of_cell? w _ d0
      simp only at hbltw
      have c0 := (hbw.cell (p := ⟨b, off + k * 5, none⟩) hbltw).trans d0
      have c1 := (hbw.cell (p := ⟨b, off + k * 5 + 1, none⟩) hbltw).trans d1
      have c2 := (hbw.cell (p := ⟨b, off + k * 5 + 2, none⟩) hbltw).trans d2
      have c3 := (hbw.cell (p := ⟨b, off + k * 5 + 3, none⟩) hbltw).trans d3
      have c4 := (hbw.cell (p := ⟨b, off + k * 5 + 4, none⟩) hbltw).trans d4
      have hsl := hslw.below hbw (Nat.le_refl _)
      have hsx := hsxw.below hbw (Nat.le_refl _)
      have hst := hstw.below hbw (Nat.le_refl _)
      have HSLW := hid hslw
      have hblt : b < wr.heap.size := by have := hbw.size; omega
      clear d0 d1 d2 d3 d4 hslw hsxw hstw
      have hwl : wfS x.lines (-1) 1000 = true := by unfold wfT at p3; rw [Bool.and_eq_true] at p3; exact p3.1
      have hwi : wfS x.index (-1) 1000 = true := by unfold wfT at p4; rw [Bool.and_eq_true] at p4; exact p4.1
      have hsum := unroll_all_len hwl
      have hroom : sumS x.lines ≤ room := by unfold linesB at p5; rw [Bool.and_eq_true] at p5; exact of_decide_eq_true p5.2
      have hnm20 : x.name.size ≤ 20 := by unfold newB at p1; rw [Bool.and_eq_true] at p1; exact wordB_size p1.1
      have hfl20 := wordB_size p2
      have HNW := hid (fun (W : World) (h : RdT W na k ncap names) => isNewWord_any x.name na k ncap names W h (by unfold maxLen; omega))
      rw [p1] at HNW
      have HIW := hid (fun (W : World) => isWord_any x.file W (by unfold maxLen; omega))
      rw [p2] at HIW
      have HTM := hid (fun (W : World) (h1 : RdS W la x.lines.length lcap x.lines) (h2 : RdS W xa x.index.length xcap x.index) => tablesMayBe_true x la xa ta lcap xcap tcap room W h1 h2 p3 p4 p5 p6)
      have HTR := hid (fun (W : World) (h1 : RdS W ta x.tree.length tcap x.tree) (h2 : RdS W xa x.index.length xcap x.index) => treeMayBe_true ta xa x.tree.length tcap x.index.length xcap x.tree x.index (len : Int) W h1 h2 hwi p7 p8)
      have HPC := hid (fun (W : World) (h1 : RdS W la x.lines.length lcap x.lines) => pcs_any la x.lines.length lcap x.lines W h1 hwl)
      obtain ⟨wB, hwB⟩ : ∃ wB, wB = wr.alloc (Obj.cells #[.string x.name, .string x.file, .slice la x.lines.length lcap, .slice xa x.index.length xcap, .slice ta x.tree.length tcap] 64) := ⟨_, rfl⟩
      have hbB : Below wr.heap.size wr wB := by rw [hwB]; exact (Below.refl _ _).alloc (Nat.le_refl _) _
      have heB : wB.heap[wr.heap.size]? = some (.cells #[.string x.name, .string x.file, .slice la x.lines.length lcap, .slice xa x.index.length xcap, .slice ta x.tree.length tcap] 64 (0, 0)) := by rw [hwB]; exact heap_alloc_new _ _
      have hsB : wB.heap.size = wr.heap.size + 1 := by rw [hwB]; simp
      have HNL := hid hwk2
      have HNT := hid (hnt.below hbB)
      have HSL := hid (hsl.below hbB (Nat.le_refl _))
      have HSX := hid (hsx.below hbB (Nat.le_refl _))
      have HST := hid (hst.below hbB (Nat.le_refl _))
      have HOW := hid (owns_below hown hbB)
      have HEB := hid heB
      have HEW := hid ((hbB.block w.heap.size (by omega)).trans hew)
      have HBEL := hid (hbel.trans (hbB.mono hsz))
      have HBW := hid (hbw.trans (hbB.mono (by omega)))
      have HNLN := hid hnl
      generalize sumS x.lines = sl at *
      generalize x.lines.length = ll at *
      generalize x.index.length = xl at *
      generalize x.tree.length = tl at *
      clear hx hok hwk hwk2 p1 p2 p3 p4 p5 p6 p7 p8 hsl hsx hst hnt hown heB hwl hwi hbB hbel hbw
      go_wp2_with fail
      rw [← hwB]
      clear hwB c0 c1 c2 c3 c4
      refine (HNW.out wB HNT.out).mono ?_
      rintro e w1 ⟨rfl, b1⟩
      have e1 := (b1.block wr.heap.size (by omega)).trans HEB.out
      have s1 := b1.size
      have z1 : w1.cell? ⟨wr.heap.size, 1, none⟩ = some (.string x.file) := by simp [World.cell?, e1]
      go_wp2_with fail
      refine (HIW.out w1).mono ?_
      rintro e w2 ⟨rfl, b2⟩
      have bB2 : Below wB.heap.size wB w2 := b1.trans (b2.mono s1)
      have e2 := (bB2.block wr.heap.size (by omega)).trans HEB.out
      have s2 := bB2.size
      have y0 : w2.cell? ⟨wr.heap.size, 0, none⟩ = some (.string x.name) := by simp [World.cell?, e2]
      have y1 : w2.cell? ⟨wr.heap.size, 1, none⟩ = some (.string x.file) := by simp [World.cell?, e2]
      have y2 : w2.cell? ⟨wr.heap.size, 2, none⟩ = some (.slice la ll lcap) := by simp [World.cell?, e2]
      have y3 : w2.cell? ⟨wr.heap.size, 3, none⟩ = some (.slice xa xl xcap) := by simp [World.cell?, e2]
      have y4 : w2.cell? ⟨wr.heap.size, 4, none⟩ = some (.slice ta tl tcap) := by simp [World.cell?, e2]
      go_wp2_with fail
      refine (HTM.out w2 (HSL.out.below bB2 (Nat.le_refl _)) (HSX.out.below bB2 (Nat.le_refl _))).mono ?_
      rintro e w3 ⟨rfl, b3⟩
      have bB3 : Below wB.heap.size wB w3 := bB2.trans (b3.mono s2)
      have e3 := (bB3.block wr.heap.size (by omega)).trans HEB.out
      have s3 := bB3.size
      have x3 : w3.cell? ⟨wr.heap.size, 3, none⟩ = some (.slice xa xl xcap) := by simp [World.cell?, e3]
      have x4 : w3.cell? ⟨wr.heap.size, 4, none⟩ = some (.slice ta tl tcap) := by simp [World.cell?, e3]
      have f3 := (bB3.block w.heap.size (by omega)).trans HEW.out
      have g3 : w3.cell? ⟨w.heap.size, 0, none⟩ = some (.slice (some ⟨b, off, none⟩) len fcap) := by simp [World.cell?, f3]
      clear y0 y1 y2 y3 y4 z1 e1 e2
      go_wp2_with fail
      refine (HTR.out w3 (HST.out.below bB3 (Nat.le_refl _)) (HSX.out.below bB3 (Nat.le_refl _))).mono ?_
      rintro e w4 ⟨rfl, b4⟩
      have bB4 : Below wB.heap.size wB w4 := bB3.trans (b4.mono s3)
      have e4 := (bB4.block wr.heap.size (by omega)).trans HEB.out
      have s4 := bB4.size
      have u0 : w4.cell? ⟨wr.heap.size, 0, none⟩ = some (.string x.name) := by simp [World.cell?, e4]
      have hown4 := owns_below HOW.out bB4
      have HO4 := hid hown4
      have HE4 := hid e4
      have hw4 : w.heap.size ≤ w4.heap.size := by omega
      clear x3 x4 f3 g3 e3 hown4 e4
      go_wp2_with (at_builtin; refine wpList_append_lies _ rfl (.tmp 45) (.tmp 48) 94 rfl w.heap.size 9 i0 (.string ⟨#[]⟩) 1 16 Tryd.underlying94 hif hz0 hz1 hz2 rfl (by decide) _ _ _ rfl (HO4.out.alloc _) ⟨w4.heap.size, 0, none⟩ 1 1 [.string x.name] rfl rfl (cell_one_new _ _ _) (fun u hu => by rw [List.mem_singleton.1 hu]; rfl) (by decide) (by unfold maxLen; omega) (by omega) (by simp; omega) _ rfl ?_)
      intro g cap' w5 hown5 hgrow5 hat5 hlt5
      have hne5 : some wr.heap.size ≠ (Value.slice na k ncap).ownBlock := owns_other HO4.out HE4.out (by decide)
      have e5 := (hgrow5.block wr.heap.size (by simp; omega) hne5).trans ((heap_alloc_old _ _ (by omega)).trans HE4.out)
      have t5 : w5.cell? ⟨wr.heap.size, 2, none⟩ = some (.slice la ll lcap) := by simp [World.cell?, e5]
      have bw5 : Below w.heap.size w w5 := ((HBW.out.trans (bB4.mono (by omega))).alloc hw4 _).grown hgrow5 (by simp; omega) (fun q hq => (HO4.out.lt q hq).1)
      have hne6 : ∀ q, (Value.slice na k ncap).ownBlock = some q → q ≠ w.heap.size := fun q hq e => by
        have := owns_other HO4.out ((bB4.block w.heap.size (by omega)).trans HEW.out) (by decide)
        exact this (by rw [hq, e])
      have bA5 : Below wA.heap.size wA w5 := by
        refine ((HBEL.out.trans (bB4.mono (by omega))).alloc (by omega) _).grown hgrow5 (by simp; omega) (fun q hq => ?_)
        have h1 := (HO4.out.lt q hq).1
        have h2 := hne6 q hq
        omega
      have HP5 := hid (HPC.out w5 (HSLW.out.below bw5 (Nat.le_refl _)))
      have HR5 : Hid (w5.ownsRow w.heap.size 9 1 (.slice (some ⟨g, 0, none⟩) (k + 1) cap') (k + 1) (strs (names ++ [x.name]))) := by
        have e2 : strs (names ++ [x.name]) = strs names ++ [.string x.name] := by simp [strs]
        show World.ownsRow _ _ _ _ _ _ _
        rw [e2]; exact hown5
      have HBA5 := hid bA5
      have hsz5 := bA5.size
      have hwrp : IntKind.i64.wrap (room - sl) = room - sl := by rw [IntKind.wrap_i64]; omega
      have hsl0 : 0 ≤ sl := by omega
      clear hown5 hgrow5 hat5 hne5 e5 bw5 bA5 HO4 HE4 u0 bB4 b4 bB3 b3 bB2 b2 b1
      go_wp2_with fail
      refine HP5.out.mono ?_
      rintro e w6 ⟨rfl, b6⟩
      have HF6 : Hid (w6.ownsRow w.heap.size 9 1 (.slice (some ⟨g, 0, none⟩) (k + 1) cap') (k + 1) (strs (names ++ [x.name])) ∧ Below wA.heap.size wA w6) := ⟨owns_below HR5.out b6, HBA5.out.trans (b6.mono hsz5)⟩
      clear HP5 HR5 HBA5 b6
      go_wp2
      go_roundw
      case rel => exact ⟨k + 1, names ++ [x.name], room - sl, by go_num, rfl, by omega, by simp [HNLN.out], fun y hy => by
          rcases List.mem_append.1 hy with hm | hm
          · exact hn20 y hm
          · rw [List.mem_singleton.1 hm]; exact hnm20, by omega, by omega, HNL.out, HF6.out.1, HF6.out.2⟩
      case measure => simp [intOf]; omega
    · have hlt' : decide ((k : Int) < (len : Int)) = false := by simp; omega
      go_wp2
      go_ret
      exact ⟨rfl, hbw⟩
end Go.Proofs.YtebjndcokkefhaaDoor
namespace Go.Proofs.YtebjndcokkefhaaDoor
open Go.RowKit

theorem unroll_sum : ∀ (l : List (Int × Int)) (b : Int), wfN l b → ((unroll l).length : Int) = sumS l
  | [], _, _ => rfl
  | p :: t, b, h => by
    have ih := unroll_sum t p.1 h.2.2.2
    have := h.2.2.1
    show (((p :: t).flatMap fun p => List.replicate p.2.toNat p.1).length : Int) = p.2 + sumS t
    rw [List.flatMap_cons, List.length_append, List.length_replicate]
    unfold unroll at ih
    omega

theorem rEntry_cut {bs : List Int} {s : RsD} {x : EntD} {n t : Int} {j : Nat} (he : s.e = 0) (hn : n ≤ 12) (hlen : s.files.length ≤ 12) (hok : entOk n x s.names s.room = true)
    (h : Eats bs s.at_ (entB' x s.files) t) (ha : s.at_ ≤ j) (hl : j ≤ bs.length) :
    (t ≤ j ∧ rEntry (bs.take j) s n = (x, ⟨t, t, 0, s.names ++ [x.name], filesD x.file s.files, s.room - sumS x.lines⟩)) ∨ (j < t ∧ (rEntry (bs.take j) s n).2.e = 2) := by
  obtain ⟨o1, o2, o3, o4, o5, o6, o7, o8⟩ := entOk_parts hok
  unfold entB' at h
  obtain ⟨m1, g1, h⟩ := h.split
  obtain ⟨m2, g2, h⟩ := h.split
  obtain ⟨m3, g3, h⟩ := h.split
  obtain ⟨m4, g4, g5⟩ := h.split
  have q1 := g1.2.1
  have q2 := g2.2.1
  have q3 := g3.2.1
  have q4 := g4.2.1
  have q5 := g5.2.1
  rcases rText_cut he g1 o1 ha hl with ⟨a1, a2⟩ | ⟨a1, a2⟩
  · have hA : entA (bs.take j) s = { s with at_ := m1, to_ := m1, names := s.names ++ [x.name] } := by unfold entA; rw [a2]
    rcases rFile_cut (s := { s with at_ := m1, to_ := m1, names := s.names ++ [x.name] }) (by exact he) o2 (by exact hlen) g2 a1 hl with ⟨b1, b2⟩ | ⟨b1, b2⟩
    · have hB : entB (bs.take j) s = { s with at_ := m2, to_ := m2, names := s.names ++ [x.name], files := filesD x.file s.files } := by unfold entB; rw [hA, b2]
      rcases rTab_cut (s := { s with at_ := m2, to_ := m2, names := s.names ++ [x.name], files := filesD x.file s.files }) (by exact he) g3 o3 b1 hl with ⟨c1, c2⟩ | ⟨c1, c2⟩
      · have hC : entC (bs.take j) s = (x.lines, { s with at_ := m2, to_ := m3, names := s.names ++ [x.name], files := filesD x.file s.files }) := by unfold entC; rw [hB, c2]
        have hD : entD (bs.take j) s = { s with at_ := m3, to_ := m3, names := s.names ++ [x.name], files := filesD x.file s.files, room := s.room - sumS x.lines } := by
          unfold entD
          rw [hC, hB]
          dsimp only
          rw [rTake_go (by exact he) o5]
        rcases rTab_cut (s := { s with at_ := m3, to_ := m3, names := s.names ++ [x.name], files := filesD x.file s.files, room := s.room - sumS x.lines }) (by exact he) g4 o4 c1 hl with ⟨d1, d2⟩ | ⟨d1, d2⟩
        · have hE : entE (bs.take j) s = (x.index, { s with at_ := m3, to_ := m4, names := s.names ++ [x.name], files := filesD x.file s.files, room := s.room - sumS x.lines }) := by unfold entE; rw [hD, d2]
          have hF : entF (bs.take j) s = { s with at_ := m4, to_ := m4, names := s.names ++ [x.name], files := filesD x.file s.files, room := s.room - sumS x.lines } := by
            unfold entF
            rw [hE, hC]
            dsimp only
            rw [rTake_go (by exact he) (by rw [o6]; simp)]
          have hwx := (wfT_iff x.index).1 o4
          have hul := unroll_sum x.index (-1) hwx.1.1
          have hm : (mostT x.index).toNat = x.tree.length := by omega
          have ht := rTreeF_cut (last := mostT x.index) hl (inst := unroll x.index) (by have := hwx.1.2; omega) hn x.tree 1 (-1) [] { s with at_ := m4, to_ := m4, names := s.names ++ [x.name], files := filesD x.file s.files, room := s.room - sumS x.lines } t (by exact he) rfl (by omega) g5 o8 d1 (by omega)
          have hT : rTree (bs.take j) (entF (bs.take j) s) (entE (bs.take j) s).1 n = rTreeF (bs.take j) (unroll x.index) n (mostT x.index) x.tree.length 1 (-1) [] { s with at_ := m4, to_ := m4, names := s.names ++ [x.name], files := filesD x.file s.files, room := s.room - sumS x.lines } := by
            unfold rTree
            rw [hE, hF]
            dsimp only
            rw [hm]
          rcases ht with ⟨t1, t2⟩ | ⟨t1, t2⟩
          · left
            refine ⟨t1, ?_⟩
            unfold rEntry
            rw [hT, t2, a2, hA, b2, hC, hE]
            dsimp only
            rw [he]
            rfl
          · right
            refine ⟨t1, ?_⟩
            show (rTree (bs.take j) (entF (bs.take j) s) (entE (bs.take j) s).1 n).2.e = 2
            rw [hT]
            exact t2
        · have hE : (entE (bs.take j) s).2.e = 2 := by unfold entE; rw [hD]; exact d2
          right
          refine ⟨by omega, ?_⟩
          rw [rEntry_stickE (by rw [hE]; decide), hE]
      · have hC : (entC (bs.take j) s).2.e = 2 := by unfold entC; rw [hB]; exact c2
        right
        refine ⟨by omega, ?_⟩
        rw [rEntry_stickC (by rw [hC]; decide), hC]
    · have hB : (entB (bs.take j) s).e = 2 := by unfold entB; rw [hA]; exact b2
      right
      refine ⟨by omega, ?_⟩
      rw [rEntry_stickB (by rw [hB]; decide), hB]
  · have hA : (entA (bs.take j) s).e = 2 := a2
    have hB : (entB (bs.take j) s).e = 2 := by rw [rEntry_stickA (by rw [hA]; decide), hA]
    right
    refine ⟨by omega, ?_⟩
    rw [rEntry_stickB (by rw [hB]; decide), hB]

theorem rEnts_halt (bs : List Int) (n : Int) (f : Nat) (l : List EntD) (s : RsD) (h : s.e ≠ 0) : rEnts bs n f l s = (l, s) := by
  cases f with
  | zero => rfl
  | succ f => unfold rEnts; rw [if_neg h]

theorem rEnts_cut {bs : List Int} {n : Int} {j : Nat} (hn : n ≤ 12) (hl : j ≤ bs.length) : ∀ (l acc : List EntD) (s : RsD) (t : Int), s.e = 0 → Files s.files → s.files.length + l.length ≤ 12 → wfIF n l s.names s.room = true →
    Eats bs s.at_ (encF l s.files) t → s.at_ ≤ j →
    (t ≤ j ∧ ∃ s', rEnts (bs.take j) n l.length acc s = (acc ++ l, s') ∧ s'.e = 0 ∧ s'.at_ = t) ∨ (j < t ∧ (rEnts (bs.take j) n l.length acc s).2.e = 2)
  | [], acc, s, t, he, _, _, _, h, ha => by
    have ht : t = s.at_ := by have := h.2.1; simp [encF] at this; exact this
    left
    exact ⟨by omega, s, by simp [rEnts], he, ht.symm⟩
  | x :: r, acc, s, t, he, hf, hfl, hw, h, ha => by
    unfold wfIF at hw
    rw [Bool.and_eq_true] at hw
    obtain ⟨hok, hw2⟩ := hw
    obtain ⟨o1, o2, o3, o4, o5, o6, o7, o8⟩ := entOk_parts hok
    have hh : encF (x :: r) s.files = entB' x s.files ++ encF r (filesD x.file s.files) := rfl
    rw [hh] at h
    obtain ⟨m, g1, g2⟩ := h.split
    have q2 := g2.2.1
    have es : rEnts (bs.take j) n (x :: r).length acc s = rEnts (bs.take j) n r.length (acc ++ [(rEntry (bs.take j) s n).1]) (rEntry (bs.take j) s n).2 := by
      show rEnts (bs.take j) n (r.length + 1) acc s = _
      conv => lhs; unfold rEnts
      rw [if_pos he]
    rw [es]
    rcases rEntry_cut he hn (by simp at hfl; omega) hok g1 ha hl with ⟨a1, a2⟩ | ⟨a1, a2⟩
    · rw [a2]
      have hfd := filesD_len x.file s.files
      have ih := rEnts_cut hn hl r (acc ++ [x]) ⟨m, m, 0, s.names ++ [x.name], filesD x.file s.files, s.room - sumS x.lines⟩ t rfl (hf.grow o2) (by simp at hfl ⊢; omega) hw2 g2 a1
      rcases ih with ⟨b1, s', b2, b3, b4⟩ | ⟨b1, b2⟩
      · left
        exact ⟨b1, s', by rw [b2]; simp, b3, b4⟩
      · exact .inr ⟨b1, b2⟩
    · right
      refine ⟨by omega, ?_⟩
      rw [rEnts_halt _ _ _ _ _ (by rw [a2]; decide)]
      exact a2

theorem rHead_cut (rest : List Int) (j : Nat) (hl : j ≤ ([85, 70, 1] ++ rest).length) : (3 ≤ j ∧ rHead (([85, 70, 1] ++ rest).take j) rBeg = ⟨3, 0, 0, [], [], 1000⟩) ∨ (j < 3 ∧ (rHead (([85, 70, 1] ++ rest).take j) rBeg).e = 2) := by
  match j, hl with
  | 0, _ => exact .inr ⟨by omega, by simp [rHead, rHeadF]⟩
  | 1, _ => exact .inr ⟨by omega, by simp [rHead, rHeadF]⟩
  | 2, _ => exact .inr ⟨by omega, by simp [rHead, rHeadF]⟩
  | j + 3, _ =>
    refine .inl ⟨by omega, ?_⟩
    simp [rHead, rHeadF, rBeg]

theorem dropHead (a : List Int) : List.drop 3 ([85, 70, 1] ++ a) = a := rfl
/-- Some first bytes of what begins with an image's: all of it is read, or it ends too early. -/
theorem rAll_cut {l : List EntD} (hw : wfI l = true) (post : List Int) (j : Nat) (hl : j ≤ (encI l ++ post).length) :
    ((encI l).length ≤ j ∧ ∃ s', rEnts ((encI l ++ post).take j) (rCnt ((encI l ++ post).take j)).1 (rCnt ((encI l ++ post).take j)).1.toNat [] (rCnt ((encI l ++ post).take j)).2 = (l, s') ∧ s'.e = 0 ∧ s'.at_ = (encI l).length) ∨
    (j < (encI l).length ∧ (rEnts ((encI l ++ post).take j) (rCnt ((encI l ++ post).take j)).1 (rCnt ((encI l ++ post).take j)).1.toNat [] (rCnt ((encI l ++ post).take j)).2).2.e = 2) := by
  unfold wfI at hw
  rw [Bool.and_eq_true] at hw
  obtain ⟨hlen, hw⟩ := hw
  have hlen := of_decide_eq_true hlen
  have hN : ∀ post', encI l ++ post' = [85, 70, 1] ++ ((numB l.length ++ encF l []) ++ post') := fun post' => by unfold encI; rw [List.append_assoc]
  have hel : (encI l).length = 3 + ((numB l.length).length + (encF l []).length) := by unfold encI; simp; omega
  obtain ⟨bs, hbs⟩ : ∃ bs, bs = encI l ++ post := ⟨_, rfl⟩
  rw [← hbs] at hl ⊢
  have hblen : bs.length = (encI l).length + post.length := by rw [hbs, List.length_append]
  have hcb := rHead_cut ((numB l.length ++ encF l []) ++ post) j (by rw [← hN, ← hbs]; exact hl)
  rw [← hN, ← hbs] at hcb
  have hE1 : Eats bs 3 (numB l.length) (3 + (numB l.length).length) := by
    refine ⟨by omega, rfl, by omega, ?_⟩
    have e1 : bs.drop 3 = numB l.length ++ (encF l [] ++ post) := by
      rw [hbs, hN, dropHead]
      exact List.append_assoc _ _ _
    have e2 : bs.drop (3 + ((numB (l.length : Int)).length : Int)).toNat = encF l [] ++ post := by
      have : (3 + ((numB (l.length : Int)).length : Int)).toNat = 3 + (numB l.length).length := by omega
      rw [this, ← List.drop_drop, e1, List.drop_left]
    rw [e2]
    exact e1
  have hE2 : Eats bs (3 + (numB l.length).length) (encF l []) (encI l).length := by
    have e1 : bs.drop 3 = numB l.length ++ (encF l [] ++ post) := by
      rw [hbs, hN, dropHead]
      exact List.append_assoc _ _ _
    refine ⟨by omega, by omega, by omega, ?_⟩
    have h1 : (3 + ((numB (l.length : Int)).length : Int)).toNat = 3 + (numB l.length).length := by omega
    have h3 : bs.drop ((encI l).length : Int).toNat = post := by
      rw [Int.toNat_natCast, hbs]
      exact List.drop_left
    have h4 : bs.drop (3 + (numB (l.length : Int)).length) = encF l [] ++ post := by
      rw [← List.drop_drop, e1]
      exact List.drop_left
    rw [h1, h3]
    exact h4
  clear hN hbs
  have hzero : ∀ s : RsD, s.e ≠ 0 → s.e = 2 → ∀ n f (acc : List EntD), (rEnts (bs.take j) n f acc s).2.e = 2 := fun s h1 h2 n f acc => by rw [rEnts_halt _ _ _ _ _ h1]; exact h2
  rcases hcb with ⟨h3, hH⟩ | ⟨h3, hH⟩
  · have hcnt : rCnt (bs.take j) = ((rNum (bs.take j) ⟨3, 0, 0, [], [], 1000⟩).1, rTake (rNum (bs.take j) ⟨3, 0, 0, [], [], 1000⟩).2 (decide (1 ≤ (rNum (bs.take j) ⟨3, 0, 0, [], [], 1000⟩).1 ∧ (rNum (bs.take j) ⟨3, 0, 0, [], [], 1000⟩).1 ≤ 12))) := by
      unfold rCnt
      rw [hH]
    rcases rNum_cut (s := ⟨3, 0, 0, [], [], 1000⟩) rfl hE1 (by omega) (by omega) (by show (3 : Int) ≤ j; omega) hl with ⟨k1, k2⟩ | ⟨k1, k2⟩
    · have hc2 : rCnt (bs.take j) = ((l.length : Int), ⟨3 + (numB l.length).length, 3 + (numB l.length).length, 0, [], [], 1000⟩) := by
        rw [hcnt, k2]
        dsimp only
        rw [rTake_go rfl (by simp only [decide_eq_true_eq]; omega)]
      rw [hc2]
      dsimp only
      rw [Int.toNat_natCast]
      rcases rEnts_cut (n := l.length) (by omega) hl l [] ⟨3 + (numB l.length).length, 3 + (numB l.length).length, 0, [], [], 1000⟩ _ rfl ⟨fun i k _ hk => by simp at hk, fun x hx => by simp at hx⟩ (by simp; omega) hw hE2 k1 with ⟨a1, s', a2, a3, a4⟩ | ⟨a1, a2⟩
      · exact .inl ⟨by omega, s', by rw [a2]; rfl, a3, a4⟩
      · exact .inr ⟨by omega, a2⟩
    · right
      refine ⟨by omega, ?_⟩
      have hne : (rNum (bs.take j) ⟨3, 0, 0, [], [], 1000⟩).2.e ≠ 0 := by rw [k2]; decide
      have h2 : (rCnt (bs.take j)).2.e = 2 := by rw [hcnt]; dsimp only; rw [rTake_stick hne]; exact k2
      exact hzero _ (by rw [h2]; decide) h2 _ _ _
  · right
    refine ⟨by omega, ?_⟩
    have hne : (rHead (bs.take j) rBeg).e ≠ 0 := by rw [hH]; decide
    have h2 : (rCnt (bs.take j)).2.e = 2 := by
      unfold rCnt
      rw [rNum_stick hne]
      dsimp only
      rw [rTake_stick hne]
      exact hH
    exact hzero _ (by rw [h2]; decide) h2 _ _ _

theorem decI_enc {l : List EntD} (hw : wfI l = true) : decI (encI l) = (l, 0, 0) := by
  have h := rAll_cut hw [] (encI l).length (by simp)
  rw [List.append_nil, List.take_length] at h
  rcases h with ⟨_, s', h1, h2, h3⟩ | ⟨h1, _⟩
  · have hA : rAll (encI l) = (l, s') := by
      unfold rAll
      rw [h1]
      dsimp only
      unfold rEnd
      rw [if_neg (by omega)]
    unfold decI
    rw [hA]
    dsimp only
    rw [if_neg (by simpa using h2)]
  · omega

theorem decI_short {l : List EntD} (hw : wfI l = true) {j : Nat} (hj : j < (encI l).length) : (decI ((encI l).take j)).2.1 = 2 := by
  have h := rAll_cut hw [] j (by simp; omega)
  rw [List.append_nil] at h
  rcases h with ⟨h1, _⟩ | ⟨_, h1⟩
  · omega
  · have hA : (rAll ((encI l).take j)).2.e = 2 := by
      unfold rAll
      dsimp only
      unfold rEnd
      rw [if_neg (by rw [h1]; omega)]
      exact h1
    unfold decI
    rw [if_pos (by rw [hA]; decide)]
    exact hA

theorem decI_more {l : List EntD} (hw : wfI l = true) (x : Int) : decI (encI l ++ [x]) = ([], 8, ((encI l).length : Int)) := by
  have h := rAll_cut hw [x] (encI l ++ [x]).length (Nat.le_refl _)
  rw [List.take_length] at h
  rcases h with ⟨_, s', h1, h2, h3⟩ | ⟨h1, _⟩
  · have hA : rAll (encI l ++ [x]) = (l, { s' with e := 8 }) := by
      unfold rAll
      rw [h1]
      dsimp only
      unfold rEnd
      rw [if_pos ⟨h2, by rw [h3]; simp; omega⟩]
    unfold decI
    rw [hA]
    dsimp only
    rw [if_pos (by decide), h3]
  · simp at h1
    omega
end Go.Proofs.YtebjndcokkefhaaDoor
