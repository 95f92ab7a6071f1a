/- The contract of the developers' image.Encode where an image is well-formed: its bytes, in a row of the call's own; nothing that was there is written. A region that draws its order and whose last operation waits for all the others: that one is carried out behind them. -/
import Derived.Test.YtebjndcokkefhaaDoorI14
import Derived.Deep.RegionHeldLaw
namespace Go.Proofs.YtebjndcokkefhaaDoor
open Go.RowKit

theorem wfIF_at {n : Int} : ∀ {l : List EntD} {names : List ByteArray} {room : Int} {k : Nat} {x : EntD}, wfIF n l names room = true → l[k]? = some x → ∃ names' room', entOk n x names' room' = true
  | [], _, _, _, _, _, h => by simp at h
  | y :: r, names, room, k, x, h, hx => by
    unfold wfIF at h
    rw [Bool.and_eq_true] at h
    cases k with
    | zero => simp at hx; subst hx; exact ⟨_, _, h.1⟩
    | succ k => exact wfIF_at h.2 (by simpa using hx)

/-- What is asked of an entry to write it. -/
structure EntW (x : EntD) : Prop where
  name : x.name.size ≤ 20
  file : x.file.size ≤ 20
  lines : wfT x.lines = true
  index : wfT x.index = true
  len : x.tree.length ≤ 9999
  tree : ∀ j, j < x.tree.length → 0 ≤ (x.tree.getD j (0, 0)).1 ∧ (x.tree.getD j (0, 0)).1 ≤ 2147483647 ∧ 0 ≤ (x.tree.getD j (0, 0)).2 ∧ (x.tree.getD j (0, 0)).2 ≤ 2147483647
theorem entW_of {n : Int} {x : EntD} {names : List ByteArray} {room : Int} (h : entOk n x names room = true) (hn : n ≤ 12) : EntW x := by
  obtain ⟨p1, p2, p3, p4, p5, p6, p7, p8⟩ := entOk_parts h
  have hwi : wfS x.index (-1) 1000 = true := by unfold wfT at p4; rw [Bool.and_eq_true] at p4; exact p4.1
  have hm := mostT_le hwi
  have hu := unroll_all_len hwi
  refine ⟨by unfold newB at p1; rw [Bool.and_eq_true] at p1; exact wordB_size p1.1, wordB_size p2, p3, p4, by omega, fun j hj => ?_⟩
  obtain ⟨q1, q2⟩ := treeOk_at n (unroll x.index) x.tree j 1 (-1) p8 hj
  have q3 := treeOk_nn n (unroll x.index) x.tree 1 (-1) (by omega) p8 j hj
  unfold withB at q1
  have q4 := of_decide_eq_true q1
  unfold pcB at q2
  rw [Bool.and_eq_true] at q2
  have q5 := of_decide_eq_true q2.1
  exact ⟨q4.1, by omega, q3, by omega⟩

theorem entX_le {x : EntD} (h : EntW x) (file : Int) (isNew : Bool) : 1 ≤ (entX x file isNew).length ∧ (entX x file isNew).length ≤ 130000 := by
  have h1 := textB_len x.name h.name
  have h2 := textB_len x.file h.file
  have h3 := putS_range h.lines
  have h4 := putS_range h.index
  have h5 := nodesB_le x.tree
  have h6 := numB_len file
  have h7 := h.len
  unfold entX
  cases isNew with
  | true => simp only [if_true, List.length_append]; omega
  | false => simp only [Bool.false_eq_true, if_false, List.length_append, List.length_nil]; omega

theorem entX_is (x : EntD) (files : List ByteArray) : entX x (plc x.file files) (decide (plc x.file files = files.length)) = entB' x files := by
  unfold entX entB' fileB
  by_cases h : plc x.file files = files.length
  · rw [decide_eq_true h, if_pos rfl, if_pos h]; simp [List.append_assoc]
  · rw [decide_eq_false h, if_neg (by simp), if_neg h]; simp

theorem encF_drop {l : List EntD} {k : Nat} {x : EntD} (files : List ByteArray) (hx : l[k]? = some x) : encF (l.drop k) files = entB' x files ++ encF (l.drop (k + 1)) (filesD x.file files) := by
  obtain ⟨hk, e⟩ := List.getElem?_eq_some_iff.1 hx
  rw [List.drop_eq_getElem_cons hk, e]; rfl

set_option maxHeartbeats 4000000 in
set_option maxRecDepth 100000 in
theorem iencode_wf (fa : Option Addr) (len fcap : Nat) (l : List EntD) (w : World) (hr : RdI w fa len fcap l) (hwf : wfI l = true) (hH : HeadAt w) :
    Calls Tryd.prog 28 #[.agg #[.slice fa len fcap]] w fun e w' => ∃ v, e = .returned (.tuple #[v, .int .i64 0]) ∧ w'.ownsRow w.heap.size 5 1 v (encI l).length (u8s (encI l)) ∧ Below w.heap.size w w' := by
  have HL := hid hr.1
  have hcap := hr.2.1
  have hmax := hr.2.2.1
  unfold maxLen at hmax
  have hwf2 := hwf
  unfold wfI at hwf2
  rw [Bool.and_eq_true, HL.out] at hwf2
  have h12 := of_decide_eq_true hwf2.1
  have HEW := hid (fun (k : Nat) (x : EntD) (hx : l[k]? = some x) => by obtain ⟨n', r', h'⟩ := wfIF_at hwf2.2 hx; exact entW_of h' (by omega))
  have HHL := hH.lt
  obtain ⟨wA, hwA⟩ : ∃ wA, wA = w.alloc (Obj.cells #[.slice fa len fcap] 31) := ⟨_, rfl⟩
  have hbA : Below w.heap.size w wA := by rw [hwA]; exact (Below.refl _ _).alloc (Nat.le_refl _) _
  have heA : wA.heap[w.heap.size]? = some (.cells #[.slice fa len fcap] 31 (0, 0)) := by rw [hwA]; exact heap_alloc_new _ _
  have hsA : wA.heap.size = w.heap.size + 1 := by rw [hwA]; simp
  have HWF := hid (iwf_true fa len fcap l wA (hr.below hbA) hwf)
  obtain ⟨i0, hi, hz0, hz1, hz2⟩ := info_parts Tryd.infoByte
  obtain ⟨j0, hj, hy0, hy1, hy2⟩ := info_parts Tryd.infoString
  have HR := hid hr
  have HHD := hid hH
  have HNB := hid (fun W => bytes_any (len : Int) W (by omega) (by omega))
  have hnb := numB_len (len : Int)
  have HENC : Hid (encI l = ([85, 70, 1] ++ numB (len : Int)) ++ encF l []) := by show _ = _; unfold encI; rw [HL.out]; simp
  clear hr hwf hwf2 hH
  go_enter Tryd.func28, Tryd.ntmps28
  go_wp2_with fail
  rw [← hwA]
  clear hwA
  refine HWF.out.mono ?_
  rintro e w1 ⟨rfl, b1⟩
  have bw1 : Below w.heap.size w w1 := hbA.trans (b1.mono hbA.size)
  have e1 := (b1.block w.heap.size (by omega)).trans heA
  obtain ⟨g0, g1, g2⟩ := HHD.out.below bw1 (Nat.le_refl _)
  have HB1 := hid bw1
  have HE1 := hid e1
  have hs1 := bw1.size
  have hlt1 : w.heap.size < w1.heap.size := (Array.getElem?_eq_some_iff.1 e1).1
  clear bw1 b1 heA hbA e1 HWF HHD
  go_wp2
  go_loopw [4, 16] (fun v i wr => ∃ k : Nat, i = .int .i64 k ∧ k ≤ 3 ∧ wr.ownsRow w.heap.size 5 1 v k (u8s ([(85 : Int), 70, 1].take k)) ∧ Below w.heap.size w wr ∧ wr.heap[w.heap.size]? = some (.cells #[.slice fa len fcap] 31 (0, 0))) (fun _ i _ => 3 - (intOf i).toNat)
  case atStart => exact ⟨0, rfl, by omega, World.ownsRow_nil _ _ _ _, HB1.out, HE1.out⟩
  case round =>
    clear g0 g1 g2 HB1 HE1
    obtain ⟨k, rfl, hk3, hown, hbel, hbox⟩ := hrel
    have hsz := hbel.size
    have hltw : w.heap.size < wr.heap.size := (Array.getElem?_eq_some_iff.1 hbox).1
    by_cases h3 : k < 3
    · obtain ⟨c, hd, hidx⟩ := head_index k h3
      have h3' : (k : Int) < 3 := by omega
      have htk : [(85 : Int), 70, 1].take (k + 1) = [(85 : Int), 70, 1].take k ++ [c] := by
        have h5 : [(85 : Int), 70, 1].take (k + 1) = [(85 : Int), 70, 1].take k ++ ([(85 : Int), 70, 1].drop k).take 1 := by rw [← List.take_add]
        rw [h5, hd]; rfl
      have HTK := hid htk
      obtain ⟨va, vc, rfl, -, -⟩ := owns_form hown
      have HO := hid hown
      have HBX := hid hbox
      have HBL := hid hbel
      clear hown hbox hbel hd htk
      go_wp2_with (at_builtin; refine wpList_append_lies _ rfl (.tmp 19) (.tmp 21) 26 rfl w.heap.size 5 i0 (.int .u8 0) 1 1 Tryd.underlying26 hi hz0 hz1 hz2 rfl (by decide) _ _ _ rfl (HO.out.alloc _) ⟨wr.heap.size, 0, none⟩ 1 1 [.int .u8 c] rfl rfl (cell_one_new _ _ _) (fun u hu => by rw [List.mem_singleton.1 hu]; rfl) (by decide) (by unfold maxLen; omega) (by omega) (by simp; omega) _ rfl ?_)
      intro g cap' w5 hown5 hgrow5 hat5 hlt5
      have HF : Hid (w5.ownsRow w.heap.size 5 1 (.slice (some ⟨g, 0, none⟩) (k + 1) cap') (k + 1) (u8s ([(85 : Int), 70, 1].take (k + 1))) ∧ Below w.heap.size w w5 ∧ w5.heap[w.heap.size]? = some (.cells #[.slice fa len fcap] 31 (0, 0))) := by
        refine ⟨by rw [HTK.out, u8s_snoc]; exact hown5, (HBL.out.alloc hsz _).grown hgrow5 (by simp; omega) (fun q hq => (HO.out.lt q hq).1), ?_⟩
        exact (hgrow5.block w.heap.size (by simp; omega) (owns_other HO.out HBX.out (by decide))).trans ((heap_alloc_old _ _ hltw).trans HBX.out)
      clear hown5 hgrow5 hat5 HO HBX HBL HTK hidx
      go_wp2
      go_roundw
      case rel => exact ⟨k + 1, by go_num, by omega, HF.out.1, HF.out.2.1, HF.out.2.2⟩
      case measure => simp [intOf]; omega
    · have hk' : k = 3 := by omega
      subst hk'
      obtain ⟨va, vc, rfl, -, -⟩ := owns_form hown
      have qb : wr.cell? ⟨w.heap.size, 0, none⟩ = some (.slice fa len fcap) := by simp [World.cell?, hbox]
      have HO := hid hown
      have HBX := hid hbox
      have HBL := hid hbel
      clear hown hbox hbel
      generalize wr = wz at *
      go_wp2_with fail
      refine (HNB.out wz).mono ?_
      rintro e w2 ⟨v2, rfl, ho2, hb2⟩
      obtain ⟨N, hN⟩ : ∃ N, N = numB (len : Int) := ⟨_, rfl⟩
      rw [← hN] at ho2 hnb HENC
      clear hN
      obtain ⟨gN, capN, rfl, -, -, hcsN⟩ := owns_some ho2 (by omega)
      have ho3 := owns_below HO.out hb2
      have hb3 : Below w.heap.size w w2 := HBL.out.trans (hb2.mono hsz)
      have hx3 := (hb2.block w.heap.size hltw).trans HBX.out
      have hs3 := hb3.size
      have HO3 := hid ho3
      have HB3 := hid hb3
      have HX3 := hid hx3
      clear ho3 hb3 hx3 ho2 hb2 HO HBX HBL qb
      go_wp2_with (at_builtin; refine wpList_append_lies _ rfl (.tmp 24) (.tmp 28) 26 rfl w.heap.size 5 i0 (.int .u8 0) 1 1 Tryd.underlying26 hi hz0 hz1 hz2 rfl (by decide) _ _ _ rfl HO3.out ⟨gN, 0, none⟩ N.length capN (u8s N) rfl (by rw [u8s_len, Nat.mul_one]) hcsN (u8s_one N) (by omega) (by unfold maxLen; omega) (by omega) hs3 _ rfl ?_)
      intro g cap' w5 hown5 hgrow5 hat5 hlt5
      have hx5 := (hgrow5.block w.heap.size (Array.getElem?_eq_some_iff.1 HX3.out).1 (owns_other HO3.out HX3.out (by decide))).trans HX3.out
      have q5 : w5.cell? ⟨w.heap.size, 0, none⟩ = some (.slice fa len fcap) := by simp [World.cell?, hx5]
      have HF : Hid (w5.ownsRow w.heap.size 5 1 (.slice (some ⟨g, 0, none⟩) (3 + N.length) cap') ([85, 70, 1] ++ N).length (u8s ([85, 70, 1] ++ N)) ∧ Below w.heap.size w w5) := by
        refine ⟨?_, HB3.out.grown hgrow5 hs3 (fun q hq => (HO3.out.lt q hq).1)⟩
        have e1 : ([85, 70, 1] ++ N).length = 3 + N.length := by rw [List.length_append]; rfl
        rw [e1, u8s_append]; exact hown5
      clear hown5 hgrow5 hat5 HO3 HB3 HX3 hcsN hx5
      go_wp2
      go_loopw [4, 7, 33] (fun bv fv i wr => ∃ (k : Nat) (A : List Int) (files : List ByteArray), i = .int .i64 k ∧ k ≤ len ∧ encI l = A ++ encF (l.drop k) files ∧ A.length ≤ 10 + k * 130000 ∧ files.length ≤ k ∧ (∀ x ∈ files, x.size ≤ 20) ∧ wr.ownsRow w.heap.size 5 1 bv A.length (u8s A) ∧ wr.ownsRow w.heap.size 9 1 fv files.length (strs files) ∧ Below w.heap.size w wr) (fun _ _ i _ => len - (intOf i).toNat)
      case atStart => exact ⟨0, [85, 70, 1] ++ N, [], rfl, by omega, HENC.out, by rw [List.length_append]; simp; omega, by simp, fun x hx => by simp at hx, HF.out.1, World.ownsRow_nil _ _ _ _, HF.out.2⟩
      case round =>
        clear HF q5 HENC
        obtain ⟨k, A, files, rfl, hk, henc, hAl, hfl, hf20, hoA, hoF, hbel⟩ := hrel
        have hsz := hbel.size
        obtain ⟨va, vc, rfl, -, -⟩ := owns_form hoA
        obtain ⟨fa', fc', rfl, hft, -⟩ := rdT_of_owns hoF rfl hf20
        by_cases hlt : k < len
        · obtain ⟨x, hx⟩ : ∃ x, l[k]? = some x := ⟨_, List.getElem?_eq_getElem (by rw [HL.out]; exact hlt)⟩
          have hew := HEW.out k x hx
          obtain ⟨b, off, la, lcap, xa, xcap, ta, tcap, rfl, d0, d1, d2, d3, d4, hslw, hsxw, hstw⟩ := HR.out.at hx
          have hbltw := World.block_lt_of_cell? w _ d0
          simp only at hbltw
          have c0 := (hbel.cell (p := ⟨b, off + k * 5, none⟩) hbltw).trans d0
          have c1 := (hbel.cell (p := ⟨b, off + k * 5 + 1, none⟩) hbltw).trans d1
          have c2 := (hbel.cell (p := ⟨b, off + k * 5 + 2, none⟩) hbltw).trans d2
          have c3 := (hbel.cell (p := ⟨b, off + k * 5 + 3, none⟩) hbltw).trans d3
          have c4 := (hbel.cell (p := ⟨b, off + k * 5 + 4, none⟩) hbltw).trans d4
          have hblt : b < wr.heap.size := by omega
          have hplc := plc_le x.file files
          obtain ⟨wB, hwB⟩ : ∃ wB, wB = wr.alloc (Obj.cells #[.string x.name, .string x.file, .slice la x.lines.length lcap, .slice xa x.index.length xcap, .slice ta x.tree.length tcap] 64) := ⟨_, rfl⟩
          have hbB : Below wr.heap.size wr wB := by rw [hwB]; exact (Below.refl _ _).alloc (Nat.le_refl _) _
          have HEBX : Hid (wB.heap[wr.heap.size]? = some (.cells #[.string x.name, .string x.file, .slice la x.lines.length lcap, .slice xa x.index.length xcap, .slice ta x.tree.length tcap] 64 (0, 0))) := by show _ = _; rw [hwB]; exact heap_alloc_new _ _
          have HBW := hid (hbel.trans (hbB.mono hsz))
          have HSL := hid (hslw.below HBW.out (Nat.le_refl _))
          have HSX := hid (hsxw.below HBW.out (Nat.le_refl _))
          have HST := hid (hstw.below HBW.out (Nat.le_refl _))
          have HOA := hid (owns_below hoA hbB)
          have HOF := hid (owns_below hoF hbB)
          have HPL := hid (placeOf_any x.file fa' files.length fc' files wB (hft.below hbB))
          have HENK := hid henc
          have HXK := hid hx
          obtain ⟨fl, hfl'⟩ : ∃ v, files.length = v := ⟨_, rfl⟩
          have HFL := hid hfl'
          obtain ⟨al, hal'⟩ : ∃ v, A.length = v := ⟨_, rfl⟩
          have HAL := hid hal'
          rw [hfl'] at HOF HPL hfl hplc
          rw [hal'] at HOA hAl
          rw [hal', hfl']
          clear d0 d1 d2 d3 d4 hslw hsxw hstw hoA hoF hft hbel henc hx hbB
          by_cases hnew : plc x.file files = files.length
          · rw [hfl'] at hnew
            rw [← hfl'] at hnew
            have HEB := hid (entryBytes_true x la xa ta lcap xcap tcap (plc x.file files) wB HSL.out HSX.out HST.out hew.lines hew.index hew.name hew.file (by omega) (by omega) hew.len hew.tree)
            have hxl := entX_le hew (plc x.file files) true
            have hxi : entX x (plc x.file files) true = entB' x files := by rw [← entX_is x files, decide_eq_true hnew]
            rw [hxi] at HEB hxl
            obtain ⟨X, hX⟩ : ∃ X, X = entB' x files := ⟨_, rfl⟩
            rw [← hX] at HEB hxl
            have HST2 : Hid (encI l = (A ++ X) ++ encF (l.drop (k + 1)) (filesD x.file files)) := by show _ = _; rw [HENK.out, encF_drop files HXK.out, hX, List.append_assoc]
            have hfd : filesD x.file files = files ++ [x.file] := by unfold filesD; rw [if_pos hnew]
            rw [hfd] at HST2
            have hbeq : ((plc x.file files : Int) == (fl : Int)) = true := by simp; omega
            have hfl20 := hew.file
            generalize hpf : (plc x.file files : Int) = pf at *
            clear hnew hX hxi hfd hpf HSL HSX HST HENK HXK hew
            generalize x.lines.length = ll at *
            generalize x.index.length = xl at *
            generalize x.tree.length = tl at *
            have z0 : wB.cell? ⟨wr.heap.size, 0, none⟩ = some (.string x.name) := by have h := HEBX.out; simp [World.cell?, h]
            have z1 : wB.cell? ⟨wr.heap.size, 1, none⟩ = some (.string x.file) := by have h := HEBX.out; simp [World.cell?, h]
            have z2 : wB.cell? ⟨wr.heap.size, 2, none⟩ = some (.slice la ll lcap) := by have h := HEBX.out; simp [World.cell?, h]
            have z3 : wB.cell? ⟨wr.heap.size, 3, none⟩ = some (.slice xa xl xcap) := by have h := HEBX.out; simp [World.cell?, h]
            have z4 : wB.cell? ⟨wr.heap.size, 4, none⟩ = some (.slice ta tl tcap) := by have h := HEBX.out; simp [World.cell?, h]
            go_wp2_with fail
            rw [← hwB]
            clear hwB c0 c1 c2 c3 c4
            refine HPL.out.mono ?_
            rintro e w' ⟨rfl, rfl⟩
            go_wp2_with fail
            refine HEB.out.mono ?_
            rintro e w2 ⟨v2, rfl, ho2, hb2⟩
            obtain ⟨gX, capX, rfl, -, -, hcsX⟩ := owns_some ho2 (by omega)
            have hoA := owns_below HOA.out hb2
            have hoF := owns_below HOF.out hb2
            have hbw2 : Below w.heap.size w w2 := HBW.out.trans (hb2.mono HBW.out.size)
            have hebl := (Array.getElem?_eq_some_iff.1 HEBX.out).1
            have heb2 := (hb2.block wr.heap.size hebl).trans HEBX.out
            have hs2 := hbw2.size
            have HA2 := hid hoA
            have HF2 := hid hoF
            have HB2 := hid hbw2
            have HE2 := hid heb2
            clear hoA hoF hbw2 heb2 ho2 hb2 HOA HOF HBW HEBX
            go_wp2_with (at_builtin; refine wpList_append_lies _ rfl (.tmp 45) (.tmp 49) 26 rfl w.heap.size 5 i0 (.int .u8 0) 1 1 Tryd.underlying26 hi hz0 hz1 hz2 rfl (by decide) _ _ _ rfl HA2.out ⟨gX, 0, none⟩ X.length capX (u8s X) rfl (by rw [u8s_len, Nat.mul_one]) hcsX (u8s_one X) (by omega) (by unfold maxLen; omega) (by omega) hs2 _ rfl ?_)
            intro g cap' w5 hown5 hgrow5 hat5 hlt5
            have K5 : KeepP (fun t => t == 9 || t == 64) w2 w5 := KeepP.grown (KeepP.refl w2) hgrow5 HA2.out (by decide)
            have hF5 := K5.owns HF2.out (by decide)
            have hE5 := K5.block wr.heap.size _ _ _ HE2.out (by decide)
            have hbw5 : Below w.heap.size w w5 := HB2.out.grown hgrow5 hs2 (fun q hq => (HA2.out.lt q hq).1)
            have hA5 : w5.ownsRow w.heap.size 5 1 (.slice (some ⟨g, 0, none⟩) (al + X.length) cap') (A ++ X).length (u8s (A ++ X)) := by
              have e1 : (A ++ X).length = al + X.length := by rw [List.length_append, HAL.out]
              rw [e1, u8s_append]; exact hown5
            have hAX : (A ++ X).length ≤ 10 + (k + 1) * 130000 := by rw [List.length_append, HAL.out]; omega
            have hs5 := hbw5.size
            clear hown5 hgrow5 hat5 hcsX HA2 HF2 HB2 HE2
            have q5 : w5.cell? ⟨wr.heap.size, 1, none⟩ = some (.string x.file) := by simp [World.cell?, hE5]
            have HF5 := hid hF5
            have HA5 := hid hA5
            have HB5 := hid hbw5
            clear hF5 hA5 hbw5 hE5 K5
            go_wp2_with (at_builtin; refine wpList_append_lies _ rfl (.tmp 52) (.tmp 55) 94 rfl w.heap.size 9 j0 (.string ⟨#[]⟩) 1 16 Tryd.underlying94 hj hy0 hy1 hy2 rfl (by decide) _ _ _ rfl (HF5.out.alloc _) ⟨w5.heap.size, 0, none⟩ 1 1 [.string x.file] rfl rfl (cell_one_new _ _ _) (fun u hu => by rw [List.mem_singleton.1 hu]; rfl) (by decide) (by unfold maxLen; omega) (by omega) (by simp; omega) _ rfl ?_)
            intro g7 cap7 w7 hown7 hgrow7 hat7 hlt7
            have HF7 : Hid (w7.ownsRow w.heap.size 5 1 (.slice (some ⟨g, 0, none⟩) (al + X.length) cap') (A ++ X).length (u8s (A ++ X)) ∧ w7.ownsRow w.heap.size 9 1 (.slice (some ⟨g7, 0, none⟩) (fl + 1) cap7) (files ++ [x.file]).length (strs (files ++ [x.file])) ∧ Below w.heap.size w w7) := by
              have K7 : KeepP (fun t => t == 5) w5 w7 := KeepP.grown ((KeepP.refl w5).alloc _) hgrow7 (HF5.out.alloc _) (by decide)
              refine ⟨K7.owns HA5.out (by decide), ?_, (HB5.out.alloc hs5 _).grown hgrow7 (by simp; omega) (fun q hq => (HF5.out.lt q hq).1)⟩
              have e1 : (files ++ [x.file]).length = fl + 1 := by simp [HFL.out]
              have e2 : strs (files ++ [x.file]) = strs files ++ [.string x.file] := by simp [strs]
              rw [e1, e2]; exact hown7
            clear hown7 hgrow7 hat7 q5 HF5 HA5 HB5
            go_wp2
            go_roundw
            case rel => exact ⟨k + 1, A ++ X, files ++ [x.file], by go_num, by omega, HST2.out, hAX, by simp [HFL.out]; omega, fun y hy => by
                rcases List.mem_append.1 hy with hm | hm
                · exact hf20 y hm
                · rw [List.mem_singleton.1 hm]; exact hfl20, HF7.out.1, HF7.out.2.1, HF7.out.2.2⟩
            case measure => simp [intOf]; omega
          · clear hal'
            have HEB := hid (entryBytes_false x la xa ta lcap xcap tcap (plc x.file files) wB HSL.out HSX.out HST.out hew.lines hew.index hew.name (by omega) (by omega) hew.len hew.tree)
            have hxl := entX_le hew (plc x.file files) false
            have hxi : entX x (plc x.file files) false = entB' x files := by rw [← entX_is x files, decide_eq_false hnew]
            rw [hxi] at HEB hxl
            obtain ⟨X, hX⟩ : ∃ X, X = entB' x files := ⟨_, rfl⟩
            rw [← hX] at HEB hxl
            have HST2 : Hid (encI l = (A ++ X) ++ encF (l.drop (k + 1)) (filesD x.file files)) := by show _ = _; rw [HENK.out, encF_drop files HXK.out, hX, List.append_assoc]
            have hfd : filesD x.file files = files := by unfold filesD; rw [if_neg hnew]
            rw [hfd] at HST2
            have hbeq : ((plc x.file files : Int) == (fl : Int)) = false := by simp; omega
            have hfl20 := hew.file
            generalize hpf : (plc x.file files : Int) = pf at *
            clear hnew hX hxi hfd hpf HSL HSX HST HENK HXK hew
            generalize x.lines.length = ll at *
            generalize x.index.length = xl at *
            generalize x.tree.length = tl at *
            have z0 : wB.cell? ⟨wr.heap.size, 0, none⟩ = some (.string x.name) := by have h := HEBX.out; simp [World.cell?, h]
            have z1 : wB.cell? ⟨wr.heap.size, 1, none⟩ = some (.string x.file) := by have h := HEBX.out; simp [World.cell?, h]
            have z2 : wB.cell? ⟨wr.heap.size, 2, none⟩ = some (.slice la ll lcap) := by have h := HEBX.out; simp [World.cell?, h]
            have z3 : wB.cell? ⟨wr.heap.size, 3, none⟩ = some (.slice xa xl xcap) := by have h := HEBX.out; simp [World.cell?, h]
            have z4 : wB.cell? ⟨wr.heap.size, 4, none⟩ = some (.slice ta tl tcap) := by have h := HEBX.out; simp [World.cell?, h]
            go_wp2_with fail
            rw [← hwB]
            clear hwB c0 c1 c2 c3 c4
            refine HPL.out.mono ?_
            rintro e w' ⟨rfl, rfl⟩
            go_wp2_with fail
            refine HEB.out.mono ?_
            rintro e w2 ⟨v2, rfl, ho2, hb2⟩
            obtain ⟨gX, capX, rfl, -, -, hcsX⟩ := owns_some ho2 (by omega)
            have hoA := owns_below HOA.out hb2
            have hoF := owns_below HOF.out hb2
            have hbw2 : Below w.heap.size w w2 := HBW.out.trans (hb2.mono HBW.out.size)
            have hebl := (Array.getElem?_eq_some_iff.1 HEBX.out).1
            have heb2 := (hb2.block wr.heap.size hebl).trans HEBX.out
            have hs2 := hbw2.size
            have HA2 := hid hoA
            have HF2 := hid hoF
            have HB2 := hid hbw2
            have HE2 := hid heb2
            clear hoA hoF hbw2 heb2 ho2 hb2 HOA HOF HBW HEBX
            go_wp2_with (at_builtin; refine wpList_append_lies _ rfl (.tmp 45) (.tmp 49) 26 rfl w.heap.size 5 i0 (.int .u8 0) 1 1 Tryd.underlying26 hi hz0 hz1 hz2 rfl (by decide) _ _ _ rfl HA2.out ⟨gX, 0, none⟩ X.length capX (u8s X) rfl (by rw [u8s_len, Nat.mul_one]) hcsX (u8s_one X) (by omega) (by unfold maxLen; omega) (by omega) hs2 _ rfl ?_)
            intro g cap' w5 hown5 hgrow5 hat5 hlt5
            have K5 : KeepP (fun t => t == 9 || t == 64) w2 w5 := KeepP.grown (KeepP.refl w2) hgrow5 HA2.out (by decide)
            have hF5 := K5.owns HF2.out (by decide)
            have hE5 := K5.block wr.heap.size _ _ _ HE2.out (by decide)
            have hbw5 : Below w.heap.size w w5 := HB2.out.grown hgrow5 hs2 (fun q hq => (HA2.out.lt q hq).1)
            have hA5 : w5.ownsRow w.heap.size 5 1 (.slice (some ⟨g, 0, none⟩) (al + X.length) cap') (A ++ X).length (u8s (A ++ X)) := by
              have e1 : (A ++ X).length = al + X.length := by rw [List.length_append, HAL.out]
              rw [e1, u8s_append]; exact hown5
            have hAX : (A ++ X).length ≤ 10 + (k + 1) * 130000 := by rw [List.length_append, HAL.out]; omega
            have hs5 := hbw5.size
            clear hown5 hgrow5 hat5 hcsX HA2 HF2 HB2 HE2
            have HF7 : Hid (w5.ownsRow w.heap.size 5 1 (.slice (some ⟨g, 0, none⟩) (al + X.length) cap') (A ++ X).length (u8s (A ++ X)) ∧ w5.ownsRow w.heap.size 9 1 (.slice fa' fl fc') files.length (strs files) ∧ Below w.heap.size w w5) := ⟨hA5, by rw [HFL.out]; exact hF5, hbw5⟩
            clear hA5 hF5 hbw5 hE5 K5
            go_wp2
            go_roundw
            case rel => exact ⟨k + 1, A ++ X, files, by go_num, by omega, HST2.out, hAX, by rw [HFL.out]; omega, hf20, HF7.out.1, HF7.out.2.1, HF7.out.2.2⟩
            case measure => simp [intOf]; omega
        · have hlt' : decide ((k : Int) < (len : Int)) = false := by simp; omega
          have HFIN : Hid (wr.ownsRow w.heap.size 5 1 (.slice va A.length vc) (encI l).length (u8s (encI l))) := by
            show World.ownsRow _ _ _ _ _ _ _
            rw [henc, List.drop_of_length_le (by rw [HL.out]; omega)]
            simpa [encF] using hoA
          go_wp2
          go_ret2
          exact ⟨_, rfl, HFIN.out, hbel⟩
end Go.Proofs.YtebjndcokkefhaaDoor
namespace Go.Proofs.YtebjndcokkefhaaDoor

/-- What is asked behind all but the last. -/
def lastQ (P : Program) (oL : Oper) (Q : Exit → Act → World → Prop) : Exit → Act → World → Prop
  | .normal, a, w => oL.wp P a w (fun a w => Q .normal a w) Q
  | e, a, w => Q e a w

theorem operWp_last {P : Program} {oL o : Oper} {Q : Exit → Act → World → Prop} {a : Act} {w : World} {K : Act → World → Prop} (h : o.wp P a w K (lastQ P oL Q)) : o.wp P a w K Q := by
  unfold Oper.wp at *
  generalize (execOp a.eval o).run P w = r at *
  cases r with
  | ok n w' =>
    cases n <;> simp only [Oper.upon] at h ⊢ <;>
      first
        | exact h
        | exact Calls.mono h (fun e w'' he => by cases e <;> exact he)
  | halt x w' => cases x <;> simp only [Oper.upon] at h ⊢ <;> exact h

theorem wpOp_last {P : Program} {ops : Array Oper} {oL : Oper} {Q : Exit → Act → World → Prop} {i : Nat} {K : Act → World → Prop} {a : Act} {w : World} (h : wpOp P ops (lastQ P oL Q) i K a w) : wpOp P ops Q i K a w := by
  unfold wpOp at *
  split
  · next ho => simpa [ho] using h
  · next o ho =>
    simp only [ho] at h
    split
    · next hw =>
      simp only [hw, if_true] at h
      exact h.imp operWp_last (fun h => ⟨h.1, h.2⟩)
    · next hw =>
      simp only [hw] at h
      exact h

theorem setL_getD {listed : Array Bool} {L j : Nat} {d : Bool} (h : j ≠ L) : (listed.setIfInBounds L true).getD j d = listed.getD j d := by
  simp [Array.getD_eq_getD_getElem?, Ne.symm h]

theorem wpAny_last {P : Program} {md : Region.Mode} {ops : Array Oper} {Q : Exit → Act → World → Prop} {S : World → Prop} {L : Nat} {oL : Oper} (hL : ops[L]? = some oL) (hn : L + 1 = ops.size) (hg : oL.guard = none)
    (hw : ∀ j, j < L → ∃ e ∈ oL.after, Region.binds md e = true ∧ e.on = j) (hb : ∀ (i : Nat) (o : Oper), ops[i]? = some o → ∀ e ∈ o.after, e.on < i) :
    ∀ (fuel : Nat) (listed : Array Bool) (a : Act) (w : World), listed.size = ops.size → listed.getD L true = false → wpAnyH P md ops (lastQ P oL Q) S fuel (listed.setIfInBounds L true) a w → wpAny P md ops Q (fuel + 1) listed a w := by
  have least : ∀ (n : Nat) (listed : Array Bool), listed.size = ops.size → n ≤ L → (∀ j, j < n → listed.getD j true = true) → listed.getD L true = false → ∃ j, j ∈ Region.ready md ops listed ∧ n ≤ j ∧ (j = L → ∀ i, i < L → listed.getD i true = true) := by
    intro n listed hs hn' hall hLf
    generalize hm : L - n = m
    induction m generalizing n with
    | zero =>
      have : n = L := by omega
      subst this
      refine ⟨n, mem_ready.2 ⟨hLf, oL, hL, fun e he _ => ?_⟩, Nat.le_refl _, fun _ => hall⟩
      have hlt := hb n oL hL e he
      have h1 := hall e.on hlt
      have hsz : e.on < listed.size := by omega
      simp [Array.getD_eq_getD_getElem?, Array.getElem?_eq_getElem hsz] at h1 ⊢
      exact h1
    | succ m ih =>
      cases hnl : listed.getD n true with
      | true =>
        obtain ⟨j, h1, h2, h3⟩ := ih (n + 1) (by omega) (fun j hj => by
          rcases Nat.lt_or_ge j n with h | h
          · exact hall j h
          · have : j = n := by omega
            rw [this]; exact hnl) (by omega)
        exact ⟨j, h1, by omega, h3⟩
      | false =>
        obtain ⟨o, ho⟩ : ∃ o, ops[n]? = some o := ⟨_, Array.getElem?_eq_getElem (by omega)⟩
        refine ⟨n, mem_ready.2 ⟨hnl, o, ho, fun e he _ => ?_⟩, Nat.le_refl _, fun e => by omega⟩
        have hlt := hb n o ho e he
        have h1 := hall e.on hlt
        have hsz : e.on < listed.size := by omega
        simp [Array.getD_eq_getD_getElem?, Array.getElem?_eq_getElem hsz] at h1 ⊢
        exact h1
  have fin : ∀ (fuel : Nat) (listed : Array Bool) (a : Act) (w : World), listed.size = ops.size → listed.getD L true = false → L ∈ Region.ready md ops listed → (Region.ready md ops (listed.setIfInBounds L true) = [] → lastQ P oL Q .normal a w) → wpOp P ops Q L (wpAny P md ops Q fuel (listed.setIfInBounds L true)) a w := by
    intro fuel listed a w hs hLf hr h
    obtain ⟨-, o, ho, hall⟩ := mem_ready.1 hr
    rw [hL] at ho
    cases ho
    have hemp : Region.ready md ops (listed.setIfInBounds L true) = [] := by
      refine List.eq_nil_iff_forall_not_mem.2 fun j hj => ?_
      obtain ⟨h1, o, ho, -⟩ := mem_ready.1 hj
      have hlt : j < ops.size := (Array.getElem?_eq_some_iff.1 ho).1
      by_cases hjL : j = L
      · subst hjL
        have hsz : j < listed.size := by omega
        simp [Array.getD_eq_getD_getElem?, hsz] at h1
      · rw [setL_getD hjL] at h1
        obtain ⟨e, he, hbi, rfl⟩ := hw j (by omega)
        have h2 := hall e he hbi
        have hsz : e.on < listed.size := by omega
        simp [Array.getD_eq_getD_getElem?, Array.getElem?_eq_getElem hsz] at h1 h2
        rw [h1] at h2
        cases h2
    have hq := h hemp
    unfold wpOp
    simp only [hL]
    have hwa : Region.wanted oL (yielded ops a.tmps) = true := by simp [Region.wanted, hg]
    rw [if_pos hwa]
    refine .inl (Oper.wp_mono (fun a w hq => ?_) hq)
    cases fuel with
    | zero => exact ⟨hemp, hq⟩
    | succ n => exact ⟨fun _ => hq, fun i hi => by rw [hemp] at hi; cases hi⟩
  have other : ∀ (i : Nat) (listed : Array Bool), i ≠ L → i ∈ Region.ready md ops listed → i ∈ Region.ready md ops (listed.setIfInBounds L true) := by
    intro i listed hne hi
    obtain ⟨h1, o, ho, hall⟩ := mem_ready.1 hi
    have hlt : i < ops.size := (Array.getElem?_eq_some_iff.1 ho).1
    refine mem_ready.2 ⟨by rw [setL_getD hne]; exact h1, o, ho, fun e he hbi => ?_⟩
    have := hb i o ho e he
    rw [setL_getD (by omega)]
    exact hall e he hbi
  intro fuel
  induction fuel with
  | zero =>
    intro listed a w hs hLf h
    obtain ⟨j0, hj0, -, -⟩ := least 0 listed hs (by omega) (fun j hj => by omega) hLf
    refine ⟨fun e => (by rw [e] at hj0; cases hj0), fun i hi => ?_⟩
    by_cases hiL : i = L
    · subst hiL
      exact fin 0 listed a w hs hLf hi (fun _ => h.2)
    · have := other i listed hiL hi
      rw [h.1] at this
      cases this
  | succ fuel ih =>
    intro listed a w hs hLf h
    obtain ⟨j0, hj0, -, -⟩ := least 0 listed hs (by omega) (fun j hj => by omega) hLf
    refine ⟨fun e => (by rw [e] at hj0; cases hj0), fun i hi => ?_⟩
    by_cases hiL : i = L
    · subst hiL
      exact fin _ listed a w hs hLf hi h.1
    · refine wpOp_mono (fun a' w' h' => ?_) (wpOp_last (h.2 i (other i listed hiL hi)))
      refine ih (listed.setIfInBounds i true) a' w' (by simpa using hs) (by rw [setL_getD (Ne.symm hiL)]; exact hLf) ?_
      rw [Array.setIfInBounds_comm _ _ hiL]
      exact h'.2

/-- The beginning of such a region: number L, its last operation, is told apart. -/
theorem wp_region_last {P : Program} {ops : Array Oper} {Q : Exit → Act → World → Prop} {id : Nat} {a : Act} {w : World} (S : World → Prop) (L : Nat) (oL : Oper) (hm : P.follows .mixedOrders = true) (hL : ops[L]? = some oL) (hn : L + 1 = ops.size) (hg : oL.guard = none)
    (hw : ((List.range L).all fun j => oL.after.any fun e => Region.binds .any e && e.on == j) = true) (hb : ((List.range ops.size).all fun i => ((ops[i]?).map fun o => o.after.all fun e => decide (e.on < i)).getD true) = true) (hS : S w.drew)
    (h : S w.drew → wpAnyH P .any ops (lastQ P oL Q) S L ((Array.replicate ops.size false).setIfInBounds L true) a w.drew) : (Code.region id ops true).wp P Q a w := by
  refine wp_region_any hm ?_
  have hw' : ∀ j, j < L → ∃ e ∈ oL.after, Region.binds .any e = true ∧ e.on = j := fun j hj => by
    have h1 := List.all_eq_true.1 hw j (List.mem_range.2 hj)
    obtain ⟨e, he, h2⟩ := Array.any_eq_true'.1 h1
    simp at h2
    exact ⟨e, he, h2⟩
  have hb' : ∀ (i : Nat) (o : Oper), ops[i]? = some o → ∀ e ∈ o.after, e.on < i := fun i o ho e he => by
    have h1 := List.all_eq_true.1 hb i (List.mem_range.2 (Array.getElem?_eq_some_iff.1 ho).1)
    rw [ho] at h1
    simp only [Option.map_some, Option.getD_some] at h1
    have h2 := Array.all_eq_true'.1 h1 e he
    simpa using h2
  have := wpAny_last (S := S) hL hn hg hw' hb' L (Array.replicate ops.size false) a w.drew (by simp) (by
    have hlt : L < ops.size := by omega
    simp [Array.getD_eq_getD_getElem?, hlt]) (h hS)
  rw [hn] at this
  exact this
end Go.Proofs.YtebjndcokkefhaaDoor
