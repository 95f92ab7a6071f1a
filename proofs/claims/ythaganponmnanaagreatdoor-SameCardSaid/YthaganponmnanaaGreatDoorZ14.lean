/- The contract of the developers' image.Encode where an image is well-formed: its bytes, in a row of the call's own; nothing that was there is written. Laws on rows of a call's own that hold of any program: an append whose run is known, the capacity behind an append, a copy of elements of whatever size, stores of pairs. -/
import Derived.Test.YthaganponmnanaaGreatDoorI14
import Derived.Test.YthaganponmnanaaGreatDoorZ1
import Derived.Deep.DeepMakeLenPanics
namespace Go.Proofs.YthaganponmnanaaGreatDoor
open Go.RowKit

theorem wfIF_at {n : Int} : ∀ {l : List EntD} {names : List ByteArray} {room : Int} {k : Nat} {x : EntD}, wfIF n l names room = true → l[k]? = some x → ∃ names' room', entOk n x names' room' = true
  | [], _, _, _, _, _, h => by simp at h
  | y :: r, names, room, k, x, h, hx => by
    unfold wfIF at h
    rw [Bool.and_eq_true] at h
    cases k with
    | zero => simp at hx; subst hx; exact ⟨_, _, h.1⟩
    | succ k => exact wfIF_at h.2 (by simpa using hx)

/-- What is asked of an entry to write it. -/
structure EntW (x : EntD) : Prop where
  name : x.name.size ≤ 20
  file : x.file.size ≤ 20
  lines : wfT x.lines = true
  index : wfT x.index = true
  len : x.tree.length ≤ 9999
  tree : ∀ j, j < x.tree.length → 0 ≤ (x.tree.getD j (0, 0)).1 ∧ (x.tree.getD j (0, 0)).1 ≤ 2147483647 ∧ 0 ≤ (x.tree.getD j (0, 0)).2 ∧ (x.tree.getD j (0, 0)).2 ≤ 2147483647
theorem entW_of {n : Int} {x : EntD} {names : List ByteArray} {room : Int} (h : entOk n x names room = true) (hn : n ≤ 12) : EntW x := by
  obtain ⟨p1, p2, p3, p4, p5, p6, p7, p8⟩ := entOk_parts h
  have hwi : wfS x.index (-1) 1000 = true := by unfold wfT at p4; rw [Bool.and_eq_true] at p4; exact p4.1
  have hm := mostT_le hwi
  have hu := unroll_all_len hwi
  refine ⟨by unfold newB at p1; rw [Bool.and_eq_true] at p1; exact wordB_size p1.1, wordB_size p2, p3, p4, by omega, fun j hj => ?_⟩
  obtain ⟨q1, q2⟩ := treeOk_at n (unroll x.index) x.tree j 1 (-1) p8 hj
  have q3 := treeOk_nn n (unroll x.index) x.tree 1 (-1) (by omega) p8 j hj
  unfold withB at q1
  have q4 := of_decide_eq_true q1
  unfold pcB at q2
  rw [Bool.and_eq_true] at q2
  have q5 := of_decide_eq_true q2.1
  exact ⟨q4.1, by omega, q3, by omega⟩

theorem entX_le {x : EntD} (h : EntW x) (file : Int) (isNew : Bool) : 1 ≤ (entX x file isNew).length ∧ (entX x file isNew).length ≤ 130000 := by
  have h1 := textB_len x.name h.name
  have h2 := textB_len x.file h.file
  have h3 := putS_range h.lines
  have h4 := putS_range h.index
  have h5 := nodesB_le x.tree
  have h6 := numB_len file
  have h7 := h.len
  unfold entX
  cases isNew with
  | true => simp only [if_true, List.length_append]; omega
  | false => simp only [Bool.false_eq_true, if_false, List.length_append, List.length_nil]; omega

theorem entX_is (x : EntD) (files : List ByteArray) : entX x (plc x.file files) (decide (plc x.file files = files.length)) = entB' x files := by
  unfold entX entB' fileB
  by_cases h : plc x.file files = files.length
  · rw [decide_eq_true h, if_pos rfl, if_pos h]; simp [List.append_assoc]
  · rw [decide_eq_false h, if_neg (by simp), if_neg h]; simp

theorem encF_drop {l : List EntD} {k : Nat} {x : EntD} (files : List ByteArray) (hx : l[k]? = some x) : encF (l.drop k) files = entB' x files ++ encF (l.drop (k + 1)) (filesD x.file files) := by
  obtain ⟨hk, e⟩ := List.getElem?_eq_some_iff.1 hx
  rw [List.drop_eq_getElem_cons hk, e]; rfl

set_option maxHeartbeats 4000000 in
set_option maxRecDepth 100000 in
theorem iencode_wf (fa : Option Addr) (len fcap : Nat) (l : List EntD) (w : World) (hr : RdI w fa len fcap l) (hwf : wfI l = true) (hH : HeadAt w) :
    Calls Tryz.prog 33 #[.agg #[.slice fa len fcap]] w fun e w' => ∃ v, e = .returned (.tuple #[v, .int .i64 0]) ∧ w'.ownsRow w.heap.size 5 1 v (encI l).length (u8s (encI l)) ∧ Below w.heap.size w w' := by
  have HL := hid hr.1
  have hcap := hr.2.1
  have hmax := hr.2.2.1
  unfold maxLen at hmax
  have hwf2 := hwf
  unfold wfI at hwf2
  rw [Bool.and_eq_true, HL.out] at hwf2
  have h12 := of_decide_eq_true hwf2.1
  have HEW := hid (fun (k : Nat) (x : EntD) (hx : l[k]? = some x) => by obtain ⟨n', r', h'⟩ := wfIF_at hwf2.2 hx; exact entW_of h' (by omega))
  have HHL := hH.lt
  obtain ⟨wA, hwA⟩ : ∃ wA, wA = w.alloc (Obj.cells #[.slice fa len fcap] 83) := ⟨_, rfl⟩
  have hbA : Below w.heap.size w wA := by rw [hwA]; exact (Below.refl _ _).alloc (Nat.le_refl _) _
  have heA : wA.heap[w.heap.size]? = some (.cells #[.slice fa len fcap] 83 (0, 0)) := by rw [hwA]; exact heap_alloc_new _ _
  have hsA : wA.heap.size = w.heap.size + 1 := by rw [hwA]; simp
  have HWF := hid (iwf_true fa len fcap l wA (hr.below hbA) hwf)
  obtain ⟨i0, hi, hz0, hz1, hz2⟩ := info_parts Tryz.infoByte
  obtain ⟨j0, hj, hy0, hy1, hy2⟩ := info_parts Tryz.infoString
  have HR := hid hr
  have HHD := hid hH
  have HNB := hid (fun W => bytes_any (len : Int) W (by omega) (by omega))
  have hnb := numB_len (len : Int)
  have HENC : Hid (encI l = ([85, 70, 1] ++ numB (len : Int)) ++ encF l []) := by show _ = _; unfold encI; rw [HL.out]; simp
  clear hr hwf hwf2 hH
  go_enter Tryz.func33, Tryz.ntmps33
  go_wp2_with fail
  rw [← hwA]
  clear hwA
  refine HWF.out.mono ?_
  rintro e w1 ⟨rfl, b1⟩
  have bw1 : Below w.heap.size w w1 := hbA.trans (b1.mono hbA.size)
  have e1 := (b1.block w.heap.size (by omega)).trans heA
  obtain ⟨g0, g1, g2⟩ := HHD.out.below bw1 (Nat.le_refl _)
  have HB1 := hid bw1
  have HE1 := hid e1
  have hs1 := bw1.size
  have hlt1 : w.heap.size < w1.heap.size := (Array.getElem?_eq_some_iff.1 e1).1
  clear bw1 b1 heA hbA e1 HWF HHD
  go_wp2
  go_loopw [4, 16] (fun v i wr => ∃ k : Nat, i = .int .i64 k ∧ k ≤ 3 ∧ wr.ownsRow w.heap.size 5 1 v k (u8s ([(85 : Int), 70, 1].take k)) ∧ Below w.heap.size w wr ∧ wr.heap[w.heap.size]? = some (.cells #[.slice fa len fcap] 83 (0, 0))) (fun _ i _ => 3 - (intOf i).toNat)
  case atStart => exact ⟨0, rfl, by omega, World.ownsRow_nil _ _ _ _, HB1.out, HE1.out⟩
  case round =>
    clear g0 g1 g2 HB1 HE1
    obtain ⟨k, rfl, hk3, hown, hbel, hbox⟩ := hrel
    have hsz := hbel.size
    have hltw : w.heap.size < wr.heap.size := (Array.getElem?_eq_some_iff.1 hbox).1
    by_cases h3 : k < 3
    · obtain ⟨c, hd, hidx⟩ := head_index k h3
      have h3' : (k : Int) < 3 := by omega
      have htk : [(85 : Int), 70, 1].take (k + 1) = [(85 : Int), 70, 1].take k ++ [c] := by
        have h5 : [(85 : Int), 70, 1].take (k + 1) = [(85 : Int), 70, 1].take k ++ ([(85 : Int), 70, 1].drop k).take 1 := by rw [← List.take_add]
        rw [h5, hd]; rfl
      have HTK := hid htk
      obtain ⟨va, vc, rfl, -, -⟩ := owns_form hown
      have HO := hid hown
      have HBX := hid hbox
      have HBL := hid hbel
      clear hown hbox hbel hd htk
      go_wp2_with (at_builtin; refine wpList_append_lies _ rfl (.tmp 19) (.tmp 21) 28 rfl w.heap.size 5 i0 (.int .u8 0) 1 1 Tryz.underlying28 hi hz0 hz1 hz2 rfl (by decide) _ _ _ rfl (HO.out.alloc _) ⟨wr.heap.size, 0, none⟩ 1 1 [.int .u8 c] rfl rfl (cell_one_new _ _ _) (fun u hu => by rw [List.mem_singleton.1 hu]; rfl) (by decide) (by unfold maxLen; omega) (by omega) (by simp; omega) _ rfl ?_)
      intro g cap' w5 hown5 hgrow5 hat5 hlt5
      have HF : Hid (w5.ownsRow w.heap.size 5 1 (.slice (some ⟨g, 0, none⟩) (k + 1) cap') (k + 1) (u8s ([(85 : Int), 70, 1].take (k + 1))) ∧ Below w.heap.size w w5 ∧ w5.heap[w.heap.size]? = some (.cells #[.slice fa len fcap] 83 (0, 0))) := by
        refine ⟨by rw [HTK.out, u8s_snoc]; exact hown5, (HBL.out.alloc hsz _).grown hgrow5 (by simp; omega) (fun q hq => (HO.out.lt q hq).1), ?_⟩
        exact (hgrow5.block w.heap.size (by simp; omega) (owns_other HO.out HBX.out (by decide))).trans ((heap_alloc_old _ _ hltw).trans HBX.out)
      clear hown5 hgrow5 hat5 HO HBX HBL HTK hidx
      go_wp2
      go_roundw
      case rel => exact ⟨k + 1, by go_num, by omega, HF.out.1, HF.out.2.1, HF.out.2.2⟩
      case measure => simp [intOf]; omega
    · have hk' : k = 3 := by omega
      subst hk'
      obtain ⟨va, vc, rfl, -, -⟩ := owns_form hown
      have qb : wr.cell? ⟨w.heap.size, 0, none⟩ = some (.slice fa len fcap) := by simp [World.cell?, hbox]
      have HO := hid hown
      have HBX := hid hbox
      have HBL := hid hbel
      clear hown hbox hbel
      generalize wr = wz at *
      go_wp2_with fail
      refine (HNB.out wz).mono ?_
      rintro e w2 ⟨v2, rfl, ho2, hb2⟩
      obtain ⟨N, hN⟩ : ∃ N, N = numB (len : Int) := ⟨_, rfl⟩
      rw [← hN] at ho2 hnb HENC
      clear hN
      obtain ⟨gN, capN, rfl, -, -, hcsN⟩ := owns_some ho2 (by omega)
      have ho3 := owns_below HO.out hb2
      have hb3 : Below w.heap.size w w2 := HBL.out.trans (hb2.mono hsz)
      have hx3 := (hb2.block w.heap.size hltw).trans HBX.out
      have hs3 := hb3.size
      have HO3 := hid ho3
      have HB3 := hid hb3
      have HX3 := hid hx3
      clear ho3 hb3 hx3 ho2 hb2 HO HBX HBL qb
      go_wp2_with (at_builtin; refine wpList_append_lies _ rfl (.tmp 24) (.tmp 28) 28 rfl w.heap.size 5 i0 (.int .u8 0) 1 1 Tryz.underlying28 hi hz0 hz1 hz2 rfl (by decide) _ _ _ rfl HO3.out ⟨gN, 0, none⟩ N.length capN (u8s N) rfl (by rw [u8s_len, Nat.mul_one]) hcsN (u8s_one N) (by omega) (by unfold maxLen; omega) (by omega) hs3 _ rfl ?_)
      intro g cap' w5 hown5 hgrow5 hat5 hlt5
      have hx5 := (hgrow5.block w.heap.size (Array.getElem?_eq_some_iff.1 HX3.out).1 (owns_other HO3.out HX3.out (by decide))).trans HX3.out
      have q5 : w5.cell? ⟨w.heap.size, 0, none⟩ = some (.slice fa len fcap) := by simp [World.cell?, hx5]
      have HF : Hid (w5.ownsRow w.heap.size 5 1 (.slice (some ⟨g, 0, none⟩) (3 + N.length) cap') ([85, 70, 1] ++ N).length (u8s ([85, 70, 1] ++ N)) ∧ Below w.heap.size w w5) := by
        refine ⟨?_, HB3.out.grown hgrow5 hs3 (fun q hq => (HO3.out.lt q hq).1)⟩
        have e1 : ([85, 70, 1] ++ N).length = 3 + N.length := by rw [List.length_append]; rfl
        rw [e1, u8s_append]; exact hown5
      clear hown5 hgrow5 hat5 HO3 HB3 HX3 hcsN hx5
      go_wp2
      go_loopw [4, 7, 33] (fun bv fv i wr => ∃ (k : Nat) (A : List Int) (files : List ByteArray), i = .int .i64 k ∧ k ≤ len ∧ encI l = A ++ encF (l.drop k) files ∧ A.length ≤ 10 + k * 130000 ∧ files.length ≤ k ∧ (∀ x ∈ files, x.size ≤ 20) ∧ wr.ownsRow w.heap.size 5 1 bv A.length (u8s A) ∧ wr.ownsRow w.heap.size 9 1 fv files.length (strs files) ∧ Below w.heap.size w wr) (fun _ _ i _ => len - (intOf i).toNat)
      case atStart => exact ⟨0, [85, 70, 1] ++ N, [], rfl, by omega, HENC.out, by rw [List.length_append]; simp; omega, by simp, fun x hx => by simp at hx, HF.out.1, World.ownsRow_nil _ _ _ _, HF.out.2⟩
      case round =>
        clear HF q5 HENC
        obtain ⟨k, A, files, rfl, hk, henc, hAl, hfl, hf20, hoA, hoF, hbel⟩ := hrel
        have hsz := hbel.size
        obtain ⟨va, vc, rfl, -, -⟩ := owns_form hoA
        obtain ⟨fa', fc', rfl, hft, -⟩ := rdT_of_owns hoF rfl hf20
        by_cases hlt : k < len
        · obtain ⟨x, hx⟩ : ∃ x, l[k]? = some x := ⟨_, List.getElem?_eq_getElem (by rw [HL.out]; exact hlt)⟩
          have hew := HEW.out k x hx
          obtain ⟨b, off, la, lcap, xa, xcap, ta, tcap, rfl, d0, d1, d2, d3, d4, hslw, hsxw, hstw⟩ := HR.out.at hx
          have hbltw := World.block_lt_of_cell? w _ d0
          simp only at hbltw
          have c0 := (hbel.cell (p := ⟨b, off + k * 5, none⟩) hbltw).trans d0
          have c1 := (hbel.cell (p := ⟨b, off + k * 5 + 1, none⟩) hbltw).trans d1
          have c2 := (hbel.cell (p := ⟨b, off + k * 5 + 2, none⟩) hbltw).trans d2
          have c3 := (hbel.cell (p := ⟨b, off + k * 5 + 3, none⟩) hbltw).trans d3
          have c4 := (hbel.cell (p := ⟨b, off + k * 5 + 4, none⟩) hbltw).trans d4
          have hblt : b < wr.heap.size := by omega
          have hplc := plc_le x.file files
          obtain ⟨wB, hwB⟩ : ∃ wB, wB = wr.alloc (Obj.cells #[.string x.name, .string x.file, .slice la x.lines.length lcap, .slice xa x.index.length xcap, .slice ta x.tree.length tcap] 90) := ⟨_, rfl⟩
          have hbB : Below wr.heap.size wr wB := by rw [hwB]; exact (Below.refl _ _).alloc (Nat.le_refl _) _
          have HEBX : Hid (wB.heap[wr.heap.size]? = some (.cells #[.string x.name, .string x.file, .slice la x.lines.length lcap, .slice xa x.index.length xcap, .slice ta x.tree.length tcap] 90 (0, 0))) := by show _ = _; rw [hwB]; exact heap_alloc_new _ _
          have HBW := hid (hbel.trans (hbB.mono hsz))
          have HSL := hid (hslw.below HBW.out (Nat.le_refl _))
          have HSX := hid (hsxw.below HBW.out (Nat.le_refl _))
          have HST := hid (hstw.below HBW.out (Nat.le_refl _))
          have HOA := hid (owns_below hoA hbB)
          have HOF := hid (owns_below hoF hbB)
          have HPL := hid (placeOf_any x.file fa' files.length fc' files wB (hft.below hbB))
          have HENK := hid henc
          have HXK := hid hx
          obtain ⟨fl, hfl'⟩ : ∃ v, files.length = v := ⟨_, rfl⟩
          have HFL := hid hfl'
          obtain ⟨al, hal'⟩ : ∃ v, A.length = v := ⟨_, rfl⟩
          have HAL := hid hal'
          rw [hfl'] at HOF HPL hfl hplc
          rw [hal'] at HOA hAl
          rw [hal', hfl']
          clear d0 d1 d2 d3 d4 hslw hsxw hstw hoA hoF hft hbel henc hx hbB
          by_cases hnew : plc x.file files = files.length
          · rw [hfl'] at hnew
            rw [← hfl'] at hnew
            have HEB := hid (entryBytes_true x la xa ta lcap xcap tcap (plc x.file files) wB HSL.out HSX.out HST.out hew.lines hew.index hew.name hew.file (by omega) (by omega) hew.len hew.tree)
            have hxl := entX_le hew (plc x.file files) true
            have hxi : entX x (plc x.file files) true = entB' x files := by rw [← entX_is x files, decide_eq_true hnew]
            rw [hxi] at HEB hxl
            obtain ⟨X, hX⟩ : ∃ X, X = entB' x files := ⟨_, rfl⟩
            rw [← hX] at HEB hxl
            have HST2 : Hid (encI l = (A ++ X) ++ encF (l.drop (k + 1)) (filesD x.file files)) := by show _ = _; rw [HENK.out, encF_drop files HXK.out, hX, List.append_assoc]
            have hfd : filesD x.file files = files ++ [x.file] := by unfold filesD; rw [if_pos hnew]
            rw [hfd] at HST2
            have hbeq : ((plc x.file files : Int) == (fl : Int)) = true := by simp; omega
            have hfl20 := hew.file
            generalize hpf : (plc x.file files : Int) = pf at *
            clear hnew hX hxi hfd hpf HSL HSX HST HENK HXK hew
            generalize x.lines.length = ll at *
            generalize x.index.length = xl at *
            generalize x.tree.length = tl at *
            have z0 : wB.cell? ⟨wr.heap.size, 0, none⟩ = some (.string x.name) := by have h := HEBX.out; simp [World.cell?, h]
            have z1 : wB.cell? ⟨wr.heap.size, 1, none⟩ = some (.string x.file) := by have h := HEBX.out; simp [World.cell?, h]
            have z2 : wB.cell? ⟨wr.heap.size, 2, none⟩ = some (.slice la ll lcap) := by have h := HEBX.out; simp [World.cell?, h]
            have z3 : wB.cell? ⟨wr.heap.size, 3, none⟩ = some (.slice xa xl xcap) := by have h := HEBX.out; simp [World.cell?, h]
            have z4 : wB.cell? ⟨wr.heap.size, 4, none⟩ = some (.slice ta tl tcap) := by have h := HEBX.out; simp [World.cell?, h]
            go_wp2_with fail
            rw [← hwB]
            clear hwB c0 c1 c2 c3 c4
            refine HPL.out.mono ?_
            rintro e w' ⟨rfl, rfl⟩
            go_wp2_with fail
            refine HEB.out.mono ?_
            rintro e w2 ⟨v2, rfl, ho2, hb2⟩
            obtain ⟨gX, capX, rfl, -, -, hcsX⟩ := owns_some ho2 (by omega)
            have hoA := owns_below HOA.out hb2
            have hoF := owns_below HOF.out hb2
            have hbw2 : Below w.heap.size w w2 := HBW.out.trans (hb2.mono HBW.out.size)
            have hebl := (Array.getElem?_eq_some_iff.1 HEBX.out).1
            have heb2 := (hb2.block wr.heap.size hebl).trans HEBX.out
            have hs2 := hbw2.size
            have HA2 := hid hoA
            have HF2 := hid hoF
            have HB2 := hid hbw2
            have HE2 := hid heb2
            clear hoA hoF hbw2 heb2 ho2 hb2 HOA HOF HBW HEBX
            go_wp2_with (at_builtin; refine wpList_append_lies _ rfl (.tmp 45) (.tmp 49) 28 rfl w.heap.size 5 i0 (.int .u8 0) 1 1 Tryz.underlying28 hi hz0 hz1 hz2 rfl (by decide) _ _ _ rfl HA2.out ⟨gX, 0, none⟩ X.length capX (u8s X) rfl (by rw [u8s_len, Nat.mul_one]) hcsX (u8s_one X) (by omega) (by unfold maxLen; omega) (by omega) hs2 _ rfl ?_)
            intro g cap' w5 hown5 hgrow5 hat5 hlt5
            have K5 : KeepP (fun t => t == 9 || t == 90) w2 w5 := KeepP.grown (KeepP.refl w2) hgrow5 HA2.out (by decide)
            have hF5 := K5.owns HF2.out (by decide)
            have hE5 := K5.block wr.heap.size _ _ _ HE2.out (by decide)
            have hbw5 : Below w.heap.size w w5 := HB2.out.grown hgrow5 hs2 (fun q hq => (HA2.out.lt q hq).1)
            have hA5 : w5.ownsRow w.heap.size 5 1 (.slice (some ⟨g, 0, none⟩) (al + X.length) cap') (A ++ X).length (u8s (A ++ X)) := by
              have e1 : (A ++ X).length = al + X.length := by rw [List.length_append, HAL.out]
              rw [e1, u8s_append]; exact hown5
            have hAX : (A ++ X).length ≤ 10 + (k + 1) * 130000 := by rw [List.length_append, HAL.out]; omega
            have hs5 := hbw5.size
            clear hown5 hgrow5 hat5 hcsX HA2 HF2 HB2 HE2
            have q5 : w5.cell? ⟨wr.heap.size, 1, none⟩ = some (.string x.file) := by simp [World.cell?, hE5]
            have HF5 := hid hF5
            have HA5 := hid hA5
            have HB5 := hid hbw5
            clear hF5 hA5 hbw5 hE5 K5
            go_wp2_with (at_builtin; refine wpList_append_lies _ rfl (.tmp 52) (.tmp 55) 123 rfl w.heap.size 9 j0 (.string ⟨#[]⟩) 1 16 Tryz.underlying123 hj hy0 hy1 hy2 rfl (by decide) _ _ _ rfl (HF5.out.alloc _) ⟨w5.heap.size, 0, none⟩ 1 1 [.string x.file] rfl rfl (cell_one_new _ _ _) (fun u hu => by rw [List.mem_singleton.1 hu]; rfl) (by decide) (by unfold maxLen; omega) (by omega) (by simp; omega) _ rfl ?_)
            intro g7 cap7 w7 hown7 hgrow7 hat7 hlt7
            have HF7 : Hid (w7.ownsRow w.heap.size 5 1 (.slice (some ⟨g, 0, none⟩) (al + X.length) cap') (A ++ X).length (u8s (A ++ X)) ∧ w7.ownsRow w.heap.size 9 1 (.slice (some ⟨g7, 0, none⟩) (fl + 1) cap7) (files ++ [x.file]).length (strs (files ++ [x.file])) ∧ Below w.heap.size w w7) := by
              have K7 : KeepP (fun t => t == 5) w5 w7 := KeepP.grown ((KeepP.refl w5).alloc _) hgrow7 (HF5.out.alloc _) (by decide)
              refine ⟨K7.owns HA5.out (by decide), ?_, (HB5.out.alloc hs5 _).grown hgrow7 (by simp; omega) (fun q hq => (HF5.out.lt q hq).1)⟩
              have e1 : (files ++ [x.file]).length = fl + 1 := by simp [HFL.out]
              have e2 : strs (files ++ [x.file]) = strs files ++ [.string x.file] := by simp [strs]
              rw [e1, e2]; exact hown7
            clear hown7 hgrow7 hat7 q5 HF5 HA5 HB5
            go_wp2
            go_roundw
            case rel => exact ⟨k + 1, A ++ X, files ++ [x.file], by go_num, by omega, HST2.out, hAX, by simp [HFL.out]; omega, fun y hy => by
                rcases List.mem_append.1 hy with hm | hm
                · exact hf20 y hm
                · rw [List.mem_singleton.1 hm]; exact hfl20, HF7.out.1, HF7.out.2.1, HF7.out.2.2⟩
            case measure => simp [intOf]; omega
          · clear hal'
            have HEB := hid (entryBytes_false x la xa ta lcap xcap tcap (plc x.file files) wB HSL.out HSX.out HST.out hew.lines hew.index hew.name (by omega) (by omega) hew.len hew.tree)
            have hxl := entX_le hew (plc x.file files) false
            have hxi : entX x (plc x.file files) false = entB' x files := by rw [← entX_is x files, decide_eq_false hnew]
            rw [hxi] at HEB hxl
            obtain ⟨X, hX⟩ : ∃ X, X = entB' x files := ⟨_, rfl⟩
            rw [← hX] at HEB hxl
            have HST2 : Hid (encI l = (A ++ X) ++ encF (l.drop (k + 1)) (filesD x.file files)) := by show _ = _; rw [HENK.out, encF_drop files HXK.out, hX, List.append_assoc]
            have hfd : filesD x.file files = files := by unfold filesD; rw [if_neg hnew]
            rw [hfd] at HST2
            have hbeq : ((plc x.file files : Int) == (fl : Int)) = false := by simp; omega
            have hfl20 := hew.file
            generalize hpf : (plc x.file files : Int) = pf at *
            clear hnew hX hxi hfd hpf HSL HSX HST HENK HXK hew
            generalize x.lines.length = ll at *
            generalize x.index.length = xl at *
            generalize x.tree.length = tl at *
            have z0 : wB.cell? ⟨wr.heap.size, 0, none⟩ = some (.string x.name) := by have h := HEBX.out; simp [World.cell?, h]
            have z1 : wB.cell? ⟨wr.heap.size, 1, none⟩ = some (.string x.file) := by have h := HEBX.out; simp [World.cell?, h]
            have z2 : wB.cell? ⟨wr.heap.size, 2, none⟩ = some (.slice la ll lcap) := by have h := HEBX.out; simp [World.cell?, h]
            have z3 : wB.cell? ⟨wr.heap.size, 3, none⟩ = some (.slice xa xl xcap) := by have h := HEBX.out; simp [World.cell?, h]
            have z4 : wB.cell? ⟨wr.heap.size, 4, none⟩ = some (.slice ta tl tcap) := by have h := HEBX.out; simp [World.cell?, h]
            go_wp2_with fail
            rw [← hwB]
            clear hwB c0 c1 c2 c3 c4
            refine HPL.out.mono ?_
            rintro e w' ⟨rfl, rfl⟩
            go_wp2_with fail
            refine HEB.out.mono ?_
            rintro e w2 ⟨v2, rfl, ho2, hb2⟩
            obtain ⟨gX, capX, rfl, -, -, hcsX⟩ := owns_some ho2 (by omega)
            have hoA := owns_below HOA.out hb2
            have hoF := owns_below HOF.out hb2
            have hbw2 : Below w.heap.size w w2 := HBW.out.trans (hb2.mono HBW.out.size)
            have hebl := (Array.getElem?_eq_some_iff.1 HEBX.out).1
            have heb2 := (hb2.block wr.heap.size hebl).trans HEBX.out
            have hs2 := hbw2.size
            have HA2 := hid hoA
            have HF2 := hid hoF
            have HB2 := hid hbw2
            have HE2 := hid heb2
            clear hoA hoF hbw2 heb2 ho2 hb2 HOA HOF HBW HEBX
            go_wp2_with (at_builtin; refine wpList_append_lies _ rfl (.tmp 45) (.tmp 49) 28 rfl w.heap.size 5 i0 (.int .u8 0) 1 1 Tryz.underlying28 hi hz0 hz1 hz2 rfl (by decide) _ _ _ rfl HA2.out ⟨gX, 0, none⟩ X.length capX (u8s X) rfl (by rw [u8s_len, Nat.mul_one]) hcsX (u8s_one X) (by omega) (by unfold maxLen; omega) (by omega) hs2 _ rfl ?_)
            intro g cap' w5 hown5 hgrow5 hat5 hlt5
            have K5 : KeepP (fun t => t == 9 || t == 90) w2 w5 := KeepP.grown (KeepP.refl w2) hgrow5 HA2.out (by decide)
            have hF5 := K5.owns HF2.out (by decide)
            have hE5 := K5.block wr.heap.size _ _ _ HE2.out (by decide)
            have hbw5 : Below w.heap.size w w5 := HB2.out.grown hgrow5 hs2 (fun q hq => (HA2.out.lt q hq).1)
            have hA5 : w5.ownsRow w.heap.size 5 1 (.slice (some ⟨g, 0, none⟩) (al + X.length) cap') (A ++ X).length (u8s (A ++ X)) := by
              have e1 : (A ++ X).length = al + X.length := by rw [List.length_append, HAL.out]
              rw [e1, u8s_append]; exact hown5
            have hAX : (A ++ X).length ≤ 10 + (k + 1) * 130000 := by rw [List.length_append, HAL.out]; omega
            have hs5 := hbw5.size
            clear hown5 hgrow5 hat5 hcsX HA2 HF2 HB2 HE2
            have HF7 : Hid (w5.ownsRow w.heap.size 5 1 (.slice (some ⟨g, 0, none⟩) (al + X.length) cap') (A ++ X).length (u8s (A ++ X)) ∧ w5.ownsRow w.heap.size 9 1 (.slice fa' fl fc') files.length (strs files) ∧ Below w.heap.size w w5) := ⟨hA5, by rw [HFL.out]; exact hF5, hbw5⟩
            clear hA5 hF5 hbw5 hE5 K5
            go_wp2
            go_roundw
            case rel => exact ⟨k + 1, A ++ X, files, by go_num, by omega, HST2.out, hAX, by rw [HFL.out]; omega, hf20, HF7.out.1, HF7.out.2.1, HF7.out.2.2⟩
            case measure => simp [intOf]; omega
        · have hlt' : decide ((k : Int) < (len : Int)) = false := by simp; omega
          have HFIN : Hid (wr.ownsRow w.heap.size 5 1 (.slice va A.length vc) (encI l).length (u8s (encI l))) := by
            show World.ownsRow _ _ _ _ _ _ _
            rw [henc, List.drop_of_length_le (by rw [HL.out]; omega)]
            simpa [encF] using hoA
          go_wp2
          go_ret2
          exact ⟨_, rfl, HFIN.out, hbel⟩
end Go.Proofs.YthaganponmnanaaGreatDoor
namespace Go.Proofs.YthaganponmnanaaGreatDoor
open Go.RowKit

/-- An append whose run is known. -/
theorem wpList_append_run {P : Program} (w : World) {ops : Array Oper} {rest : List Oper} {o : Oper} {a : Act} {Q : Exit → Act → World → Prop} (hgd : o.guard = none) (s x : Operand) (t : TypeId)
    (ho : o.op = .call { callee := .builtin .append, args := #[s, x], argTypes := #[t, t] }) (vs vx : Value) (hs : a.eval s = vs) (hx : a.eval x = vx) (v' : Value) (w' : World)
    (hr : (Builtin.append_ #[t, t] o.type #[vs, vx]).run P w = .ok v' w') (h : wpList P ops Q rest (a.put o.dst v') w') : wpList P ops Q (o :: rest) a w :=
  wpList_plain hgd fun _ hK => by
    unfold Oper.wp execOp
    simp only [ho, resolve, invoke, builtin, Sem.run_bind, Sem.run_pure, Result.andThen_ok, List.map_toArray, List.map_cons, List.map_nil, hs, hx, hr]
    exact hK _ _ h

/-- The tape gives every append that grows, to at most 100,000 elements, a capacity of K or more. -/
def Vast (t : Tape) (K : Nat) : Prop := ∀ d need old e, need ≤ 100000 → K ≤ (Question.appendCap need old e).cut (t d (.appendCap need old e))

/-- A slice that is nil or has a capacity of K or more. -/
def Roomy (K : Nat) (v : Value) : Prop := v = .slice none 0 0 ∨ ∃ a n c, v = .slice a n c ∧ K ≤ c

theorem append_cap {P : Program} (w : World) (base : Nat) (t ty e : TypeId) (i : TypeInfo) (z : Value) (size bytes : Nat) (ht : P.underlying t = some (.slice e)) (hi : P.info? e = some i) (hz : i.zero = some z)
    (hsize : i.size = size) (hby : i.bytes = bytes)
    (v : Value) (n : Nat) (xs : List Value) (hown : w.ownsRow base e size v n xs)
    (a : Addr) (m c : Nat) (news : List Value) (hl : news.length = m * size) (hnews : ∀ j u, news[j]? = some u → w.cell? (a.add j) = some u) (h1 : ∀ u ∈ news, u.oneCell' = true)
    (h63 : n + m ≤ maxLen) (hbytes : (n + m) * bytes ≤ 140737488355328) (hm : 0 < m) (hsmall : n + m ≤ 100000) (K : Nat) (hV : Vast w.tape K) (hR : Roomy K v)
    (v' : Value) (w' : World) (hr : (Builtin.append_ #[t, t] ty #[v, .slice (some a) m c]).run P w = .ok v' w') : ∃ a' c', v' = .slice a' (n + m) c' ∧ K ≤ c' := by
  subst hsize
  subst hby
  have hn63 : n + m ≤ 9223372036854775807 := by simp only [maxLen] at h63; omega
  rcases hown.2 with ⟨rfl, rfl⟩ | ⟨g, cap, cur, rfl, hbg, hg, hnc, hcm, hcs, htake⟩
  · have hr2 := run_append_nil (P := P) w t ty e i z ht hi hz a m c news hl hnews hm (by omega) (by have hb := hbytes; simp only [Nat.zero_add] at hb; omega)
    rw [hr2] at hr
    cases hr
    exact ⟨_, grownCap w m 0 e, by rw [Nat.zero_add], hV _ _ _ _ (by omega)⟩
  · by_cases hroom : n + m ≤ cap
    · have hfit : n * i.size + news.length ≤ cur.size := by rw [hl, hcs, ← Nat.add_mul]; exact Nat.mul_le_mul_right _ hroom
      have hr2 := run_append_room (P := P) w t ty e i ht hi g n cap cur hg a m c news hl hnews h1 hroom hfit
      rw [hr2] at hr
      cases hr
      rcases hR with hR | ⟨a', n', c', hR, hK⟩
      · cases hR
      · cases hR
        exact ⟨_, _, rfl, hK⟩
    · have holds : ∀ j u, xs[j]? = some u → w.cell? ((⟨g, 0, none⟩ : Addr).add j) = some u := hown.cells (g := g) rfl
      have hr2 := run_append_grow (P := P) w t ty e i z ht hi hz ⟨g, 0, none⟩ n cap xs hown.1 holds a m c news hl hnews (by omega) (by omega) (growslice_fits (by omega) hbytes)
      rw [hr2] at hr
      cases hr
      exact ⟨_, _, rfl, hV _ _ _ _ (by omega)⟩

/-- Append onto a row of the call's own, on a vast tape. -/
theorem wpList_append_vast {P : Program} (w : World) {ops : Array Oper} {rest : List Oper} {o : Oper} {a : Act} {Q : Exit → Act → World → Prop} (hgd : o.guard = none) (s x : Operand) (t : TypeId)
    (ho : o.op = .call { callee := .builtin .append, args := #[s, x], argTypes := #[t, t] })
    (base : Nat) (e : TypeId) (i : TypeInfo) (z : Value) (size bytes : Nat) (ht : P.underlying t = some (.slice e)) (hi : P.info? e = some i) (hz : i.zero = some z)
    (hsize : i.size = size) (hby : i.bytes = bytes) (hzs : z.cells.size = size) (hsz : 0 < size)
    (v : Value) (n : Nat) (xs : List Value) (hs : a.eval s = v) (hown : w.ownsRow base e size v n xs)
    (ad : Addr) (m c : Nat) (news : List Value) (hx : a.eval x = .slice (some ad) m c) (hl : news.length = m * size) (hnews : ∀ j u, news[j]? = some u → w.cell? (ad.add j) = some u) (h1 : ∀ u ∈ news, u.oneCell' = true)
    (h63 : n + m ≤ maxLen) (hbytes : (n + m) * bytes ≤ 140737488355328) (hbase : base ≤ w.heap.size) (hm : 0 < m) (hsmall : n + m ≤ 100000) (K : Nat) (hV : Vast w.tape K) (hR : Roomy K v)
    (h : ∀ v' w', w'.ownsRow base e size v' (n + m) (xs ++ news) → w.grownBy w' v.ownBlock → Roomy K v' → wpList P ops Q rest (a.put o.dst v') w') : wpList P ops Q (o :: rest) a w := by
  obtain ⟨v', w', hr, h2, h3, _⟩ := run_append_own (P := P) w base t o.type e i z size bytes ht hi hz hsize hby hzs hsz v n xs hown ad m c news hl hnews h1 h63 hbytes hbase
  obtain ⟨a', c', e1, hK⟩ := append_cap w base t o.type e i z size bytes ht hi hz hsize hby v n xs hown ad m c news hl hnews h1 h63 hbytes hm hsmall K hV hR v' w' hr
  exact wpList_append_run w hgd s x t ho _ _ hs hx v' w' hr (h v' w' h2 h3 (.inr ⟨_, _, _, e1, hK⟩))

/-- copy into the head of a row of the call's own, elements of whatever size. -/
theorem run_copy_wide {P : Program} (w : World) (dT sT ty elem : TypeId) (size : Nat) (g dLen dCap : Nat) (a : Addr) (sLen sCap : Nat) (cur : Array Value) (t : TypeId) (cs : List Value)
    (hu : P.underlying dT = some (.slice elem)) (hs : (P.info? elem).map (·.size) = some size)
    (hg : w.heap[g]? = some (.cells cur t (0, 0))) (hn : cs.length = Nat.min sLen dLen * size)
    (hsrc : ∀ j v, cs[j]? = some v → w.cell? (a.add j) = some v) (hfit : cs.length ≤ cur.size) (h1 : ∀ v ∈ cs, v.oneCell' = true) :
    (Builtin.copy_ #[dT, sT] ty #[.slice (some ⟨g, 0, none⟩) dLen dCap, .slice (some a) sLen sCap]).run P w =
      .ok (goInt (Nat.min sLen dLen)) (w.setRow g (cs ++ cur.toList.drop cs.length).toArray) := by
  have hl := run_loadCells_list (P := P) w a cs hsrc
  have hst := run_storeCells_at P g 0 t cs 0 cur w hg (by simpa using hfit) h1
  cases hq : P.info? elem with
  | none => simp [hq] at hs
  | some i =>
    have hi : i.size = size := by simpa [hq] using hs
    rw [hn] at hl
    simp [Builtin.copy_, run_underlying hu, Builtin.lenOf, Builtin.firstCells, sizeOf, typeInfo, hq, hi, hl]
    simp at hst
    rw [hst]
    simp

theorem wpList_copy_wide {P : Program} {w : World} {ops : Array Oper} {rest : List Oper} {o : Oper} {a : Act} {Q : Exit → Act → World → Prop} (hgd : o.guard = none) (d s : Operand) (dT sT : TypeId)
    (ho : o.op = .call { callee := .builtin .copy, args := #[d, s], argTypes := #[dT, sT] }) (elem : TypeId) (size base : Nat) (hu : P.underlying dT = some (.slice elem)) (hsz : (P.info? elem).map (·.size) = some size)
    (g dLen dCap : Nat) (ad : Addr) (sLen sCap : Nat) (hd : a.eval d = .slice (some ⟨g, 0, none⟩) dLen dCap) (hs : a.eval s = .slice (some ad) sLen sCap)
    (xs : List Value) (hown : w.ownsRow base elem size (.slice (some ⟨g, 0, none⟩) dLen dCap) dLen xs) (cs : List Value) (hn : cs.length = sLen * size) (hle : sLen ≤ dLen)
    (hsrc : ∀ j v, cs[j]? = some v → w.cell? (ad.add j) = some v) (h1 : ∀ v ∈ cs, v.oneCell' = true)
    (h : ∀ w', w'.ownsRow base elem size (.slice (some ⟨g, 0, none⟩) dLen dCap) dLen (cs ++ xs.drop cs.length) → w.grownBy w' (some g) → wpList P ops Q rest (a.put o.dst (goInt sLen)) w') : wpList P ops Q (o :: rest) a w := by
  refine wpList_plain hgd fun K hK => ?_
  rcases hown.2 with ⟨h', _⟩ | ⟨g', cap', cur, h', hb, hg, hnc, hcm, hcs, htake⟩
  · simp at h'
  · simp only [Value.slice.injEq, Option.some.injEq, Addr.mk.injEq, and_true, true_and] at h'
    obtain ⟨rfl, rfl⟩ := h'
    have hmin : Nat.min sLen dLen = sLen := Nat.min_eq_left hle
    have hxl := hown.1
    have hcl : cs.length ≤ dLen * size := by rw [hn]; exact Nat.mul_le_mul_right _ hle
    have hdc : dLen * size ≤ dCap * size := Nat.mul_le_mul_right _ hnc
    have hrun := run_copy_wide (P := P) w dT sT o.type elem size g dLen dCap ad sLen sCap cur elem cs hu hsz hg (by rw [hmin]; exact hn) hsrc (by omega) h1
    rw [hmin] at hrun
    unfold Oper.wp
    simp [execOp, ho, resolve, invoke, builtin, hd, hs, hrun, Result.andThen]
    refine hK _ _ (h _ ⟨?_, .inr ⟨g, dCap, _, rfl, hb, setRow_heap w g cur _ elem _ hg, hnc, hcm, ?_, ?_⟩⟩ ⟨rfl, rfl, rfl, by simp, fun k _ hk => setRow_other w g k _ (fun e => hk (by simp [e]))⟩)
    · rw [List.length_append, List.length_drop]; omega
    · simp only [List.size_toArray, List.length_append, List.length_drop, Array.length_toList]; omega
    · rw [← htake]
      simp only [List.take_append, List.drop_take]
      rw [List.take_of_length_le hcl]

theorem flat_get' : ∀ (l : List (Int × Int)) (i : Nat), i < l.length → (flat l)[i * 2]? = some (.int .i64 (l.getD i (0, 0)).1) ∧ (flat l)[i * 2 + 1]? = some (.int .i64 (l.getD i (0, 0)).2)
  | [], i, h => by simp at h
  | p :: t, 0, _ => by simp [flat]
  | p :: t, i + 1, h => by
    have := flat_get' t i (by simpa using h)
    have e : flat (p :: t) = Value.int .i64 p.1 :: Value.int .i64 p.2 :: flat t := by simp [flat]
    have e1 : (i + 1) * 2 = i * 2 + 1 + 1 := by omega
    rw [e, e1]
    simpa using this

theorem flat_set_at : ∀ (l : List (Int × Int)) (i : Nat) (x y : Int), i < l.length → ((flat l).set (i * 2) (.int .i64 x)).set (i * 2 + 1) (.int .i64 y) = flat (l.set i (x, y))
  | [], i, _, _, h => by simp at h
  | p :: t, 0, x, y, _ => by simp [flat]
  | p :: t, i + 1, x, y, h => by
    have ih := flat_set_at t i x y (by simpa using h)
    have e : flat (p :: t) = Value.int .i64 p.1 :: Value.int .i64 p.2 :: flat t := by simp [flat]
    have e1 : (i + 1) * 2 = i * 2 + 1 + 1 := by omega
    rw [e, e1]
    simp only [List.set_cons_succ]
    rw [ih]
    simp [flat]
theorem flat_append (l m : List (Int × Int)) : flat (l ++ m) = flat l ++ flat m := by simp [flat]
theorem flat_one (l : List (Int × Int)) : ∀ u ∈ flat l, u.oneCell' = true := by
  intro u hu
  obtain ⟨p, _, hu⟩ := List.mem_flatMap.1 hu
  simp at hu
  rcases hu with rfl | rfl <;> rfl
theorem RdS.src {w : World} {b off len cap : Nat} {l : List (Int × Int)} (h : RdS w (some ⟨b, off, none⟩) len cap l) : ∀ j v, (flat l)[j]? = some v → w.cell? ((⟨b, off, none⟩ : Addr).add j) = some v := by
  intro j v hj
  have hlt : j < (flat l).length := by
    rcases Nat.lt_or_ge j (flat l).length with h | h
    · exact h
    · rw [List.getElem?_eq_none h] at hj; cases hj
  rw [flat_len, h.hlen] at hlt
  have e1 : (⟨b, off, none⟩ : Addr).add j = ⟨b, off + j, none⟩ := by unfold Addr.add; split <;> simp_all
  rw [e1]
  obtain ⟨b', off', e, hc1, hc2⟩ := h.cell (j / 2) (by omega)
  cases e
  have hg := fun (i : Nat) (hi : i < l.length) => flat_get' l i hi
  rcases Nat.mod_two_eq_zero_or_one j with hm | hm
  · have ej : j = j / 2 * 2 := by omega
    rw [ej] at hj ⊢
    rw [(hg (j / 2) (by rw [h.hlen]; omega)).1] at hj
    cases hj
    exact hc1
  · have ej : j = j / 2 * 2 + 1 := by omega
    rw [ej] at hj ⊢
    rw [(hg (j / 2) (by rw [h.hlen]; omega)).2] at hj
    cases hj
    rw [← Nat.add_assoc]
    exact hc2
end Go.Proofs.YthaganponmnanaaGreatDoor
