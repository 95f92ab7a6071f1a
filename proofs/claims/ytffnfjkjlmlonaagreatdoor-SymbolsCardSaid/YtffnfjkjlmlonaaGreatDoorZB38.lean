/- The contract of the reference's Print, whatever frames it is given: prtS, prtE; nothing that was there is written. Contract of the statement's own World.frames: a list of frames that has come out anew is written full of its number, and kept. -/
import Derived.Test.YtffnfjkjlmlonaaGreatDoorP2
import Derived.Test.YtffnfjkjlmlonaaGreatDoorZB14
namespace Go.Proofs.YtffnfjkjlmlonaaGreatDoor
open Go.RowKit
set_option maxHeartbeats 4000000 in
set_option maxRecDepth 100000 in
theorem rPrint_all (a : Option Addr) (cap : Nat) (fr : List FrameD) (w : World) (hr : RdL 3 RdFrame w a fr.length cap fr) (hsz0 : ∀ f ∈ fr, f.func.size ≤ maxLen ∧ f.file.size ≤ maxLen) (h20 : fr.length ≤ 3518437208780) :
    Calls Tryz.prog 60 #[.slice a fr.length cap] w fun e w' => e = .returned (.tuple #[.string (prtS fr), .int .i64 (prtE fr)]) ∧ Below w.heap.size w w' := by
  have HR := hid hr
  have HSZ := hid hsz0
  have hc1 := hr.2.1
  have hc2 := hr.2.2.1
  unfold maxLen at hc2
  obtain ⟨n, hn⟩ : ∃ v, v = fr.length := ⟨_, rfl⟩
  rw [← hn] at HR hc1 h20 ⊢
  have HN := hid hn
  clear hr hsz0 hn
  go_enter Tryz.func60, Tryz.ntmps60
  go_wp2
  go_loopw [4] (fun i wr => ∃ k : Nat, i = .int .i64 k ∧ k ≤ n ∧ (fr.take k).all FrB = true ∧ Below w.heap.size w wr) (fun i _ => n - (intOf i).toNat)
  case atStart => exact ⟨0, rfl, by omega, rfl, Below.refl _ _⟩
  case round =>
    obtain ⟨k, rfl, hk, hall, hbel⟩ := hrel
    have hsz := hbel.size
    by_cases hkn : k < n
    · have hkn' : (k : Int) < (n : Int) := by omega
      obtain ⟨f, hf⟩ : ∃ f, fr[k]? = some f := ⟨_, List.getElem?_eq_getElem (by rw [← HN.out]; exact hkn)⟩
      obtain ⟨hf1, hf2⟩ := HSZ.out f (List.mem_of_getElem? hf)
      obtain ⟨b0, off, cs, rfl, -, hc, rfl⟩ := (HR.out.below hbel (fun _ _ h => h)).2.2.2 k f hf
      have c0 := hc 0 _ rfl
      have c1 := hc 1 _ rfl
      have c2 := hc 2 _ rfl
      have hb0 : b0 < wr.heap.size := World.block_lt_of_cell? wr _ c0
      rw [Nat.add_zero] at c0
      have H1 := hid (word_any f.func wr hf1)
      have H2 := hid (fun W => word_any f.file W hf2)
      have HBAD : Hid (FrB f = false → prtE fr = 10 ∧ prtS fr = ⟨#[]⟩) := hid (fun hfb => by
        have : fr.all FrB = false := by
          rw [List.all_eq_false]
          exact ⟨f, List.mem_of_getElem? hf, by rw [hfb]; simp⟩
        unfold prtE prtS
        rw [this]
        exact ⟨rfl, rfl⟩)
      have HALN : Hid (FrB f = true → (fr.take (k + 1)).all FrB = true) := hid (fun hfb => by
        obtain ⟨hlt, he⟩ := List.getElem?_eq_some_iff.1 hf
        rw [List.take_succ_eq_append_getElem hlt, he, List.all_append, hall]
        simp [hfb])
      unfold FrB at HBAD HALN
      generalize wordB f.func = b1 at *
      generalize wordB f.file = b2 at *
      generalize f.func = fn at *
      generalize f.file = fl at *
      generalize f.line = ln at *
      have HBEL := hid hbel
      clear hf hc hbel hall hf1 hf2
      go_wp2_with fail
      refine H1.out.mono ?_
      rintro e w2 ⟨rfl, hb2⟩
      have d1 := (hb2.cell (p := ⟨b0, off + k * 3 + 1, none⟩) hb0).trans c1
      have d2 := (hb2.cell (p := ⟨b0, off + k * 3 + 2, none⟩) hb0).trans c2
      have hs2 := hb2.size
      have lt2 : b0 < w2.heap.size := by omega
      have HB2 := hid (HBEL.out.trans (hb2.mono hsz))
      clear c0 c1 c2 hb2 H1
      go_wp2_with fail
      refine (H2.out w2).mono ?_
      rintro e w3 ⟨rfl, hb3⟩
      have e2 := (hb3.cell (p := ⟨b0, off + k * 3 + 2, none⟩) lt2).trans d2
      have hs3 := hb3.size
      have lt3 : b0 < w3.heap.size := by omega
      have HB3 := hid (HB2.out.trans (hb3.mono HB2.out.size))
      clear d1 d2 hb3 H2
      cases b1 with
      | false =>
        have he := HBAD.out rfl
        go_wp2
        exact bodyPost_ret (v := .tuple #[.string ⟨#[]⟩, .int .i64 10]) (by simp [results, Tryz.results60, go_sem]) rfl ⟨by rw [he.1, he.2], HB3.out⟩
      | true =>
      cases b2 with
      | false =>
        have he := HBAD.out rfl
        go_wp2
        exact bodyPost_ret (v := .tuple #[.string ⟨#[]⟩, .int .i64 10]) (by simp [results, Tryz.results60, go_sem]) rfl ⟨by rw [he.1, he.2], HB3.out⟩
      | true =>
        by_cases q1 : ln < 1
        · have l1 : decide (ln < 1) = true := by simpa using q1
          have he := HBAD.out (by simp; omega)
          go_wp2
          exact bodyPost_ret (v := .tuple #[.string ⟨#[]⟩, .int .i64 10]) (by simp [results, Tryz.results60, go_sem]) rfl ⟨by rw [he.1, he.2], HB3.out⟩
        · have l1 : decide (ln < 1) = false := by simpa using q1
          by_cases q2 : 9999 < ln
          · have l2 : decide ((9999 : Int) < ln) = true := by simpa using q2
            have he := HBAD.out (by simp; omega)
            go_wp2
            exact bodyPost_ret (v := .tuple #[.string ⟨#[]⟩, .int .i64 10]) (by simp [results, Tryz.results60, go_sem]) rfl ⟨by rw [he.1, he.2], HB3.out⟩
          · have l2 : decide ((9999 : Int) < ln) = false := by simpa using q2
            have HA := hid (HALN.out (by simp; omega))
            go_wp2
            go_roundw
            case rel => exact ⟨k + 1, by go_num, by omega, HA.out, HB3.out⟩
            case measure => simp [intOf]; omega
    · have hkn' : decide ((k : Int) < (n : Int)) = false := by simp; omega
      have HAL : Hid (fr.all FrB = true) := hid (by rw [← List.take_of_length_le (l := fr) (i := k) (by have := HN.out; omega)]; exact hall)
      have HOK : Hid (∀ f ∈ fr, FrOk f) := hid (fun f hf => frOk_of (List.all_eq_true.1 HAL.out f hf))
      have HE : Hid (prtE fr = 0 ∧ prtS fr = strOfNums (printD fr)) := hid (by
        unfold prtE prtS
        rw [if_pos HAL.out, if_pos HAL.out]
        exact ⟨rfl, rfl⟩)
      have HBEL := hid hbel
      clear hbel hall
      obtain ⟨wo, hwo⟩ : ∃ v, v = wr := ⟨_, rfl⟩
      subst hwo
      go_wp2
      go_loopw [7, 8] (fun sv i W => ∃ k : Nat, i = .int .i64 k ∧ k ≤ n ∧ sv = .string (strOfNums (printD (fr.take k))) ∧ Below w.heap.size w W) (fun _ i _ => n - (intOf i).toNat)
      case atStart => exact ⟨0, rfl, by omega, rfl, HBEL.out⟩
      case round =>
        clear hkn' HBEL
        obtain ⟨k, rfl, hk, rfl, hbel⟩ := hrel
        have hsz := hbel.size
        by_cases hkn : k < n
        · have hkn' : (k : Int) < (n : Int) := by omega
          obtain ⟨f, hf⟩ : ∃ f, fr[k]? = some f := ⟨_, List.getElem?_eq_getElem (by rw [← HN.out]; exact hkn)⟩
          obtain ⟨⟨-, hf1⟩, ⟨-, hf2⟩, hf3, hf4⟩ := HOK.out f (List.mem_of_getElem? hf)
          obtain ⟨b0, off, cs, rfl, -, hc, rfl⟩ := (HR.out.below hbel (fun _ _ h => h)).2.2.2 k f hf
          have c0 := hc 0 _ rfl
          have c1 := hc 1 _ rfl
          have c2 := hc 2 _ rfl
          have hb0 : b0 < wr.heap.size := World.block_lt_of_cell? wr _ c0
          rw [Nat.add_zero] at c0
          have hpl : (strOfNums (printD (fr.take k))).size ≤ 225179981361920 := by
            rw [strOf_size]
            have h := printD_len (fr.take k) (fun x hx => HOK.out x (List.mem_of_mem_take hx))
            rw [List.length_take] at h
            have : min k fr.length ≤ k := Nat.min_le_left _ _
            omega
          have hil := Lib.itoa_length_le f.line (by omega) (by omega)
          have hsn : (⟨(Lib.itoa f.line).toArray⟩ : ByteArray).size ≤ 21 := by
            show (Lib.itoa f.line).toArray.size ≤ 21
            rw [List.size_toArray]; exact hil
          have HD := hid (rDec_any 3 f.line wr (by omega) hf4 (by omega))
          have hdi : (⟨(Lib.decDigits f.line.toNat).toArray⟩ : ByteArray) = ⟨(Lib.itoa f.line).toArray⟩ := by
            rw [show Lib.itoa f.line = Lib.decDigits f.line.toNat by unfold Lib.itoa; rw [if_neg (by omega)]]
          rw [hdi] at HD
          have HNEXT : Hid (strOfNums (printD (fr.take (k + 1))) = strOfNums (printD (fr.take k)) ++ f.func ++ ⟨#[32]⟩ ++ f.file ++ ⟨#[58]⟩ ++ ⟨(Lib.itoa f.line).toArray⟩ ++ ⟨#[10]⟩) := hid (by
            obtain ⟨hlt, he⟩ := List.getElem?_eq_some_iff.1 hf
            have e : printD (fr.take (k + 1)) = printD (fr.take k) ++ lineD f := by
              rw [List.take_succ_eq_append_getElem hlt, he]
              unfold printD
              rw [List.flatMap_append]
              simp
            rw [e]
            unfold lineD
            simp only [strOf_app, str_byteL2, ByteArray.append_assoc]
            rfl)
          generalize (⟨(Lib.itoa f.line).toArray⟩ : ByteArray) = sn at *
          generalize f.func = fn at *
          generalize f.file = fl at *
          generalize f.line = ln at *
          generalize strOfNums (printD (fr.take k)) = P0 at *
          have HBEL := hid hbel
          clear hf hc hbel hil hdi
          go_wp2_with fail
          refine HD.out.mono ?_
          rintro e w2 ⟨rfl, hb2⟩
          have d0 := (hb2.cell (p := ⟨b0, off + k * 3, none⟩) hb0).trans c0
          have d1 := (hb2.cell (p := ⟨b0, off + k * 3 + 1, none⟩) hb0).trans c1
          have hs2 := hb2.size
          have lt2 : b0 < w2.heap.size := by omega
          have HB2 := hid (HBEL.out.trans (hb2.mono hsz))
          clear c0 c1 c2 hb2 HD
          have z1 : ¬ 9223372036854775807 < P0.size + fn.size := by omega
          have z2 : ¬ 9223372036854775807 < (P0 ++ fn).size + (⟨#[32]⟩ : ByteArray).size := by rw [ByteArray.size_append]; show ¬ _ < P0.size + fn.size + 1; omega
          have z3 : ¬ 9223372036854775807 < (P0 ++ fn ++ ⟨#[32]⟩).size + fl.size := by rw [ByteArray.size_append, ByteArray.size_append]; show ¬ _ < P0.size + fn.size + 1 + fl.size; omega
          have z4 : ¬ 9223372036854775807 < (P0 ++ fn ++ ⟨#[32]⟩ ++ fl).size + (⟨#[58]⟩ : ByteArray).size := by rw [ByteArray.size_append, ByteArray.size_append, ByteArray.size_append]; show ¬ _ < P0.size + fn.size + 1 + fl.size + 1; omega
          have z5 : ¬ 9223372036854775807 < (P0 ++ fn ++ ⟨#[32]⟩ ++ fl ++ ⟨#[58]⟩).size + sn.size := by rw [ByteArray.size_append, ByteArray.size_append, ByteArray.size_append, ByteArray.size_append]; show ¬ _ < P0.size + fn.size + 1 + fl.size + 1 + sn.size; omega
          have z6 : ¬ 9223372036854775807 < (P0 ++ fn ++ ⟨#[32]⟩ ++ fl ++ ⟨#[58]⟩ ++ sn).size + (⟨#[10]⟩ : ByteArray).size := by rw [ByteArray.size_append, ByteArray.size_append, ByteArray.size_append, ByteArray.size_append, ByteArray.size_append]; show ¬ _ < P0.size + fn.size + 1 + fl.size + 1 + sn.size + 1; omega
          go_wp2
          go_region
          go_wp2
          go_roundw
          case rel => exact ⟨k + 1, by go_num, by omega, by rw [HNEXT.out], HB2.out.drew⟩
          case measure => simp [intOf]; omega
        · have hkn' : decide ((k : Int) < (n : Int)) = false := by simp; omega
          have HKE : Hid (fr.take k = fr) := hid (List.take_of_length_le (by have := HN.out; omega))
          have HB := hid hbel
          clear hbel
          rw [HKE.out]
          obtain ⟨P0, hP0⟩ : ∃ v, v = strOfNums (printD fr) := ⟨_, rfl⟩
          rw [← hP0]
          have HP := hid hP0
          clear hP0
          go_wp2
          exact bodyPost_ret (v := .tuple #[.string P0, .int .i64 0]) (by simp [results, Tryz.results60, go_sem]) rfl ⟨by rw [HE.out.1, HE.out.2, HP.out], HB.out⟩
end Go.Proofs.YtffnfjkjlmlonaaGreatDoor
namespace Go.Proofs.YtffnfjkjlmlonaaGreatDoor
open Go.RowKit
theorem Tryz.infoFrames : (Tryz.prog.info? 38).map (fun i => (i.zero, i.size, i.bytes)) = some (some (.slice none 0 0), 1, 24) := by kernel_rfl
theorem fs_append {g : Nat} {v : Value} {w1 w2 : World} {n : Nat} {rows : List Value} {fa : Option Addr} {c g' cap' : Nat} {o : Obj} (h1 : w1.heap[g]? = some (.cells (fsW v) 34 (0, 0))) (hvg : v.ownBlock ≠ some g) (hrl : rows.length = n)
    (h3 : ∀ (i : Nat) (u : Value), rows[i]? = some u → ∃ a len, u = .slice a len len ∧ RdL 3 RdFrame w1 a len len (List.replicate len (markD i)) ∧ InU (fun b => b ≠ g ∧ v.ownBlock ≠ some b) a len)
    (hn : RdL 3 RdFrame w1 fa c c (List.replicate c (markD n))) (hU : InU (fun b => b ≠ g ∧ v.ownBlock ≠ some b) fa c)
    (hown : w2.ownsRow (g + 1) 38 1 (.slice (some ⟨g', 0, none⟩) (n + 1) cap') (n + 1) (rows ++ [.slice fa c c])) (hgrow : (w1.alloc o).grownBy w2 v.ownBlock) (hat : v.ownBlock = some g' ∨ w1.heap.size ≤ g') :
    FsV g (.slice (some ⟨g', 0, none⟩) (n + 1) cap') (w2.setCell ⟨g, 5, none⟩ (.slice (some ⟨g', 0, none⟩) (n + 1) cap')) (n + 1) := by
  have hg := (Array.getElem?_eq_some_iff.1 h1).1
  have hgv := (hown.lt g' rfl).1
  have hk : Keeps (fun b => b ≠ g ∧ v.ownBlock ≠ some b) w1 (w2.setCell ⟨g, 5, none⟩ (.slice (some ⟨g', 0, none⟩) (n + 1) cap')) := fun b hb hlt => by
    rw [Below.heap_setCell _ _ _ _ hb.1]
    exact (hgrow.block b (by simp; omega) (fun e => hb.2 e.symm)).trans (heap_alloc_old _ _ hlt)
  have k2 : w2.heap[g]? = some (.cells (fsW v) 34 (0, 0)) := (hgrow.block g (by simp; omega) (fun e => hvg e.symm)).trans ((heap_alloc_old _ _ hg).trans h1)
  have fin : ∀ (i : Nat) (a : Option Addr) (len : Nat), RdL 3 RdFrame w1 a len len (List.replicate len (markD i)) → InU (fun b => b ≠ g ∧ v.ownBlock ≠ some b) a len → RdL 3 RdFrame (w2.setCell ⟨g, 5, none⟩ (.slice (some ⟨g', 0, none⟩) (n + 1) cap')) a len len (List.replicate len (markD i)) ∧ InU (fun b => b ≠ g ∧ (Value.slice (some ⟨g', 0, none⟩) (n + 1) cap').ownBlock ≠ some b) a len := fun i a len hr hU => by
    refine ⟨hr.keeps hU hk (fun _ _ h => h), fun h0 q hq => ⟨(hU h0 q hq).1, fun e => ?_⟩⟩
    simp [Value.ownBlock] at e
    rcases hat with h | h
    · exact (hU h0 q hq).2 (by rw [h, e])
    · obtain ⟨b, off, e2, hc, _⟩ := hr.frameAt 0 (markD i) (by rw [List.getElem?_replicate, if_pos h0])
      have := World.block_lt_of_cell? w1 _ hc
      rw [hq] at e2
      cases e2
      simp at this e
      omega
  refine ⟨rows ++ [.slice fa c c], ?_, ownsRow_setCell_other hown (by simp [Value.ownBlock]; omega) _, fun i u hu => ?_⟩
  · rw [heap_setCell_same w2 g 5 (fsW v) _ _ k2]
    rfl
  · by_cases hi : i < n
    · rw [List.getElem?_append_left (by omega)] at hu
      obtain ⟨a, len, e, hr, hU⟩ := h3 i u hu
      exact ⟨a, len, e, fin i a len hr hU⟩
    · have hi2 : i < (rows ++ [Value.slice fa c c]).length := (List.getElem?_eq_some_iff.1 hu).1
      simp at hi2
      have hie : i = n := by omega
      subst hie
      rw [List.getElem?_append_right (by omega)] at hu
      have e1 : i - rows.length = 0 := by omega
      rw [e1] at hu
      simp at hu
      subst hu
      exact ⟨fa, c, rfl, fin i fa c hn hU⟩
theorem set3 (L R : List Value) (x0 x1 x2 a b c : Value) (k : Nat) (hk : L.length = k) : (((L ++ x0 :: x1 :: x2 :: R).set k a).set (k + 1) b).set (k + 2) c = L ++ a :: b :: c :: R := by
  subst hk
  simp
theorem drop3 (l : List Value) (k : Nat) (h : k + 3 ≤ l.length) : ∃ x0 x1 x2, l.drop k = x0 :: x1 :: x2 :: l.drop (k + 3) := by
  refine ⟨l[k]'(by omega), l[k + 1]'(by omega), l[k + 2]'(by omega), ?_⟩
  rw [List.drop_eq_getElem_cons (by omega), List.drop_eq_getElem_cons (i := k + 1) (by omega), List.drop_eq_getElem_cons (i := k + 1 + 1) (by omega)]
set_option maxHeartbeats 4000000 in
set_option maxRecDepth 100000 in
theorem frames_any (g : Nat) (v : Value) (w0 w : World) (n : Nat) (a : Option Addr) (len cap : Nat) (xs : List Value) (hI : FsV g v w0 n) (hb : Below w0.heap.size w0 w) (ho : w.ownsRow w0.heap.size 107 3 (.slice a len cap) len xs) (hn : n ≤ 4398046511104) :
    Calls Tryz.prog 48 #[.pointer (some ⟨g, 0, none⟩), .slice a len cap] w fun e w' => e = .returned (.tuple #[]) ∧ (∃ v', FsV g v' w' (n + 1) ∧ ∀ k, v'.ownBlock = some k → v.ownBlock = some k ∨ w.heap.size ≤ k) ∧
      w.heap.size ≤ w'.heap.size ∧ Keeps (fun b => b ≠ g ∧ v.ownBlock ≠ some b ∧ ∀ q, a = some q → b ≠ q.block) w w' ∧ w'.os = w.os ∧ w'.tape = w.tape ∧ w'.output = w.output := by
  obtain ⟨rows, h1, h2, h3⟩ := hI
  have hg := (Array.getElem?_eq_some_iff.1 h1).1
  have k1 := (hb.block g hg).trans h1
  obtain ⟨va, vcap, rfl, hvc, hvm, hva⟩ := ownsRow_form h2
  unfold maxLen at hvm
  obtain ⟨c5, -, -, -, -, -⟩ := fsCell k1
  have hsz := hb.size
  rcases ho.2 with ⟨e1, e2⟩ | ⟨gl, cap', cur, e1, hgl, hcur, hlc, hcm, hcs, hct⟩
  · simp at e1
    obtain ⟨rfl, rfl, rfl⟩ := e1
    obtain ⟨w1, hw1⟩ : ∃ w1, w1 = w := ⟨_, rfl⟩
    rw [← hw1] at k1 hb c5 hsz
    have HK1 := hid k1
    have hrl : rows.length = n := by have := h2.1; omega
    have HRL := hid hrl
    have HLS := hid (fun (i : Nat) (u : Value) (hu : rows[i]? = some u) => (by
      obtain ⟨a, len, e, hr, hU⟩ := h3 i u hu
      exact ⟨a, len, e, hr.below hb (fun _ _ h => h), hU⟩ : ∃ a len, u = .slice a len len ∧ RdL 3 RdFrame w1 a len len (List.replicate len (markD i)) ∧ InU (fun b => b ≠ g ∧ (Value.slice va n vcap).ownBlock ≠ some b) a len))
    have HNW : Hid (RdL 3 RdFrame w1 none 0 0 (List.replicate 0 (markD n))) := by
      exact ⟨rfl, Nat.le_refl _, by unfold maxLen; omega, fun i x hx => by simp at hx⟩
    have HNU : Hid (InU (fun b => b ≠ g ∧ (Value.slice va n vcap).ownBlock ≠ some b) none 0) := fun h => by omega
    have HKP : Hid (Keeps (fun b => b ≠ g ∧ (Value.slice va n vcap).ownBlock ≠ some b ∧ ∀ q, (none : Option Addr) = some q → b ≠ q.block) w w1) := fun _ _ _ => by rw [hw1]
    have HSZ : Hid (w.heap.size = w1.heap.size) := by rw [hw1]; rfl
    have HEQ : Hid (w1.os = w.os ∧ w1.tape = w.tape ∧ w1.output = w.output) := by rw [hw1]; exact ⟨rfl, rfl, rfl⟩
    have HOW := hid (ownsRow_below h2 hb)
    clear hva h1 h2 h3 k1 hrl ho
    go_enter Tryz.func48, Tryz.ntmps48
    go_wp2
    refine wp_loop_rounds 1 ?_
    rw [rounds_succ]
    rw [← hw1]
    have hg1 : g < w1.heap.size := by omega
    clear hw1
    obtain ⟨i0, hi, hz0, hz1, hz2⟩ := info_parts Tryz.infoFrames
    go_wp2_with (at_builtin; refine wpList_append_lies _ rfl (.tmp 29) (.tmp 31) 29 rfl (g + 1) 38 i0 (.slice none 0 0) 1 24 Tryz.underlying29 hi hz0 hz1 hz2 rfl (by decide) _ _ _ rfl (HOW.out.alloc _) ⟨w1.heap.size, 0, none⟩ 1 1 [.slice none 0 0] rfl rfl (cell_one_new _ _ _) (fun u hu => by rw [List.mem_singleton.1 hu]; rfl) (by decide) (by unfold maxLen; omega) (by omega) (by simp; omega) _ rfl ?_)
    intro g' cap' w2 hown2 hgrow2 hat2 hlt2
    have k2 : w2.heap[g]? = some (.cells (fsW (.slice va n vcap)) 34 (0, 0)) := (hgrow2.block g (by simp; omega) (fun e => by have := (HOW.out.lt g e.symm).1; omega)).trans ((heap_alloc_old _ _ (by omega)).trans HK1.out)
    have z5 : w2.cell? ⟨g, 5, none⟩ = some (.slice va n vcap) := (fsCell k2).1
    have f5 : w2.frozen? ⟨g, 5, none⟩ = false := by simp [World.frozen?, k2]
    have hat3 : (Value.slice va n vcap).ownBlock = some g' ∨ w1.heap.size ≤ g' := by
      rcases hat2 with h | h
      · exact .inl h
      · exact .inr (by have : g' = w1.heap.size + 1 := by simpa using h
                       omega)
    have HFS := hid (fs_append HK1.out (fun e => by have := (HOW.out.lt g e).1; omega) HRL.out HLS.out HNW.out HNU.out hown2 hgrow2 hat3)
    have HKW : Hid (Keeps (fun b => b ≠ g ∧ (Value.slice va n vcap).ownBlock ≠ some b ∧ ∀ q, (none : Option Addr) = some q → b ≠ q.block) w (w2.setCell ⟨g, 5, none⟩ (.slice (some ⟨g', 0, none⟩) (n + 1) cap'))) := fun b hb hlt => by
      rw [Below.heap_setCell _ _ _ _ hb.1]
      exact (hgrow2.block b (by simp; have := HSZ.out; omega) (fun e => hb.2.1 e.symm)).trans ((heap_alloc_old _ _ (by have := HSZ.out; omega)).trans (HKP.out b hb hlt))
    have HO1 : Hid (w2.os = w.os ∧ w2.tape = w.tape ∧ w2.output = w.output ∧ w.heap.size ≤ w2.heap.size) := ⟨hgrow2.os.trans HEQ.out.1, hgrow2.tape.trans HEQ.out.2.1, hgrow2.output.trans HEQ.out.2.2, by have h1 := hgrow2.size; have h2 := HSZ.out; simp at h1; omega⟩
    clear k2 hown2 hgrow2 hat2
    go_wp2
    go_end0
    refine ⟨rfl, ⟨_, HFS.out, fun k hk => ?_⟩, ?_, HKW.out, HO1.out.1, HO1.out.2.1, HO1.out.2.2.1⟩
    · simp [Value.ownBlock] at hk
      subst hk
      rcases hat3 with h | h
      · exact .inl h
      · exact .inr (by have := HSZ.out; omega)
    · have h1 := HO1.out.2.2.2
      have h2 : (w2.setCell ⟨g, 5, none⟩ (.slice (some ⟨g', 0, none⟩) (n + 1) cap')).heap.size = w2.heap.size := by simp [World.setCell]
      omega
  · simp at e1
    obtain ⟨rfl, rfl⟩ := e1
    have hf : w.ownsRow w0.heap.size 107 3 (.slice (some ⟨gl, 0, none⟩) cap cap) cap cur.toList := ⟨by simp [hcs], .inr ⟨gl, cap, cur, rfl, hgl, hcur, Nat.le_refl _, hcm, hcs, by rw [List.take_of_length_le (by simp [hcs])]⟩⟩
    unfold maxLen at hcm
    have hrl : rows.length = n := by have := h2.1; omega
    have HRL := hid hrl
    have H2 := hid h2
    have H3 := hid h3
    have HB := hid hb
    have hgw : g < w.heap.size := by omega
    have K1 := hid k1
    have hlenC : cur.toList.length = cap * 3 := by simp [hcs]
    have HLC := hid hlenC
    clear h1 h2 h3 k1 hb hrl hva ho hcur hcs hct hlenC
    go_enter Tryz.func48, Tryz.ntmps48
    go_wp2
    go_loopw [5] (fun i wr => ∃ j : Nat, i = .int .i64 j ∧ j ≤ cap ∧ wr.ownsRow w0.heap.size 107 3 (.slice (some ⟨gl, 0, none⟩) cap cap) cap ((List.replicate j (frCells (markD n))).flatten ++ cur.toList.drop (j * 3)) ∧ wr.heap.size = w.heap.size ∧ (∀ b, b ≠ gl → wr.heap[b]? = w.heap[b]?) ∧ wr.os = w.os ∧ wr.tape = w.tape ∧ wr.output = w.output) (fun i _ => cap - (intOf i).toNat)
    case atStart => exact ⟨0, rfl, by omega, by simpa using hf, rfl, fun _ _ => rfl, rfl, rfl, rfl⟩
    case round =>
      clear hf
      obtain ⟨j, rfl, hj, hown, hsw, hbl, ho1, ho2, ho3⟩ := hrel
      have kg := (hbl g (by omega)).trans K1.out
      have d5 : wr.cell? ⟨g, 5, none⟩ = some (.slice va n vcap) := (fsCell kg).1
      by_cases hjc : j < cap
      · obtain ⟨x0, x1, x2, hd⟩ := drop3 cur.toList (j * 3) (by rw [HLC.out]; omega)
        have hfl : ((List.replicate j (frCells (markD n))).flatten).length = j * 3 := by simp [frCells]
        rw [hd] at hown
        have a0 := hown.cellAt (j * 3) (by omega)
        have a1 := hown.cellAt (j * 3 + 1) (by omega)
        have a2 := hown.cellAt (j * 3 + 2) (by omega)
        rw [List.getElem?_append_right (by omega), hfl] at a0 a1 a2
        simp at a0
        have b0 := hown.frozenAt (j * 3)
        have b1 := hown.frozenAt (j * 3 + 1)
        have b2 := hown.frozenAt (j * 3 + 2)
        have hs := ((hown.stored (j * 3) (.string mkB)).1.stored (j * 3 + 1) (.string mkB)).1.stored (j * 3 + 2) (.int .i64 n)
        rw [set3 _ _ x0 x1 x2 _ _ _ _ hfl] at hs
        have a1' : wr.cell? ⟨gl, j * 3 + 1, none⟩ = some x1 := by rw [a1, Nat.add_sub_cancel_left]; rfl
        have a2' : wr.cell? ⟨gl, j * 3 + 2, none⟩ = some x2 := by rw [a2, Nat.add_sub_cancel_left]; rfl
        have hfl2 : (List.replicate j (frCells (markD n))).flatten ++ Value.string mkB :: .string mkB :: .int .i64 n :: cur.toList.drop (j * 3 + 3) = (List.replicate (j + 1) (frCells (markD n))).flatten ++ cur.toList.drop ((j + 1) * 3) := by
          rw [List.replicate_succ', List.flatten_append, List.append_assoc, show (j + 1) * 3 = j * 3 + 3 by omega]
          simp [frCells, markD]
        rw [hfl2] at hs
        have HS := hid hs.1
        have hjc' : (j : Int) < (cap : Int) := by omega
        unfold mkB at HS
        clear hs hfl2 hfl a1 a2 hown hd
        go_wp2
        go_roundw
        case rel =>
          refine ⟨j + 1, by go_num, by omega, HS.out, by simp [World.setCell, hsw], fun b hb => ?_, ho1, ho2, ho3⟩
          rw [Below.heap_setCell _ _ _ _ hb, Below.heap_setCell _ _ _ _ hb, Below.heap_setCell _ _ _ _ hb]
          exact hbl b hb
        case measure => simp [intOf]; omega
      · have hjc' : decide ((j : Int) < (cap : Int)) = false := by simp; omega
        have hje : j = cap := by omega
        subst hje
        obtain ⟨w1, hw1⟩ : ∃ w1, w1 = wr := ⟨_, rfl⟩
        rw [← hw1] at hown hsw hbl ho1 ho2 ho3 kg d5 ⊢
        clear hw1
        rw [List.drop_of_length_le (by rw [HLC.out]; omega), List.append_nil] at hown
        obtain ⟨fa, fc, he, hrd⟩ := RdL_of_owns (R := RdFrame) (ls := List.replicate j (markD n)) hown (fun c hc => by rw [(List.mem_replicate.1 hc).2]; rfl) (by simp) (by simp) (fun i x cs hx hcs => by
          rw [List.getElem?_replicate] at hx hcs
          split at hx
          · next h => rw [if_pos h] at hcs; cases hx; cases hcs; rfl
          · cases hx)
        simp at he
        obtain ⟨rfl, rfl⟩ := he
        have hkp : Keeps (fun b => b ≠ gl) w w1 := fun b hb _ => hbl b hb
        have hvlt : ∀ k, (Value.slice va n vcap).ownBlock = some k → k < w0.heap.size := fun k hk => (H2.out.lt k hk).2
        have HK1 := hid kg
        have HLS := hid (fun (i : Nat) (u : Value) (hu : rows[i]? = some u) => (by
          obtain ⟨a, len, e, hr, hU⟩ := H3.out i u hu
          refine ⟨a, len, e, (hr.below HB.out (R := RdFrame) (fun _ _ h => h)).keeps (U := fun b => b ≠ gl) (fun h0 q hq => ?_) hkp (fun _ _ h => h), hU⟩
          obtain ⟨b, off, e2, hc, _⟩ := hr.frameAt 0 (markD i) (by rw [List.getElem?_replicate, if_pos h0])
          have := World.block_lt_of_cell? w0 _ hc
          rw [hq] at e2
          cases e2
          simp at this ⊢
          omega : ∃ a len, u = .slice a len len ∧ RdL 3 RdFrame w1 a len len (List.replicate len (markD i)) ∧ InU (fun b => b ≠ g ∧ (Value.slice va n vcap).ownBlock ≠ some b) a len))
        have HNW := hid hrd
        have HNU : Hid (InU (fun b => b ≠ g ∧ (Value.slice va n vcap).ownBlock ≠ some b) (some ⟨gl, 0, none⟩) j) := fun _ q hq => by
          cases hq
          exact ⟨by show gl ≠ g; omega, fun e => by have := hvlt gl e; omega⟩
        have HKP : Hid (Keeps (fun b => b ≠ g ∧ (Value.slice va n vcap).ownBlock ≠ some b ∧ ∀ q, some (⟨gl, 0, none⟩ : Addr) = some q → b ≠ q.block) w w1) := fun b hb _ => hbl b (hb.2.2 _ rfl)
        have HSZ : Hid (w.heap.size = w1.heap.size) := hsw.symm
        have HEQ : Hid (w1.os = w.os ∧ w1.tape = w.tape ∧ w1.output = w.output) := ⟨ho1, ho2, ho3⟩
        have HOW : Hid (w1.ownsRow (g + 1) 38 1 (.slice va n vcap) n rows) := by
          have h := ownsRow_below H2.out HB.out
          refine ⟨h.1, ?_⟩
          rcases h.2 with h2 | ⟨k, c, cr, h5, h6, h7, h8⟩
          · exact .inl h2
          · exact .inr ⟨k, c, cr, h5, h6, (hbl k (by have := hvlt k (by rw [h5]; rfl); omega)).trans h7, h8⟩
        have hg1 : g < w1.heap.size := by omega
        clear hown hbl hrd hkp hvlt kg ho1 ho2 ho3 c5 hsw
        obtain ⟨i0, hi, hz0, hz1, hz2⟩ := info_parts Tryz.infoFrames
        go_wp2_with (at_builtin; refine wpList_append_lies _ rfl (.tmp 29) (.tmp 31) 29 rfl (g + 1) 38 i0 (.slice none 0 0) 1 24 Tryz.underlying29 hi hz0 hz1 hz2 rfl (by decide) _ _ _ rfl (HOW.out.alloc _) ⟨w1.heap.size, 0, none⟩ 1 1 [.slice (some ⟨gl, 0, none⟩) j j] rfl rfl (cell_one_new _ _ _) (fun u hu => by rw [List.mem_singleton.1 hu]; rfl) (by decide) (by unfold maxLen; omega) (by omega) (by simp; omega) _ rfl ?_)
        intro g' cap' w2 hown2 hgrow2 hat2 hlt2
        have k2 : w2.heap[g]? = some (.cells (fsW (.slice va n vcap)) 34 (0, 0)) := (hgrow2.block g (by simp; omega) (fun e => by have := (HOW.out.lt g e.symm).1; omega)).trans ((heap_alloc_old _ _ (by omega)).trans HK1.out)
        have z5 : w2.cell? ⟨g, 5, none⟩ = some (.slice va n vcap) := (fsCell k2).1
        have f5 : w2.frozen? ⟨g, 5, none⟩ = false := by simp [World.frozen?, k2]
        have hat3 : (Value.slice va n vcap).ownBlock = some g' ∨ w1.heap.size ≤ g' := by
          rcases hat2 with h | h
          · exact .inl h
          · exact .inr (by have : g' = w1.heap.size + 1 := by simpa using h
                           omega)
        have HFS := hid (fs_append HK1.out (fun e => by have := (HOW.out.lt g e).1; omega) HRL.out HLS.out HNW.out HNU.out hown2 hgrow2 hat3)
        have HKW : Hid (Keeps (fun b => b ≠ g ∧ (Value.slice va n vcap).ownBlock ≠ some b ∧ ∀ q, some (⟨gl, 0, none⟩ : Addr) = some q → b ≠ q.block) w (w2.setCell ⟨g, 5, none⟩ (.slice (some ⟨g', 0, none⟩) (n + 1) cap'))) := fun b hb hlt => by
          rw [Below.heap_setCell _ _ _ _ hb.1]
          exact (hgrow2.block b (by simp; have := HSZ.out; omega) (fun e => hb.2.1 e.symm)).trans ((heap_alloc_old _ _ (by have := HSZ.out; omega)).trans (HKP.out b hb hlt))
        have HO1 : Hid (w2.os = w.os ∧ w2.tape = w.tape ∧ w2.output = w.output ∧ w.heap.size ≤ w2.heap.size) := ⟨hgrow2.os.trans HEQ.out.1, hgrow2.tape.trans HEQ.out.2.1, hgrow2.output.trans HEQ.out.2.2, by have h1 := hgrow2.size; have h2 := HSZ.out; simp at h1; omega⟩
        clear k2 hown2 hgrow2 hat2
        go_wp2
        go_end0
        refine ⟨rfl, ⟨_, HFS.out, fun k hk => ?_⟩, ?_, HKW.out, HO1.out.1, HO1.out.2.1, HO1.out.2.2.1⟩
        · simp [Value.ownBlock] at hk
          subst hk
          rcases hat3 with h | h
          · exact .inl h
          · exact .inr (by have := HSZ.out; omega)
        · have h1 := HO1.out.2.2.2
          have h2 : (w2.setCell ⟨g, 5, none⟩ (.slice (some ⟨g', 0, none⟩) (n + 1) cap')).heap.size = w2.heap.size := by simp [World.setCell]
          omega
end Go.Proofs.YtffnfjkjlmlonaaGreatDoor
