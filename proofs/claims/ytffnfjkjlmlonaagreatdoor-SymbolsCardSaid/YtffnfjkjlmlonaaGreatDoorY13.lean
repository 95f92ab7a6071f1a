/- The contract of the reference's Decode: what the plain reader reads of the bytes, in memory of the call's own; nothing that was there is written. -/
import Derived.Test.YtffnfjkjlmlonaaGreatDoorZB30
namespace Go.Proofs.YtffnfjkjlmlonaaGreatDoor
open Go.RowKit
def hdD (k : Nat) : Int := [85, 70, 1].getD k 0
theorem hdB_false {bs : List Int} (h : ∀ j, j < 3 → j < bs.length → bs.getD j 0 = hdD j) : hdB bs = false := by
  unfold hdB
  have e0 : (decide (0 < bs.length) && !(bs.getD 0 0 == 85)) = false := by
    by_cases q : 0 < bs.length
    · rw [h 0 (by omega) q]; simp [hdD]
    · simp only [q]; rfl
  have e1 : (decide (1 < bs.length) && !(bs.getD 1 0 == 70)) = false := by
    by_cases q : 1 < bs.length
    · rw [h 1 (by omega) q]; simp [hdD]
    · simp only [q]; rfl
  have e2 : (decide (2 < bs.length) && !(bs.getD 2 0 == 1)) = false := by
    by_cases q : 2 < bs.length
    · rw [h 2 (by omega) q]; simp [hdD]
    · simp only [q]; rfl
  rw [e0, e1, e2]; rfl
theorem hdB_true {bs : List Int} {k : Nat} (h3 : k < 3) (hl : k < bs.length) (h : bs.getD k 0 ≠ hdD k) : hdB bs = true := by
  unfold hdB
  match k, h3, hl, h with
  | 0, _, hl, h =>
    have e : (bs.getD 0 0 == 85) = false := by simpa [hdD] using h
    rw [e]; simp [hl]
  | 1, _, hl, h =>
    have e : (bs.getD 1 0 == 70) = false := by simpa [hdD] using h
    rw [e]; simp [hl]
  | 2, _, hl, h =>
    have e : (bs.getD 2 0 == 1) = false := by simpa [hdD] using h
    rw [e]; simp [hl]
theorem rdTx_ok {bs : List Int} {at_ : Int} {l : List ByteArray} (h : (rdTx bs at_ l).2.2 = 0) : (rdTx bs at_ l).1.size ≤ 20 := by
  unfold rdTx at h ⊢
  split at h
  · exact absurd h (by assumption)
  · rename_i h1
    rw [if_neg h1]
    split at h
    · simp at h
    · rename_i h2
      rw [if_neg h2]
      split at h
      · rename_i h3
        rw [if_pos h3]
        rw [Bool.and_eq_true] at h3
        have := h3.1
        unfold wordB at this
        rw [Bool.and_eq_true] at this
        exact (of_decide_eq_true this.1).2
      · simp at h
theorem rdFl_ok {bs : List Int} {at_ : Int} {l : List ByteArray} (hl : ∀ x ∈ l, x.size ≤ 20) (h : (rdFl bs at_ l).2.2 = 0) : (rdFl bs at_ l).1.size ≤ 20 := by
  unfold rdFl at h ⊢
  split at h
  · exact absurd h (by assumption)
  · rename_i h1
    rw [if_neg h1]
    split at h
    · rename_i h2
      rw [if_pos h2]
      exact rdTx_ok h
    · rename_i h2
      rw [if_neg h2]
      simp only
      rcases Nat.lt_or_ge (rdN bs at_ 0 l.length).1.toNat l.length with hlt | hge
      · rw [show l.getD (rdN bs at_ 0 l.length).1.toNat ByteArray.empty = l[(rdN bs at_ 0 l.length).1.toNat] by simp [List.getD, hlt]]
        exact hl _ (List.getElem_mem hlt)
      · rw [show l.getD (rdN bs at_ 0 l.length).1.toNat ByteArray.empty = ByteArray.empty by simp [List.getD, List.getElem?_eq_none hge]]
        exact Nat.zero_le _
theorem rdEn_sizes {bs : List Int} {at_ funcs : Int} {names files : List ByteArray} {all : Int} (hl : ∀ x ∈ files, x.size ≤ 20) (h : (rdEn bs at_ funcs names files all).2.2 = 0) : (rdEn bs at_ funcs names files all).1.name.size ≤ 20 ∧ (rdEn bs at_ funcs names files all).1.file.size ≤ 20 ∧
    all + (unroll (rdEn bs at_ funcs names files all).1.lines).length ≤ 1000 := by
  unfold rdEn at h ⊢
  split at h
  · exact absurd h (by assumption)
  rename_i h1
  rw [if_neg h1]
  split at h
  · exact absurd h (by assumption)
  rename_i h2
  rw [if_neg h2]
  split at h
  · exact absurd h (by assumption)
  rename_i h3
  rw [if_neg h3]
  split at h
  · exact absurd h (by assumption)
  rename_i h4
  rw [if_neg h4]
  split at h
  · simp at h
  rename_i h5
  rw [if_neg h5]
  split at h
  · exact absurd h (by assumption)
  rename_i h6
  rw [if_neg h6]
  refine ⟨rdTx_ok (by simpa using h1), rdFl_ok hl (by simpa using h2), ?_⟩
  have h3' : (rdLn bs (rdFl bs (rdTx bs at_ names).2.1 files).2.1 all).2.2 = 0 := by simpa using h3
  simp only
  unfold rdLn at h3'
  split at h3'
  · exact absurd h3' (by assumption)
  · split at h3'
    · rename_i h7
      rw [Bool.and_eq_true] at h7
      exact of_decide_eq_true h7.1
    · simp at h3'
/-- Where the reference's Decode is, behind k functions. -/
def DecAt (bs : List Int) (n p0 : Int) (hb B : Nat) (w2 : World) (lv nv fv av i : Value) (wr : World) : Prop :=
  ∃ (k : Nat) (l : List EntD) (files : List ByteArray) (all at_ : Int) (css : List (List Value)),
    i = .int .i64 k ∧ (k : Int) ≤ n ∧ l.length = k ∧ rdEF bs n n.toNat [] [] 0 p0 = rdEF bs n (n - k).toNat l files all at_ ∧
    wr.ownsRow B 115 5 lv k css.flatten ∧ OwnEnts B wr css l ∧
    wr.ownsRow B 9 1 nv k (strs (l.map (·.name))) ∧ (∀ x ∈ l.map (·.name), x.size ≤ 20) ∧
    wr.ownsRow B 9 1 fv files.length (strs files) ∧ (∀ x ∈ files, x.size ≤ 20) ∧ files.length ≤ k ∧
    (∀ b, nv.ownBlock = some b → fv.ownBlock ≠ some b) ∧ av = .int .i64 all ∧ 0 ≤ all ∧ all ≤ 1000 ∧
    wr.heap[hb]? = some (.cells #[.int .i64 at_, .int .i64 0] 135 (0, 0)) ∧ Below hb w2 wr
set_option maxHeartbeats 8000000 in
set_option maxRecDepth 100000 in
theorem rDecode_any (a : Option Addr) (len cap : Nat) (bs : List Int) (w : World) (hr : Rd .u8 w a len cap bs) (hx : ∀ j, 0 ≤ bs.getD j 0 ∧ bs.getD j 0 ≤ 255) (hbig : len ≤ 4611686018427387904) :
    Calls Tryz.prog 53 #[.slice a len cap] w fun e w' => ∃ v, e = .returned (.tuple #[.agg #[v], .int .i64 (rdDec bs).2.1, .int .i64 (rdDec bs).2.2]) ∧ OwnI w.heap.size w' v (rdDec bs).1 ∧ Below w.heap.size w w' := by
  have HL := hid hr.hlen
  have hmax := hr.hmax
  have hcap := hr.hcap
  unfold maxLen at hmax
  have HR := hid hr
  have HX := hid hx
  obtain ⟨fin, hfin⟩ : ∃ v, v = rdDec bs := ⟨_, rfl⟩
  rw [← hfin]
  unfold rdDec at hfin
  have HFIN := hid hfin
  obtain ⟨wA, hwA⟩ : ∃ v, v = w.alloc (Obj.cells #[.slice none 0 0] 41) := ⟨_, rfl⟩
  have hbA : Below w.heap.size w wA := by rw [hwA]; exact (Below.refl _ _).alloc (Nat.le_refl _) _
  have hsA : wA.heap.size = w.heap.size + 1 := by rw [hwA]; simp
  have kA : wA.heap[w.heap.size]? = some (.cells #[.slice none 0 0] 41 (0, 0)) := by rw [hwA]; exact heap_alloc_new _ _
  have HCEL : Hid (∀ W, Below wA.heap.size wA W → W.cell? ⟨w.heap.size, 0, none⟩ = some (.slice none 0 0) ∧ W.frozen? ⟨w.heap.size, 0, none⟩ = false) := hid (fun W hW => by
    have d1 := (hW.block w.heap.size (by omega)).trans kA
    exact ⟨by simp [World.cell?, d1], by simp [World.frozen?, d1]⟩)
  have HSET : Hid (∀ W, Below wA.heap.size wA W → ∀ u, Below w.heap.size w (W.setCell ⟨w.heap.size, 0, none⟩ u)) := hid (fun W hW u => (hbA.trans (hW.mono hbA.size)).setCell (p := ⟨w.heap.size, 0, none⟩) (Nat.le_refl _) _)
  have HNIL : Hid (∀ W, Below wA.heap.size wA W → ∀ e p : Int, fin = ([], e, p) → ∃ v, Ending.returned (.tuple #[.agg #[.slice none 0 0], .int .i64 e, .int .i64 p]) = .returned (.tuple #[.agg #[v], .int .i64 fin.2.1, .int .i64 fin.2.2]) ∧ OwnI w.heap.size (W.setCell ⟨w.heap.size, 0, none⟩ (.slice none 0 0)) v fin.1 ∧ Below w.heap.size w (W.setCell ⟨w.heap.size, 0, none⟩ (.slice none 0 0))) := hid (fun W hW e p hf => by
    rw [hf]
    exact ⟨_, rfl, OwnI.nil _ _, HSET.out W hW _⟩)
  have HBA := hid hbA
  clear hr hx hfin hbA kA
  go_enter Tryz.func53, Tryz.ntmps53
  go_wp2
  rw [← hwA]
  clear hwA
  go_loopw [6] (fun i wr => ∃ (k : Int), i = .int .i64 k ∧ (k = 0 ∨ k = 1 ∨ k = 2 ∨ k = 3) ∧ (∀ j : Nat, (j : Int) < k → j < len → bs.getD j 0 = hdD j) ∧ Below wA.heap.size wA wr) (fun i _ => 3 - (intOf i).toNat)
  case atStart => exact ⟨0, rfl, .inl rfl, fun j h => by omega, Below.refl _ _⟩
  case round =>
    obtain ⟨k, rfl, hk, hok, hbel⟩ := hrel
    have HOK := hid hok
    have HBEL := hid hbel
    obtain ⟨z0, y0⟩ := HCEL.out wr hbel
    have HRW := hid (HR.out.below (HBA.out.trans (hbel.mono HBA.out.size)) (Nat.le_refl _))
    have HNX : Hid (∀ m : Nat, (m < len → bs.getD m 0 = hdD m) → (∀ j : Nat, (j : Int) < m → j < len → bs.getD j 0 = hdD j) → ∀ j : Nat, (j : Int) < (m : Int) + 1 → j < len → bs.getD j 0 = hdD j) := hid (fun m h ho j hj hl => by
      by_cases e : j = m
      · subst e; exact h hl
      · exact ho j (by omega) hl)
    have HBD : Hid (∀ m : Nat, m < 3 → m < len → bs.getD m 0 ≠ hdD m → fin = ([], 8, 0)) := hid (fun m h3 hl h => by rw [HFIN.out, if_pos (hdB_true h3 (by rw [HL.out]; exact hl) h)])
    clear hok hbel
    rcases hk with rfl | rfl | rfl | rfl
    · by_cases hkl : 0 < len
      · obtain ⟨b, off, rfl, hc⟩ := HRW.out.open (by omega)
        have c0 := hc 0 hkl
        rw [Nat.add_zero] at c0
        have hkl' : (0 : Int) < (len : Int) := by omega
        have hn := HNX.out 0
        have hbd := HBD.out 0 (by omega) hkl
        generalize bs.getD 0 0 = bk at *
        clear hc
        by_cases hq : bk = 85
        · subst hq
          have HQ := hid (hn (fun _ => rfl) HOK.out)
          clear hn hbd
          go_wp2
          go_quiet (fail)
          go_wp2
          go_roundw
          case rel => exact ⟨1, rfl, .inr (.inl rfl), HQ.out, below_drawn HBEL.out nq⟩
          case measure => simp [intOf]
        · have hq' : (bk != (((⟨#[85, 70, 1]⟩ : ByteArray)[0]'(by decide)).toNat : Int)) = true := by
            show (bk != 85) = true
            simpa using hq
          have hf := hbd hq
          clear hn hbd
          go_wp2
          go_quiet (fail)
          go_wp2
          exact bodyPost_ret (v := .tuple #[.agg #[.slice none 0 0], .int .i64 8, .int .i64 0]) (by simp [results, Tryz.results53, go_sem, z0]) rfl (HNIL.out _ (below_drawn HBEL.out nq) 8 0 hf)
      · have hkl' : decide ((0 : Int) < (len : Int)) = false := by simp; omega
        have HQ := hid (HNX.out 0 (fun h => absurd h hkl) HOK.out)
        clear HRW
        go_wp2
        go_quiet (fail)
        go_wp2
        go_roundw
        case rel => exact ⟨1, rfl, .inr (.inl rfl), HQ.out, below_drawn HBEL.out nq⟩
        case measure => simp [intOf]
    · by_cases hkl : 1 < len
      · obtain ⟨b, off, rfl, hc⟩ := HRW.out.open (by omega)
        have c0 := hc 1 hkl
        have hkl' : (1 : Int) < (len : Int) := by omega
        have hn := HNX.out 1
        have hbd := HBD.out 1 (by omega) hkl
        generalize bs.getD 1 0 = bk at *
        clear hc
        by_cases hq : bk = 70
        · subst hq
          have HQ := hid (hn (fun _ => rfl) HOK.out)
          clear hn hbd
          go_wp2
          go_quiet (fail)
          go_wp2
          go_roundw
          case rel => exact ⟨2, rfl, .inr (.inr (.inl rfl)), HQ.out, below_drawn HBEL.out nq⟩
          case measure => simp [intOf]
        · have hq' : (bk != (((⟨#[85, 70, 1]⟩ : ByteArray)[1]'(by decide)).toNat : Int)) = true := by
            show (bk != 70) = true
            simpa using hq
          have hf := hbd hq
          clear hn hbd
          go_wp2
          go_quiet (fail)
          go_wp2
          exact bodyPost_ret (v := .tuple #[.agg #[.slice none 0 0], .int .i64 8, .int .i64 0]) (by simp [results, Tryz.results53, go_sem, z0]) rfl (HNIL.out _ (below_drawn HBEL.out nq) 8 0 hf)
      · have hkl' : decide ((1 : Int) < (len : Int)) = false := by simp; omega
        have HQ := hid (HNX.out 1 (fun h => absurd h hkl) HOK.out)
        clear HRW
        go_wp2
        go_quiet (fail)
        go_wp2
        go_roundw
        case rel => exact ⟨2, rfl, .inr (.inr (.inl rfl)), HQ.out, below_drawn HBEL.out nq⟩
        case measure => simp [intOf]
    · by_cases hkl : 2 < len
      · obtain ⟨b, off, rfl, hc⟩ := HRW.out.open (by omega)
        have c0 := hc 2 hkl
        have hkl' : (2 : Int) < (len : Int) := by omega
        have hn := HNX.out 2
        have hbd := HBD.out 2 (by omega) hkl
        generalize bs.getD 2 0 = bk at *
        clear hc
        by_cases hq : bk = 1
        · subst hq
          have HQ := hid (hn (fun _ => rfl) HOK.out)
          clear hn hbd
          go_wp2
          go_quiet (fail)
          go_wp2
          go_roundw
          case rel => exact ⟨3, rfl, .inr (.inr (.inr rfl)), HQ.out, below_drawn HBEL.out nq⟩
          case measure => simp [intOf]
        · have hq' : (bk != (((⟨#[85, 70, 1]⟩ : ByteArray)[2]'(by decide)).toNat : Int)) = true := by
            show (bk != 1) = true
            simpa using hq
          have hf := hbd hq
          clear hn hbd
          go_wp2
          go_quiet (fail)
          go_wp2
          exact bodyPost_ret (v := .tuple #[.agg #[.slice none 0 0], .int .i64 8, .int .i64 0]) (by simp [results, Tryz.results53, go_sem, z0]) rfl (HNIL.out _ (below_drawn HBEL.out nq) 8 0 hf)
      · have hkl' : decide ((2 : Int) < (len : Int)) = false := by simp; omega
        have HQ := hid (HNX.out 2 (fun h => absurd h hkl) HOK.out)
        clear HRW
        go_wp2
        go_quiet (fail)
        go_wp2
        go_roundw
        case rel => exact ⟨3, rfl, .inr (.inr (.inr rfl)), HQ.out, below_drawn HBEL.out nq⟩
        case measure => simp [intOf]
    · have HHD : Hid (hdB bs = false) := hid (hdB_false (fun j h3 hl => HOK.out j (by omega) (by rw [HL.out] at hl; exact hl)))
      by_cases hl3 : len < 3
      · have hl3' : decide ((len : Int) < 3) = true := by simp; omega
        have hf : fin = ([], 2, 0) := by rw [HFIN.out, HHD.out, if_neg (by simp), if_pos (by rw [HL.out]; exact hl3)]
        clear HRW
        go_wp2
        exact bodyPost_ret (v := .tuple #[.agg #[.slice none 0 0], .int .i64 2, .int .i64 0]) (by simp [results, Tryz.results53, go_sem, z0]) rfl (HNIL.out _ HBEL.out 2 0 hf)
      · have hl3' : decide ((len : Int) < 3) = false := by simp; omega
        have hf := HFIN.out
        rw [HHD.out, if_neg (by simp), if_neg (by rw [HL.out]; exact hl3)] at hf
        have HRN := hid (fun (W : World) (hW : Below w.heap.size w W) => readNumber_any a len cap bs 3 0 1 12 W (HR.out.below hW (Nat.le_refl _)) HX.out)
        have hbd := rdN_bd bs 3 1 12
        obtain ⟨⟨n, p0, e0⟩, hq⟩ : ∃ q, rdN bs 3 1 12 = q := ⟨_, rfl⟩
        rw [hq] at HRN hf hbd
        dsimp only at HRN hf hbd
        have HF1 := hid hf
        have HBW := hid (HBA.out.trans (HBEL.out.mono HBA.out.size))
        unfold hereV at HRN
        clear HFIN HHD HRW hf hq
        go_wp2_with fail
        refine (HRN.out wr HBW.out).mono ?_
        rintro e w1 ⟨rfl, b1⟩
        obtain ⟨w2, hw2⟩ : ∃ v, v = w1.alloc (Obj.cells #[.int .i64 p0, .int .i64 e0] 135) := ⟨_, rfl⟩
        have bb2 : Below w1.heap.size w1 w2 := by rw [hw2]; exact (Below.refl _ _).alloc (Nat.le_refl _) _
        have s1 := b1.size
        have sA := HBEL.out.size
        have s2 : w2.heap.size = w1.heap.size + 1 := by rw [hw2]; simp
        have k2 : w2.heap[w1.heap.size]? = some (.cells #[.int .i64 p0, .int .i64 e0] 135 (0, 0)) := by rw [hw2]; exact heap_alloc_new _ _
        have hbA2 : Below wA.heap.size wA w2 := HBEL.out.trans ((b1.trans (bb2.mono b1.size)).mono HBEL.out.size)
        obtain ⟨z2, y2⟩ := HCEL.out w2 hbA2
        obtain ⟨hb, hhb⟩ : ∃ v, v = w1.heap.size := ⟨_, rfl⟩
        rw [← hhb] at k2 s2
        have g0 : w2.cell? ⟨hb, 0, none⟩ = some (.int .i64 p0) := by simp [World.cell?, k2]
        have g1 : w2.cell? ⟨hb, 1, none⟩ = some (.int .i64 e0) := by simp [World.cell?, k2]
        have hhlt : hb < w2.heap.size := by omega
        have hne1 : w.heap.size < hb := by omega
        have hne2 : hb ≠ w.heap.size := by omega
        have HK2 := hid k2
        have HB2 := hid hbA2
        clear b1 bb2 k2 hbA2 z0 y0 HRN
        by_cases he : e0 = 0
        · subst he
          have hf := HF1.out
          rw [if_neg (by simp)] at hf
          have HF2 := hid hf
          obtain ⟨hn1, hn12, -, -, -⟩ := hbd rfl
          have HRE := hid (fun (W : World) (hW : Below w.heap.size w W) (at_ : Int) (na : Option Addr) (nlen ncap : Nat) (names : List ByteArray) (fa : Option Addr) (flen fcap : Nat) (files : List ByteArray) (all : Int) (h1 : RdT W na nlen ncap names) (h2 : RdT W fa flen fcap files) (h3 : 0 ≤ all) (h4 : all ≤ 1000) => readEntry_any a len cap bs at_ n na nlen ncap names fa flen fcap files all W (HR.out.below hW (Nat.le_refl _)) HX.out h1 h2 hbig hn1 hn12 h3 (by omega))
          unfold hereV at HRE
          have hhA : wA.heap.size ≤ hb := by omega
          obtain ⟨i0, hif, hz0, hz1, hz2⟩ := info_parts Tryz.infoEntry
          obtain ⟨j0, jif, jz0, jz1, jz2⟩ := info_parts Tryz.infoString
          obtain ⟨B, hBB⟩ : ∃ v, v = w2.heap.size := ⟨_, rfl⟩
          have hhB : hb < B := by omega
          have HBB := hid hBB
          clear hf hbd HF1 s2 hBB
          go_wp2
          rw [← hw2, ← hhb]
          clear hw2 hhb
          go_loopw [9, 10, 11, 12, 13, 14, 15, 16, 17, 18] (fun lv nv fv av i _ _ _ _ _ wr => DecAt bs n p0 hb B w2 lv nv fv av i wr) (fun _ _ _ _ i _ _ _ _ _ _ => (n - intOf i).toNat)
          case atStart => exact ⟨0, [], [], 0, p0, [], rfl, by omega, rfl, by simp, World.ownsRow_nil _ _ _ _, ⟨rfl, fun i cs x h => by simp at h⟩, World.ownsRow_nil _ _ _ _, fun x h => by simp at h, World.ownsRow_nil _ _ _ _, fun x h => by simp at h, by simp, fun b h => by simp [Value.ownBlock] at h, rfl, by omega, by omega, HK2.out, Below.refl _ _⟩
          case round =>
            rename World => wo
            obtain ⟨k, l, files, all, at_, css, rfl, hkn, rfl, hEF, hOl, hEnts, hOn, hnm, hOf, hfm, hflk, hnf, rfl, ha0, ha1, hbx, hbel⟩ := hrel
            have hsz : B ≤ wo.heap.size := by rw [HBB.out]; exact hbel.size
            have hbAr : Below wA.heap.size wA wo := HB2.out.trans (hbel.mono hhA)
            have hbw : Below w.heap.size w wo := HBA.out.trans (hbAr.mono HBA.out.size)
            obtain ⟨na, ncap, rfl, hrn, hnb⟩ := rdT_of_owns hOn (by simp) hnm
            obtain ⟨fa, fcap, rfl, hrf, hfb⟩ := rdT_of_owns hOf rfl hfm
            have x0 : wo.cell? ⟨hb, 0, none⟩ = some (.int .i64 at_) := by simp [World.cell?, hbx]
            have x1 : wo.cell? ⟨hb, 1, none⟩ = some (.int .i64 0) := by simp [World.cell?, hbx]
            have hnc1 := hrn.2.1
            have hnc2 := hrn.2.2.1
            have hfc1 := hrf.2.1
            have hfc2 := hrf.2.2.1
            unfold maxLen at hnc2 hfc2
            obtain ⟨la, lcap, rfl, hlc1, hlc2⟩ := owns_form hOl
            unfold maxLen at hlc2
            by_cases hgo : (l.length : Int) < n
            · have hgo' : decide ((l.length : Int) < n) = true := by simpa using hgo
              have HE1 := hid (HRE.out wo hbw at_ na l.length ncap (l.map (·.name)) fa files.length fcap files all hrn hrf ha0 ha1)
              have hstep : rdEF bs n n.toNat [] [] 0 p0 = if (rdEn bs at_ n (l.map (·.name)) files all).2.2 ≠ 0 then ([], (rdEn bs at_ n (l.map (·.name)) files all).2.1, (rdEn bs at_ n (l.map (·.name)) files all).2.2) else
                  rdEF bs n (n - ((l.length + 1 : Nat) : Int)).toNat (l ++ [(rdEn bs at_ n (l.map (·.name)) files all).1]) (if anewB l (rdEn bs at_ n (l.map (·.name)) files all).1 = true then files ++ [(rdEn bs at_ n (l.map (·.name)) files all).1.file] else files)
                    (all + (unroll (rdEn bs at_ n (l.map (·.name)) files all).1.lines).length) (rdEn bs at_ n (l.map (·.name)) files all).2.1 := by
                rw [hEF]
                obtain ⟨f, hf⟩ : ∃ f, (n - (l.length : Int)).toNat = f + 1 := ⟨(n - (l.length : Int)).toNat - 1, by omega⟩
                have hf2 : (n - ((l.length + 1 : Nat) : Int)).toNat = f := by omega
                rw [hf, hf2]
                rfl
              have hszs := rdEn_sizes (bs := bs) (at_ := at_) (funcs := n) (names := l.map (·.name)) (files := files) (all := all) hfm
              have hlw := rdEn_lines bs HX.out at_ n (l.map (·.name)) files all
              obtain ⟨⟨x, p3, e3⟩, hq3⟩ : ∃ q, rdEn bs at_ n (l.map (·.name)) files all = q := ⟨_, rfl⟩
              rw [hq3] at HE1 hstep hszs hlw
              dsimp only at HE1 hstep hszs hlw
              have HST := hid hstep
              have HOL := hid hOl
              have HEN := hid hEnts
              have HON := hid hOn
              have HOF := hid hOf
              have HBX := hid hbx
              have HBE := hid hbel
              have HWS : Hid (B ≤ wo.heap.size) := hid hsz
              have HNF := hid hnf
              have HNM := hid hnm
              have HFM := hid hfm
              clear hq3 hstep hOl hEnts hOn hOf hbx hbel hnf hEF hrn hrf hnb hfb hnm hfm
              go_wp2_with fail
              refine HE1.out.mono ?_
              rintro e w3 ⟨v1, v2, v3, rfl, o1, o2, o3, b3⟩
              obtain ⟨l1, c1, rfl, -, -⟩ := owns_form o1
              obtain ⟨l2, c2, rfl, -, -⟩ := owns_form o2
              obtain ⟨l3, c3, rfl, -, -⟩ := owns_form o3
              obtain ⟨w4, hw4⟩ : ∃ v, v = (w3.alloc (Obj.cells #[.string x.name, .string x.file, .slice l1 x.lines.length c1, .slice l2 x.index.length c2, .slice l3 x.tree.length c3] 115)).alloc (Obj.cells #[.int .i64 p3, .int .i64 e3] 135) := ⟨_, rfl⟩
              have s3 := b3.size
              have bb4 : Below w3.heap.size w3 w4 := by rw [hw4]; exact ((Below.refl _ _).alloc (Nat.le_refl _) _).alloc (by simp) _
              have s4 : w4.heap.size = w3.heap.size + 2 := by rw [hw4]; simp
              have b4 : Below wo.heap.size wo w4 := b3.trans (bb4.mono b3.size)
              have k4x : w4.heap[w3.heap.size]? = some (.cells #[.string x.name, .string x.file, .slice l1 x.lines.length c1, .slice l2 x.index.length c2, .slice l3 x.tree.length c3] 115 (0, 0)) := by
                rw [hw4, heap_alloc_old _ _ (by simp)]
                exact heap_alloc_new _ _
              have k4g : w4.heap[w3.heap.size + 1]? = some (.cells #[.int .i64 p3, .int .i64 e3] 135 (0, 0)) := by
                rw [hw4]
                have := heap_alloc_new (w3.alloc (Obj.cells #[.string x.name, .string x.file, .slice l1 x.lines.length c1, .slice l2 x.index.length c2, .slice l3 x.tree.length c3] 115)) (Obj.cells #[.int .i64 p3, .int .i64 e3] 135)
                simpa using this
              have hbA4 : Below wA.heap.size wA w4 := hbAr.trans (b4.mono hbAr.size)
              obtain ⟨z4, y4⟩ := HCEL.out w4 hbA4
              have HB4 := hid hbA4
              by_cases he3 : e3 = 0
              · subst he3
                obtain ⟨sz1, sz2, sz3⟩ := hszs rfl
                have hox : OwnEnt B w3 [.string x.name, .string x.file, .slice l1 x.lines.length c1, .slice l2 x.index.length c2, .slice l3 x.tree.length c3] x := ⟨_, _, _, rfl, owns_low7 o1 HWS.out, owns_low7 o2 HWS.out, owns_low7 o3 HWS.out, sz1, sz2⟩
                have HD4 : Hid (DB hb B w3.heap.size (w3.heap.size + 1) w2 (.slice la l.length lcap) (.slice na l.length ncap) (.slice fa files.length fcap) css l (l.map (·.name)) files at_ p3 [.string x.name, .string x.file, .slice l1 x.lines.length c1, .slice l2 x.index.length c2, .slice l3 x.tree.length c3] x w4) := hid
                  ⟨owns_below HOL.out b4, HEN.out.keep (KeepP.below b4), by rw [List.length_map]; exact owns_below HON.out b4, owns_below HOF.out b4, HNF.out, (b4.block hb (by omega)).trans HBX.out, k4x, k4g, hox.keep (KeepP.below bb4), HBE.out.trans (b4.mono (by omega)), hhB, by omega, fun e => by have := (HOL.out.lt _ e.symm).2; omega⟩
                have HD5 := hid (HD4.out.below ((Below.refl _ _).alloc (Nat.le_refl _) (Obj.cells #[.string x.name, .string x.file, .slice l1 x.lines.length c1, .slice l2 x.index.length c2, .slice l3 x.tree.length c3] 115)))
                have HOX := hid (ent5_one hox)
                rw [hw4] at HD5
                clear hox o1 o2 o3 bb4 k4x k4g HE1 HOL HEN HON HOF HBX hszs
                obtain ⟨ll, hll⟩ : ∃ v, v = x.lines.length := ⟨_, rfl⟩
                rw [← hll] at HD5 HOX hw4 ⊢
                have HLL := hid hll
                clear hll
                generalize x.index.length = il at *
                generalize x.tree.length = tl at *
                go_wp2_with (at_builtin; refine wpList_append_lies _ rfl (.tmp 85) (.tmp 87) 39 rfl B 115 i0 (.agg #[.string ⟨#[]⟩, .string ⟨#[]⟩, .slice none 0 0, .slice none 0 0, .slice none 0 0]) 5 104 Tryz.underlying39 hif hz0 hz1 hz2 rfl (by decide) _ _ _ rfl HD5.out.ol ⟨w3.heap.size + 1 + 1, 0, none⟩ 1 1 [.string x.name, .string x.file, .slice l1 ll c1, .slice l2 il c2, .slice l3 tl c3] rfl rfl (ent5_new_at (by simp) _ _ _ _ _ _) HOX.out (by decide) (by unfold maxLen; omega) (by omega) (by simp; omega) _ rfl ?_)
                intro g6 cap6 w6 hown6 hgrow6 hat6 hlt6
                have HD6 := hid (HD5.out.app_l hgrow6 hown6 (hat6.imp id (fun e => by simpa using e)))
                have kx6 := HD6.out.kx
                have e60 : w6.cell? ⟨w3.heap.size, 0, none⟩ = some (.string x.name) := by simp [World.cell?, kx6]
                have lt6 := HD6.out.lt_x
                have bw6 := HD6.out.bw
                have HD7 := hid (HD6.out.below ((Below.refl _ _).alloc (Nat.le_refl _) (Obj.cells #[.string x.name] 9)))
                have HO7 := hid HD7.out.on
                rw [List.length_map] at HO7
                clear hown6 hgrow6 hat6 hlt6 kx6 HD5 HD4 HD6
                go_wp2_with (at_builtin; refine wpList_append_lies _ rfl (.tmp 89) (.tmp 92) 138 rfl B 9 j0 (.string ⟨#[]⟩) 1 16 Tryz.underlying138 jif jz0 jz1 jz2 rfl (by decide) _ _ _ rfl HO7.out ⟨w6.heap.size, 0, none⟩ 1 1 [.string x.name] rfl rfl (cell_one_new _ _ _) (fun u hu => by rw [List.mem_singleton.1 hu]; rfl) (by decide) (by unfold maxLen; omega) (by omega) (by simp; omega) _ rfl ?_)
                intro g8 cap8 w8 hown8 hgrow8 hat8 hlt8
                have HD8 := hid (HD7.out.app_n hgrow8 (by rw [List.length_map]; exact hown8) (hat8.imp id (fun e => by simpa using e)))
                rw [List.length_map] at HD8
                obtain ⟨a9, c9, e9, hri⟩ := rdI_of HD8.out.ol HD8.out.oe
                have HOD := hid (older_any a9 c9 (l ++ [x]) l.length x w8 hri (by simp) (by rw [List.length_append, List.length_singleton]; omega))
                simp only [List.length_append, List.length_singleton, Value.slice.injEq, true_and] at e9
                obtain ⟨rfl, rfl⟩ := e9
                rw [List.length_append, List.length_singleton, List.take_left] at HOD
                clear hown8 hgrow8 hat8 hlt8 HD7 HO7 hri e60
                go_wp2_with fail
                refine HOD.out.mono ?_
                rintro e w9 ⟨cn, rfl, b9⟩
                have HD9 := hid (HD8.out.below b9)
                have kx9 := HD9.out.kx
                have e91 : w9.cell? ⟨w3.heap.size, 1, none⟩ = some (.string x.file) := by simp [World.cell?, kx9]
                have e92 : w9.cell? ⟨w3.heap.size, 2, none⟩ = some (.slice l1 ll c1) := by simp [World.cell?, kx9]
                have lt9 := HD9.out.lt_x
                have bw9 := HD9.out.bw
                clear kx9 HD8 HOD
                obtain ⟨an, han⟩ : ∃ v, v = anewB l x := ⟨_, rfl⟩
                rw [← han]
                have HAN := hid han
                clear han
                cases an with
                | true =>
                  have HD10 := hid (HD9.out.below ((Below.refl _ _).alloc (Nat.le_refl _) (Obj.cells #[.string x.file] 9)))
                  go_wp2_with (at_builtin; refine wpList_append_lies _ rfl (.tmp 101) (.tmp 104) 138 rfl B 9 j0 (.string ⟨#[]⟩) 1 16 Tryz.underlying138 jif jz0 jz1 jz2 rfl (by decide) _ _ _ rfl HD10.out.of ⟨w9.heap.size, 0, none⟩ 1 1 [.string x.file] rfl rfl (cell_one_new _ _ _) (fun u hu => by rw [List.mem_singleton.1 hu]; rfl) (by decide) (by unfold maxLen; omega) (by omega) (by simp; omega) _ rfl ?_)
                  intro g11 cap11 w11 hown11 hgrow11 hat11 hlt11
                  have HD11 := hid (HD10.out.app_f hgrow11 hown11 (hat11.imp id (fun e => by simpa using e)))
                  have kx11 := HD11.out.kx
                  have e112 : w11.cell? ⟨w3.heap.size, 2, none⟩ = some (.slice l1 ll c1) := by simp [World.cell?, kx11]
                  have lt11 := HD11.out.lt_x
                  have bw11 := HD11.out.bw
                  clear kx11 HD9 HD10 hown11 hgrow11 hat11 hlt11 e91 e92
                  have HUN := hid (runrolled_any l1 ll c1 x.lines w11 (HD11.out.lines HLL.out) hlw)
                  generalize hul : (unroll x.lines).length = ul at *
                  go_wp2_with fail
                  refine HUN.out.mono ?_
                  rintro e w12 ⟨v, rfl, ho12, b12⟩
                  obtain ⟨va, vc, rfl, hv1, hv2⟩ := owns_form ho12
                  unfold maxLen at hv2
                  have HD12 := hid (HD11.out.below b12)
                  have kg12 := HD12.out.kg
                  have kh12 := HD12.out.kh
                  have m0 : w12.cell? ⟨w3.heap.size + 1, 0, none⟩ = some (.int .i64 p3) := by simp [World.cell?, kg12]
                  have m1 : w12.cell? ⟨w3.heap.size + 1, 1, none⟩ = some (.int .i64 0) := by simp [World.cell?, kg12]
                  have q0 : w12.cell? ⟨hb, 0, none⟩ = some (.int .i64 at_) := by simp [World.cell?, kh12]
                  have q1 : w12.cell? ⟨hb, 1, none⟩ = some (.int .i64 0) := by simp [World.cell?, kh12]
                  have r0 : w12.frozen? ⟨hb, 0, none⟩ = false := by simp [World.frozen?, kh12]
                  have r1 : w12.frozen? ⟨hb, 1, none⟩ = false := by simp [World.frozen?, kh12]
                  have HREL : Hid (∀ W', W' = (w12.setCell ⟨hb, 0, none⟩ (.int .i64 p3)).setCell ⟨hb, 1, none⟩ (.int .i64 0) → DecAt bs n p0 hb B w2 (.slice (some ⟨g6, 0, none⟩) (l.length + 1) cap6) (.slice (some ⟨g8, 0, none⟩) (l.length + 1) cap8) (.slice (some ⟨g11, 0, none⟩) (files.length + 1) cap11) (.int .i64 (all + ul)) (.int .i64 ((l.length : Int) + 1)) W') := hid (fun W' hW' => by
                    obtain ⟨f1, f2, f3, f4, f5, f6⟩ := HD12.out.fin W' hW'
                    have hst := HST.out
                    rw [if_neg (by simp), ← HAN.out] at hst
                    rw [List.length_append, List.length_singleton] at f1
                    rw [List.length_append, List.length_map, List.length_singleton] at f3
                    refine ⟨l.length + 1, l ++ [x], files ++ [x.file], all + ul, p3, css ++ [[.string x.name, .string x.file, .slice l1 ll c1, .slice l2 il c2, .slice l3 tl c3]], by simp, by omega, by simp, ?_, f1, f2, ?_, ?_, f4, fun y hy => ?_, by simp; omega, HD12.out.nf, rfl, by omega, by omega, f5, f6⟩
                    · rw [hst]; rfl
                    · rw [List.map_append]; exact f3
                    · intro y hy
                      rw [List.map_append, List.mem_append] at hy
                      rcases hy with hy | hy
                      · exact HNM.out y hy
                      · rw [List.map_singleton, List.mem_singleton] at hy
                        rw [hy]; exact sz1
                    · rw [List.mem_append] at hy
                      rcases hy with hy | hy
                      · exact HFM.out y hy
                      · rw [List.mem_singleton] at hy
                        rw [hy]; exact sz2)
                  clear ho12 b12 HD12 kg12 kh12 HUN
                  go_wp2
                  go_roundw
                  case rel => exact HREL.out _ rfl
                  case measure => simp [intOf]; omega
                | false =>
                  have HUN := hid (runrolled_any l1 ll c1 x.lines w9 (HD9.out.lines HLL.out) hlw)
                  generalize hul : (unroll x.lines).length = ul at *
                  go_wp2_with fail
                  refine HUN.out.mono ?_
                  rintro e w12 ⟨v, rfl, ho12, b12⟩
                  obtain ⟨va, vc, rfl, hv1, hv2⟩ := owns_form ho12
                  unfold maxLen at hv2
                  have HD12 := hid (HD9.out.below b12)
                  have kg12 := HD12.out.kg
                  have kh12 := HD12.out.kh
                  have m0 : w12.cell? ⟨w3.heap.size + 1, 0, none⟩ = some (.int .i64 p3) := by simp [World.cell?, kg12]
                  have m1 : w12.cell? ⟨w3.heap.size + 1, 1, none⟩ = some (.int .i64 0) := by simp [World.cell?, kg12]
                  have q0 : w12.cell? ⟨hb, 0, none⟩ = some (.int .i64 at_) := by simp [World.cell?, kh12]
                  have q1 : w12.cell? ⟨hb, 1, none⟩ = some (.int .i64 0) := by simp [World.cell?, kh12]
                  have r0 : w12.frozen? ⟨hb, 0, none⟩ = false := by simp [World.frozen?, kh12]
                  have r1 : w12.frozen? ⟨hb, 1, none⟩ = false := by simp [World.frozen?, kh12]
                  have HREL : Hid (∀ W', W' = (w12.setCell ⟨hb, 0, none⟩ (.int .i64 p3)).setCell ⟨hb, 1, none⟩ (.int .i64 0) → DecAt bs n p0 hb B w2 (.slice (some ⟨g6, 0, none⟩) (l.length + 1) cap6) (.slice (some ⟨g8, 0, none⟩) (l.length + 1) cap8) (.slice fa files.length fcap) (.int .i64 (all + ul)) (.int .i64 ((l.length : Int) + 1)) W') := hid (fun W' hW' => by
                    obtain ⟨f1, f2, f3, f4, f5, f6⟩ := HD12.out.fin W' hW'
                    have hst := HST.out
                    rw [if_neg (by simp), ← HAN.out] at hst
                    rw [List.length_append, List.length_singleton] at f1
                    rw [List.length_append, List.length_map, List.length_singleton] at f3
                    refine ⟨l.length + 1, l ++ [x], files, all + ul, p3, css ++ [[.string x.name, .string x.file, .slice l1 ll c1, .slice l2 il c2, .slice l3 tl c3]], by simp, by omega, by simp, ?_, f1, f2, ?_, ?_, f4, HFM.out, by omega, HD12.out.nf, rfl, by omega, by omega, f5, f6⟩
                    · rw [hst]; simp
                    · rw [List.map_append]; exact f3
                    · intro y hy
                      rw [List.map_append, List.mem_append] at hy
                      rcases hy with hy | hy
                      · exact HNM.out y hy
                      · rw [List.map_singleton, List.mem_singleton] at hy
                        rw [hy]; exact sz1)
                  clear ho12 b12 HD12 kg12 kh12 HUN
                  go_wp2
                  go_roundw
                  case rel => exact HREL.out _ rfl
                  case measure => simp [intOf]; omega
              · have he3' : (e3 != 0) = true := by simpa using he3
                have hst := HST.out
                rw [if_pos he3] at hst
                have hf := HF2.out
                rw [hst, if_pos he3] at hf
                clear o1 o2 o3 bb4 HE1 HOL HEN HON HOF HBX hszs b4 k4x hst
                have m0 : w4.cell? ⟨w3.heap.size + 1, 0, none⟩ = some (.int .i64 p3) := by simp [World.cell?, k4g]
                have m1 : w4.cell? ⟨w3.heap.size + 1, 1, none⟩ = some (.int .i64 e3) := by simp [World.cell?, k4g]
                clear k4g
                go_wp2
                rw [← hw4]
                clear hw4
                go_region
                all_goals
                  go_wp2
                  obtain ⟨v', h1, h2, h3⟩ := HNIL.out w4 HB4.out e3 p3 hf
                  exact bodyPost_ret (v := .tuple #[.agg #[.slice none 0 0], .int .i64 e3, .int .i64 p3]) (by simp [results, Tryz.results53, go_sem, z4]) rfl ⟨v', h1, h2.below (Below.refl _ _).drew, h3.drew⟩
            · have hgo' : decide ((l.length : Int) < n) = false := by simpa using hgo
              have hrd : rdEF bs n n.toNat [] [] 0 p0 = (l, at_, 0) := by rw [hEF, show (n - (l.length : Int)).toNat = 0 by omega]; rfl
              have hf := HF2.out
              rw [hrd] at hf
              rw [if_neg (by simp)] at hf
              obtain ⟨z5, y5⟩ := HCEL.out wo hbAr
              have HOI : Hid (∀ W', W' = wo.setCell ⟨w.heap.size, 0, none⟩ (.slice la l.length lcap) → OwnI w.heap.size W' (.slice la l.length lcap) l ∧ Below w.heap.size w W') := hid (fun W' hW' => by
                have h1 : OwnI B wo (.slice la l.length lcap) l := ⟨css, hOl, hEnts⟩
                rw [hW']
                exact ⟨(h1.setLow (by omega)).low (by omega), HSET.out wo hbAr _⟩)
              have HBR := hid hbAr
              by_cases hat : at_ < (len : Int)
              · have hat' : decide (at_ < (len : Int)) = true := by simpa using hat
                have hf' : fin = ([], 8, at_) := by rw [hf, if_pos (by show at_ < (bs.length : Int); rw [HL.out]; exact hat)]
                clear hf hrd hEF hOl hEnts hOn hOf hnm hfm hnf hbx hbel hrn hrf hnb hfb hbAr hbw
                go_wp2
                go_region
                all_goals
                  go_wp2
                  obtain ⟨v', h1, h2, h3⟩ := HNIL.out wo HBR.out 8 at_ hf'
                  exact bodyPost_ret (v := .tuple #[.agg #[.slice none 0 0], .int .i64 8, .int .i64 at_]) (by simp [results, Tryz.results53, go_sem, z5]) rfl ⟨v', h1, h2.below (Below.refl _ _).drew, h3.drew⟩
              · have hat' : decide (at_ < (len : Int)) = false := by simpa using hat
                have hf' : fin = (l, 0, 0) := by rw [hf, if_neg (by show ¬ at_ < (bs.length : Int); rw [HL.out]; exact hat)]
                clear hf hrd hEF hOl hEnts hOn hOf hnm hfm hnf hbx hbel hrn hrf hnb hfb hbAr hbw
                go_wp2
                exact bodyPost_ret (v := .tuple #[.agg #[.slice la l.length lcap], .int .i64 0, .int .i64 0]) (by simp [results, Tryz.results53, go_sem, z5]) rfl ⟨_, rfl, (HOI.out _ rfl).1, (HOI.out _ rfl).2⟩
        · have he' : (e0 != 0) = true := by simpa using he
          have hf := HF1.out
          rw [if_pos he] at hf
          go_wp2
          rw [← hw2, ← hhb]
          clear hw2 hhb
          go_region
          all_goals
            go_wp2
            obtain ⟨v', h1, h2, h3⟩ := HNIL.out w2 HB2.out e0 p0 hf
            exact bodyPost_ret (v := .tuple #[.agg #[.slice none 0 0], .int .i64 e0, .int .i64 p0]) (by simp [results, Tryz.results53, go_sem, z2]) rfl ⟨v', h1, h2.below (Below.refl _ _).drew, h3.drew⟩
theorem rDecode_is (a : Option Addr) (len cap : Nat) (bs : List Int) (w : World) (hr : Rd .u8 w a len cap bs) (hx : ∀ j, 0 ≤ bs.getD j 0 ∧ bs.getD j 0 ≤ 255) (hbig : len ≤ 4611686018427387904) :
    Calls Tryz.prog 53 #[.slice a len cap] w fun e w' => ∃ v, e = .returned (.tuple #[.agg #[v], .int .i64 (decI bs).2.1, .int .i64 (decI bs).2.2]) ∧ OwnI w.heap.size w' v (decI bs).1 ∧ Below w.heap.size w w' := by
  have h := rDecode_any a len cap bs w hr hx hbig
  rw [rdDec_is hx] at h
  exact h
end Go.Proofs.YtffnfjkjlmlonaaGreatDoor
