/- Mathematics of images, third part: what is refused has one of four errors, at a place of the list or at its end. Contracts of the developers' reader of images: text and file. -/
import Derived.Test.YtffnfjkjlmlonaaGreatDoorZB6
import Derived.Test.YtffnfjkjlmlonaaGreatDoorZB5
namespace Go.Proofs.YtffnfjkjlmlonaaGreatDoor
open Go.RowKit
/-- An error that a reading may have. -/
def ErrD (e : Int) : Prop := e = 0 ∨ e = 2 ∨ e = 3 ∨ e = 4 ∨ e = 8
def InvR (bs : List Int) (s : RsD) : Prop := 0 ≤ s.at_ ∧ s.at_ ≤ bs.length ∧ ErrD s.e
def InvT (bs : List Int) (s : RsD) : Prop := InvR bs s ∧ (s.e = 0 → 0 ≤ s.to_ ∧ s.to_ ≤ bs.length)
theorem wid_err : ∀ (f : Nat) (bs : List Int), (wid f bs).2 = 0 ∨ (wid f bs).2 = 2 ∨ (wid f bs).2 = 3
  | 0, _ => by simp [wid]
  | f + 1, [] => by simp [wid]
  | f + 1, b :: r => by
    unfold wid
    split
    · simp
    · split
      · simp
      · exact wid_err f r
theorem getN_err (bs : List Int) (at_ : Int) (h0 : 0 ≤ at_) (h1 : at_ ≤ bs.length) : (getN bs at_).2.2 = 0 ∨ (getN bs at_).2.2 = 2 ∨ (getN bs at_).2.2 = 3 := by
  unfold getN
  rw [if_neg (by omega)]
  simp only
  split
  · exact wid_err _ _
  · split <;> simp
theorem getSp_err (bs : List Int) (at_ b r : Int) (h0 : 0 ≤ at_) (h1 : at_ ≤ bs.length) : ErrD (getSp bs at_ b r).2.2.2 := by
  unfold getSp ErrD
  simp only
  by_cases h : (getN bs at_).2.2 ≠ 0
  · rw [if_pos h]
    have := getN_err bs at_ h0 h1
    simp only
    omega
  · rw [if_neg h]
    have hb := getN_bd bs at_ (by simpa using h)
    split
    · simp
    · by_cases h2 : (getN bs (getN bs at_).2.1).2.2 ≠ 0
      · rw [if_pos h2]
        have := getN_err bs (getN bs at_).2.1 (by omega) (by omega)
        simp only
        omega
      · rw [if_neg h2]
        split <;> simp
theorem getTF_err (bs : List Int) : ∀ (f : Nat) (acc : List (Int × Int)) (at_ b r : Int), 0 ≤ at_ → at_ ≤ bs.length → ErrD (getTF bs f acc at_ b r).2.2
  | 0, acc, at_, b, r, _, _ => by simp [getTF, ErrD]
  | f + 1, acc, at_, b, r, h0, h1 => by
    rw [getTF_succ]
    split
    · simp [ErrD]
    · by_cases hs : (getSp bs at_ b r).2.2.2 ≠ 0
      · rw [if_pos hs]; exact getSp_err bs at_ b r h0 h1
      · rw [if_neg hs]
        have hb := getSp_bd bs at_ b r (by simpa using hs)
        exact getTF_err bs f _ _ _ _ (by omega) (by omega)
theorem getT_err (bs : List Int) (at_ : Int) (h0 : 0 ≤ at_) (h1 : at_ ≤ bs.length) : ErrD (getT bs at_).2.2 := by
  unfold getT
  rw [if_neg (by omega)]
  exact getTF_err bs _ _ _ _ _ h0 h1
theorem rNum_inv {bs : List Int} (hx : ∀ j, 0 ≤ bs.getD j 0 ∧ bs.getD j 0 ≤ 255) {s : RsD} (h : InvR bs s) : InvT bs (rNum bs s).2 ∧ 0 ≤ (rNum bs s).1 := by
  by_cases he : (rNum bs s).2.e = 0
  · obtain ⟨g1, g2, g3, t, g4, g5⟩ := rNum_ok hx he
    rw [g4]
    exact ⟨⟨⟨h.1, h.2.1, h.2.2⟩, fun _ => ⟨by have := g5.1; have := g5.2.1; simp only; omega, g5.2.2.1⟩⟩, g2⟩
  · refine ⟨⟨?_, fun hh => absurd hh he⟩, ?_⟩
    · unfold rNum
      split
      · exact h
      · refine ⟨h.1, h.2.1, ?_⟩
        have := getN_err bs s.at_ h.1 h.2.1
        unfold ErrD
        simp only
        omega
    · unfold rNum
      split
      · simp
      · rename_i hs
        unfold rNum at he
        rw [if_neg hs] at he
        simp only at he ⊢
        unfold getN at he ⊢
        split
        · simp
        · simp only
          split
          · simp
          · split
            · exact (valB_range _).1
            · simp
theorem rTab_inv {bs : List Int} (hx : ∀ j, 0 ≤ bs.getD j 0 ∧ bs.getD j 0 ≤ 255) {s : RsD} (h : InvR bs s) : InvT bs (rTab bs s).2 := by
  by_cases he : (rTab bs s).2.e = 0
  · obtain ⟨g1, g2, t, g4, g5⟩ := rTab_ok hx he
    rw [g4]
    exact ⟨⟨h.1, h.2.1, h.2.2⟩, fun _ => ⟨by have := g5.1; have := g5.2.1; simp only; omega, g5.2.2.1⟩⟩
  · refine ⟨?_, fun hh => absurd hh he⟩
    unfold rTab
    split
    · exact h
    · exact ⟨h.1, h.2.1, getT_err bs s.at_ h.1 h.2.1⟩
theorem rTake_inv {bs : List Int} {s : RsD} (h : InvT bs s) (b : Bool) : InvR bs (rTake s b) := by
  unfold rTake
  split
  · exact h.1
  · rename_i hs
    split
    · have := h.2 (by simpa using hs)
      exact ⟨this.1, this.2, h.1.2.2⟩
    · exact ⟨h.1.1, h.1.2.1, by simp [ErrD]⟩
theorem rByt_inv {bs : List Int} {s : RsD} (h : InvR bs s) {n : Int} (hn : 0 ≤ n) : InvT bs (rByt bs s n).2 := by
  unfold rByt
  split
  · exact ⟨h, fun hh => absurd hh (by assumption)⟩
  · split
    · exact ⟨⟨h.1, h.2.1, by simp [ErrD]⟩, fun hh => by simp at hh⟩
    · exact ⟨⟨h.1, h.2.1, h.2.2⟩, fun _ => ⟨by have := h.1; simp only; omega, by have := h.1; simp only; omega⟩⟩
theorem rText_inv {bs : List Int} (hx : ∀ j, 0 ≤ bs.getD j 0 ∧ bs.getD j 0 ≤ 255) {s : RsD} (h : InvR bs s) (l : List ByteArray) : InvR bs (rText bs s l).2 := by
  have h1 := rNum_inv hx h
  exact rTake_inv (rByt_inv (rTake_inv h1.1 _) h1.2) _
theorem rFile_inv {bs : List Int} (hx : ∀ j, 0 ≤ bs.getD j 0 ∧ bs.getD j 0 ≤ 255) {s : RsD} (h : InvR bs s) : InvR bs (rFile bs s).2 := by
  have h1 := rNum_inv hx h
  unfold rFile
  split
  · exact rTake_inv h1.1 _
  · have := rText_inv hx (rTake_inv h1.1 (decide ((rNum bs s).1 ≤ (s.files.length : Int)))) s.files
    exact ⟨this.1, this.2.1, this.2.2⟩
theorem rNode_inv {bs : List Int} (hx : ∀ j, 0 ≤ bs.getD j 0 ∧ bs.getD j 0 ≤ 255) {s : RsD} (h : InvR bs s) (inst : List Int) (funcs k before : Int) : InvR bs (rNode bs s inst funcs k before).2 :=
  rTake_inv (rNum_inv hx (rTake_inv (rNum_inv hx h).1 _)).1 _
theorem rTreeF_inv {bs : List Int} (hx : ∀ j, 0 ≤ bs.getD j 0 ∧ bs.getD j 0 ≤ 255) (inst : List Int) (funcs last : Int) : ∀ (f : Nat) (k before : Int) (l : List (Int × Int)) (s : RsD), InvR bs s → InvR bs (rTreeF bs inst funcs last f k before l s).2
  | 0, _, _, _, _, h => h
  | f + 1, k, before, l, s, h => by
    unfold rTreeF
    split
    · exact rTreeF_inv hx inst funcs last f _ _ _ _ (rNode_inv hx h _ _ _ _)
    · exact h
theorem rEntry_inv {bs : List Int} (hx : ∀ j, 0 ≤ bs.getD j 0 ∧ bs.getD j 0 ≤ 255) {s : RsD} (h : InvR bs s) (n : Int) : InvR bs (rEntry bs s n).2 := by
  have h1 := rText_inv hx h s.names
  have h2 : InvR bs (entA bs s) := ⟨h1.1, h1.2.1, h1.2.2⟩
  have h3 : InvR bs (entB bs s) := rFile_inv hx h2
  have h4 := rTake_inv (rTab_inv hx h3) (linesB (entC bs s).1 (entB bs s).room)
  have h5 : InvR bs (entD bs s) := ⟨h4.1, h4.2.1, h4.2.2⟩
  have h6 : InvR bs (entF bs s) := rTake_inv (rTab_inv hx h5) _
  exact rTreeF_inv hx _ _ _ _ _ _ _ _ h6
theorem rHeadF_inv {bs : List Int} : ∀ (r : List Int) (k : Nat) (s : RsD), k + r.length = 3 → InvR bs s → (k ≤ bs.length) → InvR bs (rHeadF bs k r s)
  | [], k, s, hk, h, hl => ⟨by simp [rHeadF], by simp [rHeadF] at hk ⊢; omega, h.2.2⟩
  | c :: r, k, s, hk, h, hl => by
    unfold rHeadF
    split
    · exact ⟨h.1, h.2.1, by simp [ErrD]⟩
    · split
      · exact ⟨h.1, h.2.1, by simp [ErrD]⟩
      · exact rHeadF_inv r (k + 1) s (by simp at hk; omega) h (by omega)
end Go.Proofs.YtffnfjkjlmlonaaGreatDoor
namespace Go.Proofs.YtffnfjkjlmlonaaGreatDoor
open Go.RowKit
theorem RdT.only {rb : Nat} {w w' : World} {a : Option Addr} {len cap : Nat} {l : List ByteArray} (h : RdT w a len cap l) (ho : OnlyR rb w w') (hn : ∀ q, a = some q → q.block ≠ rb) : RdT w' a len cap l := by
  obtain ⟨h1, h2, h3, h4⟩ := h
  refine ⟨h1, h2, h3, fun i x hx => ?_⟩
  obtain ⟨b, off, cs, e, hl, hc, hr⟩ := h4 i x hx
  refine ⟨b, off, cs, e, hl, fun j v hj => ?_, hr⟩
  exact ho.cell (q := ⟨b, off + i * 1 + j, none⟩) (show b ≠ rb from hn _ e) (hc j v hj)
theorem rByt_size {bs : List Int} {s : RsD} {n : Int} (h : s.e = 0 → 1 ≤ n ∧ n ≤ 20) : (rByt bs s n).1.size ≤ 20 := by
  unfold rByt
  by_cases he : s.e ≠ 0
  · rw [if_pos he]; simp
  · rw [if_neg he]
    have := h (by simpa using he)
    split
    · simp
    · simp only
      rw [strOfNums_size, List.length_take]
      omega
theorem OnlyR.lt {rb : Nat} {w : World} {a : Array Value} {t : TypeId} {fz : Nat × Nat} (h : w.heap[rb]? = some (.cells a t fz)) : rb < w.heap.size := (Array.getElem?_eq_some_iff.1 h).1
set_option maxHeartbeats 1000000 in
set_option maxRecDepth 100000 in
theorem rtext_any (rb : Nat) (ba : Option Addr) (blen bcap : Nat) (bs : List Int) (nv fv : Value) (s : RsD) (ta : Option Addr) (tlen tcap : Nat) (l : List ByteArray) (w : World) (hk : w.heap[rb]? = some (.cells (rdA (.slice ba blen bcap) s nv fv) 206 (0, 0))) (hb : Rd .u8 w ba blen bcap bs) (hne : ∀ q, ba = some q → q.block ≠ rb)
    (hx : ∀ j, 0 ≤ bs.getD j 0 ∧ bs.getD j 0 ≤ 255) (hi : InvR bs s) (ht : RdT w ta tlen tcap l) (htn : ∀ q, ta = some q → q.block ≠ rb) :
    Calls Tryz.prog 204 #[.pointer (some ⟨rb, 0, none⟩), .slice ta tlen tcap] w fun e w' => e = .returned (.string (rText bs s l).1) ∧ OnlyR rb w w' ∧ w'.heap[rb]? = some (.cells (rdA (.slice ba blen bcap) (rText bs s l).2 nv fv) 206 (0, 0)) := by
  have h1 := rNum_inv hx hi
  have h2 : InvR bs (rTake (rNum bs s).2 (decide (1 ≤ (rNum bs s).1 ∧ (rNum bs s).1 ≤ 20))) := rTake_inv h1.1 _
  have h3 : (rTake (rNum bs s).2 (decide (1 ≤ (rNum bs s).1 ∧ (rNum bs s).1 ≤ 20))).e = 0 → 1 ≤ (rNum bs s).1 ∧ (rNum bs s).1 ≤ 20 := fun h => of_decide_eq_true (rTake_ok h).2.1
  have HN := hid (rnumber_any rb ba blen bcap bs nv fv s w hk hb hx)
  unfold rText
  simp only
  obtain ⟨⟨n, s1⟩, hn⟩ : ∃ p, rNum bs s = p := ⟨_, rfl⟩
  rw [hn] at HN h1 h2 h3 ⊢
  simp only at HN h1 h2 h3 ⊢
  have HT := hid (fun (m : Bool) (W : World) (h : W.heap[rb]? = some (.cells (rdA (.slice ba blen bcap) s1 nv fv) 206 (0, 0))) => take_any rb (.slice ba blen bcap) nv fv s1 m W h)
  have hq : decide (1 ≤ n ∧ n ≤ 20) = (if 1 ≤ n then decide (n ≤ 20) else false) := by split <;> simp [*]
  obtain ⟨s2, hs2⟩ : ∃ p, rTake s1 (decide (1 ≤ n ∧ n ≤ 20)) = p := ⟨_, rfl⟩
  rw [hs2] at h2 h3 ⊢
  have hsz := rByt_size (bs := bs) h3
  obtain ⟨⟨str, s3⟩, hs3⟩ : ∃ p, rByt bs s2 n = p := ⟨_, rfl⟩
  have HBY := hid (fun (W : World) (h : W.heap[rb]? = some (.cells (rdA (.slice ba blen bcap) s2 nv fv) 206 (0, 0))) (hb' : Rd .u8 W ba blen bcap bs) => rbytes_any rb ba blen bcap bs nv fv s2 n W h hb' hne h2.1 h2.2.1 h3)
  rw [hs3] at HBY hsz ⊢
  simp only at HBY hsz ⊢
  have HNW := hid (fun (W : World) (h : RdT W ta tlen tcap l) => isNewWord_any str ta tlen tcap l W h (by unfold maxLen; omega))
  have HT2 := hid (fun (W : World) (h : W.heap[rb]? = some (.cells (rdA (.slice ba blen bcap) s3 nv fv) 206 (0, 0))) => take_any rb (.slice ba blen bcap) nv fv s3 (newB str l) W h)
  have HQ := hid hq
  have HS2 := hid hs2
  have HBB := hid hb
  have HTT := hid ht
  generalize newB str l = nw at *
  clear hk hb hs3 hs2 hq hn ht h1 h2 h3 hsz hi
  by_cases hn1 : 1 ≤ n
  · have HT1 := hid (fun (W : World) h => HT.out (decide (n ≤ 20)) W h)
    have hs2' : rTake s1 (decide (n ≤ 20)) = s2 := by have := HQ.out; rw [if_pos hn1] at this; rw [← this]; exact HS2.out
    rw [hs2'] at HT1
    clear HT hs2' HS2 HQ
    go_enter Tryz.func204, Tryz.ntmps204
    go_wp2_with fail
    refine HN.out.mono ?_
    rintro e w1 ⟨rfl, o1, k1⟩
    go_wp2_with fail
    refine (HT1.out w1 k1).mono ?_
    rintro e w2 ⟨rfl, o2, k2⟩
    go_wp2_with fail
    refine (HBY.out w2 k2 (HBB.out.only (o1.trans o2) hne)).mono ?_
    rintro e w3 ⟨rfl, o3, k3⟩
    go_wp2_with fail
    refine (HNW.out w3 (HTT.out.only ((o1.trans o2).trans o3) htn)).mono ?_
    rintro e w4 ⟨rfl, b4⟩
    go_wp2_with fail
    refine (HT2.out w4 ((b4.block rb (OnlyR.lt k3)).trans k3)).mono ?_
    rintro e w5 ⟨rfl, o5, k5⟩
    go_wp2
    go_ret
    exact ⟨rfl, (((o1.trans o2).trans o3).trans (OnlyR.below b4)).trans o5, k5⟩
  · have hn1' : decide (1 ≤ n) = false := by simpa using hn1
    have HT1 := hid (fun (W : World) h => HT.out false W h)
    have hs2' : rTake s1 false = s2 := by have := HQ.out; rw [if_neg hn1] at this; rw [← this]; exact HS2.out
    rw [hs2'] at HT1
    clear HT hs2' HS2 HQ hn1
    go_enter Tryz.func204, Tryz.ntmps204
    go_wp2_with fail
    refine HN.out.mono ?_
    rintro e w1 ⟨rfl, o1, k1⟩
    go_wp2_with fail
    refine (HT1.out w1 k1).mono ?_
    rintro e w2 ⟨rfl, o2, k2⟩
    go_wp2_with fail
    refine (HBY.out w2 k2 (HBB.out.only (o1.trans o2) hne)).mono ?_
    rintro e w3 ⟨rfl, o3, k3⟩
    go_wp2_with fail
    refine (HNW.out w3 (HTT.out.only ((o1.trans o2).trans o3) htn)).mono ?_
    rintro e w4 ⟨rfl, b4⟩
    go_wp2_with fail
    refine (HT2.out w4 ((b4.block rb (OnlyR.lt k3)).trans k3)).mono ?_
    rintro e w5 ⟨rfl, o5, k5⟩
    go_wp2
    go_ret
    exact ⟨rfl, (((o1.trans o2).trans o3).trans (OnlyR.below b4)).trans o5, k5⟩
end Go.Proofs.YtffnfjkjlmlonaaGreatDoor
