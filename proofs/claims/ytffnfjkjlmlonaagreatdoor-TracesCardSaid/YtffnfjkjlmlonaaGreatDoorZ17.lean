/- Mathematics of images, second part: whole entries and whole images. Mathematics of images, third part: what is refused has one of four errors, at a place of the list or at its end. Contracts of the developers' reader of images: text and file. -/
import Derived.Test.YtffnfjkjlmlonaaGreatDoorZ16
import Derived.Test.YtffnfjkjlmlonaaGreatDoorZ15
namespace Go.Proofs.YtffnfjkjlmlonaaGreatDoor
open Go.RowKit

theorem rEntry_ok {bs : List Int} (hx : ∀ j, 0 ≤ bs.getD j 0 ∧ bs.getD j 0 ≤ 255) {s : RsD} {n : Int} (hf : Files s.files) (h : (rEntry bs s n).2.e = 0) :
    s.e = 0 ∧ entOk n (rEntry bs s n).1 s.names s.room = true ∧ Files (filesD (rEntry bs s n).1.file s.files) ∧
      ∃ a t, (rEntry bs s n).2 = ⟨a, t, 0, s.names ++ [(rEntry bs s n).1.name], filesD (rEntry bs s n).1.file s.files, s.room - sumS (rEntry bs s n).1.lines⟩ ∧ Eats bs s.at_ (entB' (rEntry bs s n).1 s.files) a := by
  unfold rEntry at h ⊢
  simp only at h ⊢
  have hF : (entF bs s).e = 0 := by
    by_cases he : (entF bs s).e = 0
    · exact he
    · exfalso
      unfold rTree at h
      cases hm : (mostT (entE bs s).1).toNat with
      | zero => rw [hm] at h; exact he h
      | succ m => rw [hm] at h; unfold rTreeF at h; rw [if_neg (fun hh => he hh.2)] at h; exact he h
  have hF' := hF
  unfold entF at hF'
  obtain ⟨f1, f2, f3⟩ := rTake_ok hF'
  have f3' : entF bs s = { (entE bs s).2 with at_ := (entE bs s).2.to_ } := f3
  have hE := f1
  unfold entE at hE
  obtain ⟨e1, e2, t5, e3, e4⟩ := rTab_ok hx hE
  have hD := e1
  unfold entD at hD
  simp only at hD
  obtain ⟨d1, d2, d3⟩ := rTake_ok hD
  have hC := d1
  unfold entC at hC
  obtain ⟨c1, c2, t3, c3, c4⟩ := rTab_ok hx hC
  have hA : Files (entA bs s).files := by
    show Files (rText bs s s.names).2.files
    have : ∀ (l : List ByteArray), (rText bs s l).2.files = s.files := by
      intro l
      unfold rText rTake rByt rNum
      simp only
      split <;> (try split) <;> (try split) <;> (try split) <;> (try split) <;> (try split) <;> (try split) <;> simp
    rw [this]; exact hf
  have hB := c1
  unfold entB at hB
  obtain ⟨b1, b2, b3, a2, t2, b4, b5⟩ := rFile_ok hx hA hB
  have hA' := b1
  unfold entA at hA'
  simp only at hA'
  obtain ⟨a1, a2', aa, at', a3, a4⟩ := rText_ok hx hA'
  have eA : entA bs s = { s with at_ := aa, to_ := at', names := s.names ++ [(rText bs s s.names).1] } := by unfold entA; rw [a3]
  have eB : entB bs s = { entA bs s with at_ := a2, to_ := t2, files := filesD (rFile bs (entA bs s)).1 (entA bs s).files } := b4
  have eC : (entC bs s).2 = { entB bs s with to_ := t3 } := c3
  have eD : entD bs s = { entB bs s with at_ := t3, to_ := t3, room := (entB bs s).room - sumS (entC bs s).1 } := by
    unfold entD; rw [d3, eC]
  have eE : (entE bs s).2 = { entD bs s with to_ := t5 } := e3
  have eF : entF bs s = { entD bs s with at_ := t5, to_ := t5 } := by rw [f3', eE]
  have hfa : (entA bs s).files = s.files := by rw [eA]
  have k5 : Eats bs (entD bs s).at_ (putS (entE bs s).1 (-1)) t5 := e4
  have k3 : Eats bs (entB bs s).at_ (putS (entC bs s).1 (-1)) t3 := c4
  rw [eD] at k5
  simp only at k5
  rw [eB] at k3
  simp only at k3
  rw [eA] at b5
  simp only at b5
  have h5 : 0 ≤ t5 ∧ t5 ≤ bs.length := ⟨by have := k5.1; have := k5.2.1; omega, k5.2.2.1⟩
  obtain ⟨t1, t2', t3', a6, t6, g4, g5⟩ := rTree_ok hx (s := entF bs s) (index := (entE bs s).1) (funcs := n) (by rw [eF]; exact h5.1) (by rw [eF]; exact h5.2) h
  have hroom : (entB bs s).room = s.room := by rw [eB, eA]
  have e0 : s.e = 0 := a1
  refine ⟨a1, ?_, ?_, a6, t6, ?_, ?_⟩
  · unfold entOk
    simp only
    have i1 : newB (rText bs s s.names).1 s.names = true := a2'
    have i2 : wordB (rFile bs (entA bs s)).1 = true := b2
    have i3 : wfT (entC bs s).1 = true := c2
    have i4 : wfT (entE bs s).1 = true := e2
    have i5 : linesB (entC bs s).1 s.room = true := by rw [← hroom]; exact d2
    have i6 : (sumS (entE bs s).1 == sumS (entC bs s).1) = true := f2
    have i7 : (((rTree bs (entF bs s) (entE bs s).1 n).1.length : Int) == mostT (entE bs s).1) = true := by simpa using t2'
    rw [i1, i2, i3, i4, i5, i6, i7, t3']; rfl
  · rw [hfa] at b3; exact b3
  · rw [g4, eF, eD, eB, eA]
    simp only
    rw [e0]
  · unfold entB'
    simp only
    have hFa : (entF bs s).at_ = t5 := by rw [eF]
    rw [hFa] at g5
    have b5' : Eats bs aa (fileB (rFile bs (entA bs s)).1 s.files) a2 := by rw [eA]; exact b5
    exact a4.trans (b5'.trans (k3.trans (k5.trans g5)))

theorem rEnts_ok {bs : List Int} (hx : ∀ j, 0 ≤ bs.getD j 0 ∧ bs.getD j 0 ≤ 255) (n : Int) : ∀ (f : Nat) (l : List EntD) (s : RsD), Files s.files → 0 ≤ s.at_ → s.at_ ≤ bs.length → (rEnts bs n f l s).2.e = 0 →
    s.e = 0 ∧ ∃ l' a, (rEnts bs n f l s).1 = l ++ l' ∧ l'.length = f ∧ wfIF n l' s.names s.room = true ∧ (rEnts bs n f l s).2.at_ = a ∧ Eats bs s.at_ (encF l' s.files) a
  | 0, l, s, _, h0, h1, h => ⟨h, [], s.at_, by simp [rEnts], rfl, rfl, rfl, Eats.nil h0 h1⟩
  | f + 1, l, s, hf, h0, h1, h => by
    unfold rEnts at h ⊢
    by_cases hs : s.e = 0
    · rw [if_pos hs] at h ⊢
      have he : (rEntry bs s n).2.e = 0 := by
        by_cases he : (rEntry bs s n).2.e = 0
        · exact he
        · exfalso
          cases f with
          | zero => exact he h
          | succ f => unfold rEnts at h; rw [if_neg he] at h; exact he h
      obtain ⟨g1, g2, g3, a, t, g4, g5⟩ := rEntry_ok hx hf he
      obtain ⟨_, l', a', e1, e2, e3, e4, e5⟩ := rEnts_ok hx n f (l ++ [(rEntry bs s n).1]) (rEntry bs s n).2 (by rw [g4]; exact g3) (by rw [g4]; have := g5.1; have := g5.2.1; simp only; omega) (by rw [g4]; exact g5.2.2.1) h
      rw [g4] at e3 e5
      simp only at e3 e5
      refine ⟨hs, (rEntry bs s n).1 :: l', a', by rw [e1]; simp, by simp [e2], ?_, e4, ?_⟩
      · unfold wfIF
        rw [g2, e3]; rfl
      · exact g5.trans e5
    · rw [if_neg hs] at h
      exact absurd h hs

theorem rHeadF_ok {bs : List Int} : ∀ (r : List Int) (k : Nat) (s : RsD), (rHeadF bs k r s).e = 0 → rHeadF bs k r s = { s with at_ := 3 } ∧ k + r.length ≤ max k bs.length ∧ (bs.drop k).take r.length = r
  | [], k, s, h => ⟨rfl, by simp; omega, by simp⟩
  | c :: r, k, s, h => by
    unfold rHeadF at h ⊢
    by_cases h1 : bs.length ≤ k
    · rw [if_pos h1] at h; simp at h
    · rw [if_neg h1] at h ⊢
      by_cases h2 : bs.getD k 0 ≠ c
      · rw [if_pos h2] at h; simp at h
      · rw [if_neg h2] at h ⊢
        obtain ⟨g1, g2, g3⟩ := rHeadF_ok r (k + 1) s h
        have h2' : bs.getD k 0 = c := by simpa using h2
        refine ⟨g1, by simp; omega, ?_⟩
        rw [List.drop_eq_getElem_cons (show k < bs.length by omega)]
        rw [List.length_cons, List.take_succ_cons, g3]
        rw [← h2']
        simp [List.getD, show k < bs.length by omega]

theorem rHead_ok {bs : List Int} {s : RsD} (h : (rHead bs s).e = 0) : rHead bs s = { s with at_ := 3 } ∧ Eats bs 0 [85, 70, 1] 3 := by
  obtain ⟨g1, g2, g3⟩ := rHeadF_ok _ _ _ h
  refine ⟨g1, ?_⟩
  have := Eats.of_take (bs := bs) (x := [85, 70, 1]) (a := 0) (by omega) (by simp at g2 ⊢; omega) (by simpa using g3)
  simpa using this

/-- What is read as an image is well-formed, and is written as it was. -/
theorem decI_ok {bs : List Int} (hx : ∀ j, 0 ≤ bs.getD j 0 ∧ bs.getD j 0 ≤ 255) (h : (decI bs).2.1 = 0) : wfI (decI bs).1 = true ∧ encI (decI bs).1 = bs ∧ (decI bs).2.2 = 0 := by
  unfold decI at h ⊢
  by_cases he : (rAll bs).2.e ≠ 0
  · rw [if_pos he] at h; exact absurd h he
  · rw [if_neg he]
    have he0 : (rAll bs).2.e = 0 := by simpa using he
    unfold rAll at he0 ⊢
    simp only at he0 ⊢
    obtain ⟨⟨l, s⟩, hl⟩ : ∃ p, rEnts bs (rCnt bs).1 (rCnt bs).1.toNat [] (rCnt bs).2 = p := ⟨_, rfl⟩
    rw [hl] at he0 ⊢
    simp only at he0 ⊢
    unfold rEnd at he0
    by_cases hq : s.e = 0 ∧ s.at_ < (bs.length : Int)
    · rw [if_pos hq] at he0; simp at he0
    · rw [if_neg hq] at he0
      have hat : (bs.length : Int) ≤ s.at_ := by
        rcases Int.lt_or_le s.at_ bs.length with hh | hh
        · exact absurd ⟨he0, hh⟩ hq
        · exact hh
      have hce : (rCnt bs).2.e = 0 := by
        by_cases hc : (rCnt bs).2.e = 0
        · exact hc
        · exfalso
          cases hf : (rCnt bs).1.toNat with
          | zero => rw [hf] at hl; simp only [rEnts] at hl; cases hl; exact hc he0
          | succ f => rw [hf] at hl; unfold rEnts at hl; rw [if_neg hc] at hl; cases hl; exact hc he0
      have hce' := hce
      unfold rCnt at hce'
      simp only at hce'
      obtain ⟨c1, c2, c3⟩ := rTake_ok hce'
      obtain ⟨n1, n2, n3, t, n4, n5⟩ := rNum_ok hx c1
      obtain ⟨q1, q2⟩ := rHead_ok n1
      have hcn : (rCnt bs).1 = (rNum bs (rHead bs rBeg)).1 := rfl
      have hcs : (rCnt bs).2 = { rBeg with at_ := t, to_ := t } := by
        show rTake _ _ = _
        rw [c3, n4, q1]
      have hn := of_decide_eq_true c2
      rw [← hcn] at hn n2
      have hha : (rHead bs rBeg).at_ = 3 := by rw [q1]
      rw [hha, ← hcn] at n5
      have e1 := rEnts_ok hx (rCnt bs).1 (rCnt bs).1.toNat [] (rCnt bs).2 (by rw [hcs]; exact ⟨fun i j _ hj => by simp [rBeg] at hj, fun x hxm => by simp [rBeg] at hxm⟩) (by rw [hcs]; have := n5.1; have := n5.2.1; simp only; omega) (by rw [hcs]; exact n5.2.2.1) (by rw [hl]; exact he0)
      rw [hl, hcs] at e1
      simp only [List.nil_append] at e1
      obtain ⟨_, l', a, e2, e3, e4, e5, e6⟩ := e1
      subst e2
      have hlen : (l.length : Int) = (rCnt bs).1 := by omega
      refine ⟨?_, ?_, trivial⟩
      · unfold wfI
        rw [Bool.and_eq_true]
        refine ⟨by simp; omega, ?_⟩
        rw [hlen]
        exact e4
      · have hE := q2.trans (n5.trans e6)
        unfold encI
        rw [hlen]
        have h4 := hE.2.2.2
        have ha : (bs.length : Int) ≤ a := by rw [← e5]; exact hat
        have h5 : bs.drop a.toNat = [] := List.drop_of_length_le (by omega)
        rw [h5, List.append_nil] at h4
        simp only [Int.toNat_zero, List.drop_zero] at h4
        exact h4.symm
end Go.Proofs.YtffnfjkjlmlonaaGreatDoor
namespace Go.Proofs.YtffnfjkjlmlonaaGreatDoor
open Go.RowKit

/-- An error that a reading may have. -/
def ErrD (e : Int) : Prop := e = 0 ∨ e = 2 ∨ e = 3 ∨ e = 4 ∨ e = 8
def InvR (bs : List Int) (s : RsD) : Prop := 0 ≤ s.at_ ∧ s.at_ ≤ bs.length ∧ ErrD s.e
def InvT (bs : List Int) (s : RsD) : Prop := InvR bs s ∧ (s.e = 0 → 0 ≤ s.to_ ∧ s.to_ ≤ bs.length)

theorem wid_err : ∀ (f : Nat) (bs : List Int), (wid f bs).2 = 0 ∨ (wid f bs).2 = 2 ∨ (wid f bs).2 = 3
  | 0, _ => by simp [wid]
  | f + 1, [] => by simp [wid]
  | f + 1, b :: r => by
    unfold wid
    split
    · simp
    · split
      · simp
      · exact wid_err f r
theorem getN_err (bs : List Int) (at_ : Int) (h0 : 0 ≤ at_) (h1 : at_ ≤ bs.length) : (getN bs at_).2.2 = 0 ∨ (getN bs at_).2.2 = 2 ∨ (getN bs at_).2.2 = 3 := by
  unfold getN
  rw [if_neg (by omega)]
  simp only
  split
  · exact wid_err _ _
  · split <;> simp
theorem getSp_err (bs : List Int) (at_ b r : Int) (h0 : 0 ≤ at_) (h1 : at_ ≤ bs.length) : ErrD (getSp bs at_ b r).2.2.2 := by
  unfold getSp ErrD
  simp only
  by_cases h : (getN bs at_).2.2 ≠ 0
  · rw [if_pos h]
    have := getN_err bs at_ h0 h1
    simp only
    omega
  · rw [if_neg h]
    have hb := getN_bd bs at_ (by simpa using h)
    split
    · simp
    · by_cases h2 : (getN bs (getN bs at_).2.1).2.2 ≠ 0
      · rw [if_pos h2]
        have := getN_err bs (getN bs at_).2.1 (by omega) (by omega)
        simp only
        omega
      · rw [if_neg h2]
        split <;> simp
theorem getTF_err (bs : List Int) : ∀ (f : Nat) (acc : List (Int × Int)) (at_ b r : Int), 0 ≤ at_ → at_ ≤ bs.length → ErrD (getTF bs f acc at_ b r).2.2
  | 0, acc, at_, b, r, _, _ => by simp [getTF, ErrD]
  | f + 1, acc, at_, b, r, h0, h1 => by
    rw [getTF_succ]
    split
    · simp [ErrD]
    · by_cases hs : (getSp bs at_ b r).2.2.2 ≠ 0
      · rw [if_pos hs]; exact getSp_err bs at_ b r h0 h1
      · rw [if_neg hs]
        have hb := getSp_bd bs at_ b r (by simpa using hs)
        exact getTF_err bs f _ _ _ _ (by omega) (by omega)
theorem getT_err (bs : List Int) (at_ : Int) (h0 : 0 ≤ at_) (h1 : at_ ≤ bs.length) : ErrD (getT bs at_).2.2 := by
  unfold getT
  rw [if_neg (by omega)]
  exact getTF_err bs _ _ _ _ _ h0 h1

theorem rNum_inv {bs : List Int} (hx : ∀ j, 0 ≤ bs.getD j 0 ∧ bs.getD j 0 ≤ 255) {s : RsD} (h : InvR bs s) : InvT bs (rNum bs s).2 ∧ 0 ≤ (rNum bs s).1 := by
  by_cases he : (rNum bs s).2.e = 0
  · obtain ⟨g1, g2, g3, t, g4, g5⟩ := rNum_ok hx he
    rw [g4]
    exact ⟨⟨⟨h.1, h.2.1, h.2.2⟩, fun _ => ⟨by have := g5.1; have := g5.2.1; simp only; omega, g5.2.2.1⟩⟩, g2⟩
  · refine ⟨⟨?_, fun hh => absurd hh he⟩, ?_⟩
    · unfold rNum
      split
      · exact h
      · refine ⟨h.1, h.2.1, ?_⟩
        have := getN_err bs s.at_ h.1 h.2.1
        unfold ErrD
        simp only
        omega
    · unfold rNum
      split
      · simp
      · rename_i hs
        unfold rNum at he
        rw [if_neg hs] at he
        simp only at he ⊢
        unfold getN at he ⊢
        split
        · simp
        · simp only
          split
          · simp
          · split
            · exact (valB_range _).1
            · simp
theorem rTab_inv {bs : List Int} (hx : ∀ j, 0 ≤ bs.getD j 0 ∧ bs.getD j 0 ≤ 255) {s : RsD} (h : InvR bs s) : InvT bs (rTab bs s).2 := by
  by_cases he : (rTab bs s).2.e = 0
  · obtain ⟨g1, g2, t, g4, g5⟩ := rTab_ok hx he
    rw [g4]
    exact ⟨⟨h.1, h.2.1, h.2.2⟩, fun _ => ⟨by have := g5.1; have := g5.2.1; simp only; omega, g5.2.2.1⟩⟩
  · refine ⟨?_, fun hh => absurd hh he⟩
    unfold rTab
    split
    · exact h
    · exact ⟨h.1, h.2.1, getT_err bs s.at_ h.1 h.2.1⟩
theorem rTake_inv {bs : List Int} {s : RsD} (h : InvT bs s) (b : Bool) : InvR bs (rTake s b) := by
  unfold rTake
  split
  · exact h.1
  · rename_i hs
    split
    · have := h.2 (by simpa using hs)
      exact ⟨this.1, this.2, h.1.2.2⟩
    · exact ⟨h.1.1, h.1.2.1, by simp [ErrD]⟩
theorem rByt_inv {bs : List Int} {s : RsD} (h : InvR bs s) {n : Int} (hn : 0 ≤ n) : InvT bs (rByt bs s n).2 := by
  unfold rByt
  split
  · exact ⟨h, fun hh => absurd hh (by assumption)⟩
  · split
    · exact ⟨⟨h.1, h.2.1, by simp [ErrD]⟩, fun hh => by simp at hh⟩
    · exact ⟨⟨h.1, h.2.1, h.2.2⟩, fun _ => ⟨by have := h.1; simp only; omega, by have := h.1; simp only; omega⟩⟩
theorem rText_inv {bs : List Int} (hx : ∀ j, 0 ≤ bs.getD j 0 ∧ bs.getD j 0 ≤ 255) {s : RsD} (h : InvR bs s) (l : List ByteArray) : InvR bs (rText bs s l).2 := by
  have h1 := rNum_inv hx h
  exact rTake_inv (rByt_inv (rTake_inv h1.1 _) h1.2) _
theorem rFile_inv {bs : List Int} (hx : ∀ j, 0 ≤ bs.getD j 0 ∧ bs.getD j 0 ≤ 255) {s : RsD} (h : InvR bs s) : InvR bs (rFile bs s).2 := by
  have h1 := rNum_inv hx h
  unfold rFile
  split
  · exact rTake_inv h1.1 _
  · have := rText_inv hx (rTake_inv h1.1 (decide ((rNum bs s).1 ≤ (s.files.length : Int)))) s.files
    exact ⟨this.1, this.2.1, this.2.2⟩
theorem rNode_inv {bs : List Int} (hx : ∀ j, 0 ≤ bs.getD j 0 ∧ bs.getD j 0 ≤ 255) {s : RsD} (h : InvR bs s) (inst : List Int) (funcs k before : Int) : InvR bs (rNode bs s inst funcs k before).2 :=
  rTake_inv (rNum_inv hx (rTake_inv (rNum_inv hx h).1 _)).1 _
theorem rTreeF_inv {bs : List Int} (hx : ∀ j, 0 ≤ bs.getD j 0 ∧ bs.getD j 0 ≤ 255) (inst : List Int) (funcs last : Int) : ∀ (f : Nat) (k before : Int) (l : List (Int × Int)) (s : RsD), InvR bs s → InvR bs (rTreeF bs inst funcs last f k before l s).2
  | 0, _, _, _, _, h => h
  | f + 1, k, before, l, s, h => by
    unfold rTreeF
    split
    · exact rTreeF_inv hx inst funcs last f _ _ _ _ (rNode_inv hx h _ _ _ _)
    · exact h
theorem rEntry_inv {bs : List Int} (hx : ∀ j, 0 ≤ bs.getD j 0 ∧ bs.getD j 0 ≤ 255) {s : RsD} (h : InvR bs s) (n : Int) : InvR bs (rEntry bs s n).2 := by
  have h1 := rText_inv hx h s.names
  have h2 : InvR bs (entA bs s) := ⟨h1.1, h1.2.1, h1.2.2⟩
  have h3 : InvR bs (entB bs s) := rFile_inv hx h2
  have h4 := rTake_inv (rTab_inv hx h3) (linesB (entC bs s).1 (entB bs s).room)
  have h5 : InvR bs (entD bs s) := ⟨h4.1, h4.2.1, h4.2.2⟩
  have h6 : InvR bs (entF bs s) := rTake_inv (rTab_inv hx h5) _
  exact rTreeF_inv hx _ _ _ _ _ _ _ _ h6
theorem rEnts_inv {bs : List Int} (hx : ∀ j, 0 ≤ bs.getD j 0 ∧ bs.getD j 0 ≤ 255) (n : Int) : ∀ (f : Nat) (l : List EntD) (s : RsD), InvR bs s → InvR bs (rEnts bs n f l s).2
  | 0, _, _, h => h
  | f + 1, l, s, h => by
    unfold rEnts
    split
    · exact rEnts_inv hx n f _ _ (rEntry_inv hx h n)
    · exact h
theorem rHeadF_inv {bs : List Int} : ∀ (r : List Int) (k : Nat) (s : RsD), k + r.length = 3 → InvR bs s → (k ≤ bs.length) → InvR bs (rHeadF bs k r s)
  | [], k, s, hk, h, hl => ⟨by simp [rHeadF], by simp [rHeadF] at hk ⊢; omega, h.2.2⟩
  | c :: r, k, s, hk, h, hl => by
    unfold rHeadF
    split
    · exact ⟨h.1, h.2.1, by simp [ErrD]⟩
    · split
      · exact ⟨h.1, h.2.1, by simp [ErrD]⟩
      · exact rHeadF_inv r (k + 1) s (by simp at hk; omega) h (by omega)
theorem rCnt_inv {bs : List Int} (hx : ∀ j, 0 ≤ bs.getD j 0 ∧ bs.getD j 0 ≤ 255) : InvR bs (rCnt bs).2 :=
  rTake_inv (rNum_inv hx (rHeadF_inv _ 0 rBeg rfl ⟨by simp [rBeg], by simp [rBeg], by simp [rBeg, ErrD]⟩ (by omega))).1 _

/-- What is refused has one of four errors, and a place in the list or at its end. -/
theorem decI_err {bs : List Int} (hx : ∀ j, 0 ≤ bs.getD j 0 ∧ bs.getD j 0 ≤ 255) (h : (decI bs).2.1 ≠ 0) : (decI bs).1 = [] ∧ ((decI bs).2.1 = 2 ∨ (decI bs).2.1 = 3 ∨ (decI bs).2.1 = 4 ∨ (decI bs).2.1 = 8) ∧ 0 ≤ (decI bs).2.2 ∧ (decI bs).2.2 ≤ bs.length := by
  have hi : InvR bs (rAll bs).2 := by
    have := rEnts_inv hx (rCnt bs).1 (rCnt bs).1.toNat [] (rCnt bs).2 (rCnt_inv hx)
    unfold rAll rEnd
    simp only
    split
    · exact ⟨this.1, this.2.1, by simp [ErrD]⟩
    · exact this
  unfold decI at h ⊢
  by_cases he : (rAll bs).2.e ≠ 0
  · rw [if_pos he] at h ⊢
    refine ⟨rfl, ?_, hi.1, hi.2.1⟩
    have := hi.2.2
    unfold ErrD at this
    simp only at h ⊢
    omega
  · rw [if_neg he] at h; simp at h
end Go.Proofs.YtffnfjkjlmlonaaGreatDoor
namespace Go.Proofs.YtffnfjkjlmlonaaGreatDoor
open Go.RowKit

theorem RdT.only {rb : Nat} {w w' : World} {a : Option Addr} {len cap : Nat} {l : List ByteArray} (h : RdT w a len cap l) (ho : OnlyR rb w w') (hn : ∀ q, a = some q → q.block ≠ rb) : RdT w' a len cap l := by
  obtain ⟨h1, h2, h3, h4⟩ := h
  refine ⟨h1, h2, h3, fun i x hx => ?_⟩
  obtain ⟨b, off, cs, e, hl, hc, hr⟩ := h4 i x hx
  refine ⟨b, off, cs, e, hl, fun j v hj => ?_, hr⟩
  exact ho.cell (q := ⟨b, off + i * 1 + j, none⟩) (show b ≠ rb from hn _ e) (hc j v hj)

theorem rByt_size {bs : List Int} {s : RsD} {n : Int} (h : s.e = 0 → 1 ≤ n ∧ n ≤ 20) : (rByt bs s n).1.size ≤ 20 := by
  unfold rByt
  by_cases he : s.e ≠ 0
  · rw [if_pos he]; simp
  · rw [if_neg he]
    have := h (by simpa using he)
    split
    · simp
    · simp only
      rw [strOfNums_size, List.length_take]
      omega

theorem OnlyR.lt {rb : Nat} {w : World} {a : Array Value} {t : TypeId} {fz : Nat × Nat} (h : w.heap[rb]? = some (.cells a t fz)) : rb < w.heap.size := (Array.getElem?_eq_some_iff.1 h).1

set_option maxHeartbeats 1000000 in
set_option maxRecDepth 100000 in
theorem rtext_any (rb : Nat) (ba : Option Addr) (blen bcap : Nat) (bs : List Int) (nv fv : Value) (s : RsD) (ta : Option Addr) (tlen tcap : Nat) (l : List ByteArray) (w : World) (hk : w.heap[rb]? = some (.cells (rdA (.slice ba blen bcap) s nv fv) 206 (0, 0))) (hb : Rd .u8 w ba blen bcap bs) (hne : ∀ q, ba = some q → q.block ≠ rb)
    (hx : ∀ j, 0 ≤ bs.getD j 0 ∧ bs.getD j 0 ≤ 255) (hi : InvR bs s) (ht : RdT w ta tlen tcap l) (htn : ∀ q, ta = some q → q.block ≠ rb) :
    Calls Tryz.prog 204 #[.pointer (some ⟨rb, 0, none⟩), .slice ta tlen tcap] w fun e w' => e = .returned (.string (rText bs s l).1) ∧ OnlyR rb w w' ∧ w'.heap[rb]? = some (.cells (rdA (.slice ba blen bcap) (rText bs s l).2 nv fv) 206 (0, 0)) := by
  have h1 := rNum_inv hx hi
  have h2 : InvR bs (rTake (rNum bs s).2 (decide (1 ≤ (rNum bs s).1 ∧ (rNum bs s).1 ≤ 20))) := rTake_inv h1.1 _
  have h3 : (rTake (rNum bs s).2 (decide (1 ≤ (rNum bs s).1 ∧ (rNum bs s).1 ≤ 20))).e = 0 → 1 ≤ (rNum bs s).1 ∧ (rNum bs s).1 ≤ 20 := fun h => of_decide_eq_true (rTake_ok h).2.1
  have HN := hid (rnumber_any rb ba blen bcap bs nv fv s w hk hb hx)
  unfold rText
  simp only
  obtain ⟨⟨n, s1⟩, hn⟩ : ∃ p, rNum bs s = p := ⟨_, rfl⟩
  rw [hn] at HN h1 h2 h3 ⊢
  simp only at HN h1 h2 h3 ⊢
  have HT := hid (fun (m : Bool) (W : World) (h : W.heap[rb]? = some (.cells (rdA (.slice ba blen bcap) s1 nv fv) 206 (0, 0))) => take_any rb (.slice ba blen bcap) nv fv s1 m W h)
  have hq : decide (1 ≤ n ∧ n ≤ 20) = (if 1 ≤ n then decide (n ≤ 20) else false) := by split <;> simp [*]
  obtain ⟨s2, hs2⟩ : ∃ p, rTake s1 (decide (1 ≤ n ∧ n ≤ 20)) = p := ⟨_, rfl⟩
  rw [hs2] at h2 h3 ⊢
  have hsz := rByt_size (bs := bs) h3
  obtain ⟨⟨str, s3⟩, hs3⟩ : ∃ p, rByt bs s2 n = p := ⟨_, rfl⟩
  have HBY := hid (fun (W : World) (h : W.heap[rb]? = some (.cells (rdA (.slice ba blen bcap) s2 nv fv) 206 (0, 0))) (hb' : Rd .u8 W ba blen bcap bs) => rbytes_any rb ba blen bcap bs nv fv s2 n W h hb' hne h2.1 h2.2.1 h3)
  rw [hs3] at HBY hsz ⊢
  simp only at HBY hsz ⊢
  have HNW := hid (fun (W : World) (h : RdT W ta tlen tcap l) => isNewWord_any str ta tlen tcap l W h (by unfold maxLen; omega))
  have HT2 := hid (fun (W : World) (h : W.heap[rb]? = some (.cells (rdA (.slice ba blen bcap) s3 nv fv) 206 (0, 0))) => take_any rb (.slice ba blen bcap) nv fv s3 (newB str l) W h)
  have HQ := hid hq
  have HS2 := hid hs2
  have HBB := hid hb
  have HTT := hid ht
  generalize newB str l = nw at *
  clear hk hb hs3 hs2 hq hn ht h1 h2 h3 hsz hi
  by_cases hn1 : 1 ≤ n
  · have HT1 := hid (fun (W : World) h => HT.out (decide (n ≤ 20)) W h)
    have hs2' : rTake s1 (decide (n ≤ 20)) = s2 := by have := HQ.out; rw [if_pos hn1] at this; rw [← this]; exact HS2.out
    rw [hs2'] at HT1
    clear HT hs2' HS2 HQ
    go_enter Tryz.func204, Tryz.ntmps204
    go_wp2_with fail
    refine HN.out.mono ?_
    rintro e w1 ⟨rfl, o1, k1⟩
    go_wp2_with fail
    refine (HT1.out w1 k1).mono ?_
    rintro e w2 ⟨rfl, o2, k2⟩
    go_wp2_with fail
    refine (HBY.out w2 k2 (HBB.out.only (o1.trans o2) hne)).mono ?_
    rintro e w3 ⟨rfl, o3, k3⟩
    go_wp2_with fail
    refine (HNW.out w3 (HTT.out.only ((o1.trans o2).trans o3) htn)).mono ?_
    rintro e w4 ⟨rfl, b4⟩
    go_wp2_with fail
    refine (HT2.out w4 ((b4.block rb (OnlyR.lt k3)).trans k3)).mono ?_
    rintro e w5 ⟨rfl, o5, k5⟩
    go_wp2
    go_ret
    exact ⟨rfl, (((o1.trans o2).trans o3).trans (OnlyR.below b4)).trans o5, k5⟩
  · have hn1' : decide (1 ≤ n) = false := by simpa using hn1
    have HT1 := hid (fun (W : World) h => HT.out false W h)
    have hs2' : rTake s1 false = s2 := by have := HQ.out; rw [if_neg hn1] at this; rw [← this]; exact HS2.out
    rw [hs2'] at HT1
    clear HT hs2' HS2 HQ hn1
    go_enter Tryz.func204, Tryz.ntmps204
    go_wp2_with fail
    refine HN.out.mono ?_
    rintro e w1 ⟨rfl, o1, k1⟩
    go_wp2_with fail
    refine (HT1.out w1 k1).mono ?_
    rintro e w2 ⟨rfl, o2, k2⟩
    go_wp2_with fail
    refine (HBY.out w2 k2 (HBB.out.only (o1.trans o2) hne)).mono ?_
    rintro e w3 ⟨rfl, o3, k3⟩
    go_wp2_with fail
    refine (HNW.out w3 (HTT.out.only ((o1.trans o2).trans o3) htn)).mono ?_
    rintro e w4 ⟨rfl, b4⟩
    go_wp2_with fail
    refine (HT2.out w4 ((b4.block rb (OnlyR.lt k3)).trans k3)).mono ?_
    rintro e w5 ⟨rfl, o5, k5⟩
    go_wp2
    go_ret
    exact ⟨rfl, (((o1.trans o2).trans o3).trans (OnlyR.below b4)).trans o5, k5⟩
end Go.Proofs.YtffnfjkjlmlonaaGreatDoor
