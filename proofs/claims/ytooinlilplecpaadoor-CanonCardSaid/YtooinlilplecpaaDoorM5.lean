/- Mathematics of images, second part: whole entries and whole images. -/
import Derived.Test.YtooinlilplecpaaDoorM4
namespace Go.Proofs.YtooinlilplecpaaDoor
open Go.RowKit

theorem rEntry_ok {bs : List Int} (hx : ∀ j, 0 ≤ bs.getD j 0 ∧ bs.getD j 0 ≤ 255) {s : RsD} {n : Int} (hf : Files s.files) (h : (rEntry bs s n).2.e = 0) :
    s.e = 0 ∧ entOk n (rEntry bs s n).1 s.names s.room = true ∧ Files (filesD (rEntry bs s n).1.file s.files) ∧
      ∃ a t, (rEntry bs s n).2 = ⟨a, t, 0, s.names ++ [(rEntry bs s n).1.name], filesD (rEntry bs s n).1.file s.files, s.room - sumS (rEntry bs s n).1.lines⟩ ∧ Eats bs s.at_ (entB' (rEntry bs s n).1 s.files) a := by
  unfold rEntry at h ⊢
  simp only at h ⊢
  have hF : (entF bs s).e = 0 := by
    by_cases he : (entF bs s).e = 0
    · exact he
    · exfalso
      unfold rTree at h
      cases hm : (mostT (entE bs s).1).toNat with
      | zero => rw [hm] at h; exact he h
      | succ m => rw [hm] at h; unfold rTreeF at h; rw [if_neg (fun hh => he hh.2)] at h; exact he h
  have hF' := hF
  unfold entF at hF'
  obtain ⟨f1, f2, f3⟩ := rTake_ok hF'
  have f3' : entF bs s = { (entE bs s).2 with at_ := (entE bs s).2.to_ } := f3
  have hE := f1
  unfold entE at hE
  obtain ⟨e1, e2, t5, e3, e4⟩ := rTab_ok hx hE
  have hD := e1
  unfold entD at hD
  simp only at hD
  obtain ⟨d1, d2, d3⟩ := rTake_ok hD
  have hC := d1
  unfold entC at hC
  obtain ⟨c1, c2, t3, c3, c4⟩ := rTab_ok hx hC
  have hA : Files (entA bs s).files := by
    show Files (rText bs s s.names).2.files
    have : ∀ (l : List ByteArray), (rText bs s l).2.files = s.files := by
      intro l
      unfold rText rTake rByt rNum
      simp only
      split <;> (try split) <;> (try split) <;> (try split) <;> (try split) <;> (try split) <;> (try split) <;> simp
    rw [this]; exact hf
  have hB := c1
  unfold entB at hB
  obtain ⟨b1, b2, b3, a2, t2, b4, b5⟩ := rFile_ok hx hA hB
  have hA' := b1
  unfold entA at hA'
  simp only at hA'
  obtain ⟨a1, a2', aa, at', a3, a4⟩ := rText_ok hx hA'
  have eA : entA bs s = { s with at_ := aa, to_ := at', names := s.names ++ [(rText bs s s.names).1] } := by unfold entA; rw [a3]
  have eB : entB bs s = { entA bs s with at_ := a2, to_ := t2, files := filesD (rFile bs (entA bs s)).1 (entA bs s).files } := b4
  have eC : (entC bs s).2 = { entB bs s with to_ := t3 } := c3
  have eD : entD bs s = { entB bs s with at_ := t3, to_ := t3, room := (entB bs s).room - sumS (entC bs s).1 } := by
    unfold entD; rw [d3, eC]
  have eE : (entE bs s).2 = { entD bs s with to_ := t5 } := e3
  have eF : entF bs s = { entD bs s with at_ := t5, to_ := t5 } := by rw [f3', eE]
  have hfa : (entA bs s).files = s.files := by rw [eA]
  have k5 : Eats bs (entD bs s).at_ (putS (entE bs s).1 (-1)) t5 := e4
  have k3 : Eats bs (entB bs s).at_ (putS (entC bs s).1 (-1)) t3 := c4
  rw [eD] at k5
  simp only at k5
  rw [eB] at k3
  simp only at k3
  rw [eA] at b5
  simp only at b5
  have h5 : 0 ≤ t5 ∧ t5 ≤ bs.length := ⟨by have := k5.1; have := k5.2.1; omega, k5.2.2.1⟩
  obtain ⟨t1, t2', t3', a6, t6, g4, g5⟩ := rTree_ok hx (s := entF bs s) (index := (entE bs s).1) (funcs := n) (by rw [eF]; exact h5.1) (by rw [eF]; exact h5.2) h
  have hroom : (entB bs s).room = s.room := by rw [eB, eA]
  have e0 : s.e = 0 := a1
  refine ⟨a1, ?_, ?_, a6, t6, ?_, ?_⟩
  · unfold entOk
    simp only
    have i1 : newB (rText bs s s.names).1 s.names = true := a2'
    have i2 : wordB (rFile bs (entA bs s)).1 = true := b2
    have i3 : wfT (entC bs s).1 = true := c2
    have i4 : wfT (entE bs s).1 = true := e2
    have i5 : linesB (entC bs s).1 s.room = true := by rw [← hroom]; exact d2
    have i6 : (sumS (entE bs s).1 == sumS (entC bs s).1) = true := f2
    have i7 : (((rTree bs (entF bs s) (entE bs s).1 n).1.length : Int) == mostT (entE bs s).1) = true := by simpa using t2'
    rw [i1, i2, i3, i4, i5, i6, i7, t3']; rfl
  · rw [hfa] at b3; exact b3
  · rw [g4, eF, eD, eB, eA]
    simp only
    rw [e0]
  · unfold entB'
    simp only
    have hFa : (entF bs s).at_ = t5 := by rw [eF]
    rw [hFa] at g5
    have b5' : Eats bs aa (fileB (rFile bs (entA bs s)).1 s.files) a2 := by rw [eA]; exact b5
    exact a4.trans (b5'.trans (k3.trans (k5.trans g5)))

theorem rEnts_ok {bs : List Int} (hx : ∀ j, 0 ≤ bs.getD j 0 ∧ bs.getD j 0 ≤ 255) (n : Int) : ∀ (f : Nat) (l : List EntD) (s : RsD), Files s.files → 0 ≤ s.at_ → s.at_ ≤ bs.length → (rEnts bs n f l s).2.e = 0 →
    s.e = 0 ∧ ∃ l' a, (rEnts bs n f l s).1 = l ++ l' ∧ l'.length = f ∧ wfIF n l' s.names s.room = true ∧ (rEnts bs n f l s).2.at_ = a ∧ Eats bs s.at_ (encF l' s.files) a
  | 0, l, s, _, h0, h1, h => ⟨h, [], s.at_, by simp [rEnts], rfl, rfl, rfl, Eats.nil h0 h1⟩
  | f + 1, l, s, hf, h0, h1, h => by
    unfold rEnts at h ⊢
    by_cases hs : s.e = 0
    · rw [if_pos hs] at h ⊢
      have he : (rEntry bs s n).2.e = 0 := by
        by_cases he : (rEntry bs s n).2.e = 0
        · exact he
        · exfalso
          cases f with
          | zero => exact he h
          | succ f => unfold rEnts at h; rw [if_neg he] at h; exact he h
      obtain ⟨g1, g2, g3, a, t, g4, g5⟩ := rEntry_ok hx hf he
      obtain ⟨_, l', a', e1, e2, e3, e4, e5⟩ := rEnts_ok hx n f (l ++ [(rEntry bs s n).1]) (rEntry bs s n).2 (by rw [g4]; exact g3) (by rw [g4]; have := g5.1; have := g5.2.1; simp only; omega) (by rw [g4]; exact g5.2.2.1) h
      rw [g4] at e3 e5
      simp only at e3 e5
      refine ⟨hs, (rEntry bs s n).1 :: l', a', by rw [e1]; simp, by simp [e2], ?_, e4, ?_⟩
      · unfold wfIF
        rw [g2, e3]; rfl
      · exact g5.trans e5
    · rw [if_neg hs] at h
      exact absurd h hs

theorem rHeadF_ok {bs : List Int} : ∀ (r : List Int) (k : Nat) (s : RsD), (rHeadF bs k r s).e = 0 → rHeadF bs k r s = { s with at_ := 3 } ∧ k + r.length ≤ max k bs.length ∧ (bs.drop k).take r.length = r
  | [], k, s, h => ⟨rfl, by simp; omega, by simp⟩
  | c :: r, k, s, h => by
    unfold rHeadF at h ⊢
    by_cases h1 : bs.length ≤ k
    · rw [if_pos h1] at h; simp at h
    · rw [if_neg h1] at h ⊢
      by_cases h2 : bs.getD k 0 ≠ c
      · rw [if_pos h2] at h; simp at h
      · rw [if_neg h2] at h ⊢
        obtain ⟨g1, g2, g3⟩ := rHeadF_ok r (k + 1) s h
        have h2' : bs.getD k 0 = c := by simpa using h2
        refine ⟨g1, by simp; omega, ?_⟩
        rw [List.drop_eq_getElem_cons (show k < bs.length by omega)]
        rw [List.length_cons, List.take_succ_cons, g3]
        rw [← h2']
        simp [List.getD, show k < bs.length by omega]

theorem rHead_ok {bs : List Int} {s : RsD} (h : (rHead bs s).e = 0) : rHead bs s = { s with at_ := 3 } ∧ Eats bs 0 [85, 70, 1] 3 := by
  obtain ⟨g1, g2, g3⟩ := rHeadF_ok _ _ _ h
  refine ⟨g1, ?_⟩
  have := Eats.of_take (bs := bs) (x := [85, 70, 1]) (a := 0) (by omega) (by simp at g2 ⊢; omega) (by simpa using g3)
  simpa using this

/-- What is read as an image is well-formed, and is written as it was. -/
theorem decI_ok {bs : List Int} (hx : ∀ j, 0 ≤ bs.getD j 0 ∧ bs.getD j 0 ≤ 255) (h : (decI bs).2.1 = 0) : wfI (decI bs).1 = true ∧ encI (decI bs).1 = bs ∧ (decI bs).2.2 = 0 := by
  unfold decI at h ⊢
  by_cases he : (rAll bs).2.e ≠ 0
  · rw [if_pos he] at h; exact absurd h he
  · rw [if_neg he]
    have he0 : (rAll bs).2.e = 0 := by simpa using he
    unfold rAll at he0 ⊢
    simp only at he0 ⊢
    obtain ⟨⟨l, s⟩, hl⟩ : ∃ p, rEnts bs (rCnt bs).1 (rCnt bs).1.toNat [] (rCnt bs).2 = p := ⟨_, rfl⟩
    rw [hl] at he0 ⊢
    simp only at he0 ⊢
    unfold rEnd at he0
    by_cases hq : s.e = 0 ∧ s.at_ < (bs.length : Int)
    · rw [if_pos hq] at he0; simp at he0
    · rw [if_neg hq] at he0
      have hat : (bs.length : Int) ≤ s.at_ := by
        rcases Int.lt_or_le s.at_ bs.length with hh | hh
        · exact absurd ⟨he0, hh⟩ hq
        · exact hh
      have hce : (rCnt bs).2.e = 0 := by
        by_cases hc : (rCnt bs).2.e = 0
        · exact hc
        · exfalso
          cases hf : (rCnt bs).1.toNat with
          | zero => rw [hf] at hl; simp only [rEnts] at hl; cases hl; exact hc he0
          | succ f => rw [hf] at hl; unfold rEnts at hl; rw [if_neg hc] at hl; cases hl; exact hc he0
      have hce' := hce
      unfold rCnt at hce'
      simp only at hce'
      obtain ⟨c1, c2, c3⟩ := rTake_ok hce'
      obtain ⟨n1, n2, n3, t, n4, n5⟩ := rNum_ok hx c1
      obtain ⟨q1, q2⟩ := rHead_ok n1
      have hcn : (rCnt bs).1 = (rNum bs (rHead bs rBeg)).1 := rfl
      have hcs : (rCnt bs).2 = { rBeg with at_ := t, to_ := t } := by
        show rTake _ _ = _
        rw [c3, n4, q1]
      have hn := of_decide_eq_true c2
      rw [← hcn] at hn n2
      have hha : (rHead bs rBeg).at_ = 3 := by rw [q1]
      rw [hha, ← hcn] at n5
      have e1 := rEnts_ok hx (rCnt bs).1 (rCnt bs).1.toNat [] (rCnt bs).2 (by rw [hcs]; exact ⟨fun i j _ hj => by simp [rBeg] at hj, fun x hxm => by simp [rBeg] at hxm⟩) (by rw [hcs]; have := n5.1; have := n5.2.1; simp only; omega) (by rw [hcs]; exact n5.2.2.1) (by rw [hl]; exact he0)
      rw [hl, hcs] at e1
      simp only [List.nil_append] at e1
      obtain ⟨_, l', a, e2, e3, e4, e5, e6⟩ := e1
      subst e2
      have hlen : (l.length : Int) = (rCnt bs).1 := by omega
      refine ⟨?_, ?_, trivial⟩
      · unfold wfI
        rw [Bool.and_eq_true]
        refine ⟨by simp; omega, ?_⟩
        rw [hlen]
        exact e4
      · have hE := q2.trans (n5.trans e6)
        unfold encI
        rw [hlen]
        have h4 := hE.2.2.2
        have ha : (bs.length : Int) ≤ a := by rw [← e5]; exact hat
        have h5 : bs.drop a.toNat = [] := List.drop_of_length_le (by omega)
        rw [h5, List.append_nil] at h4
        simp only [Int.toNat_zero, List.drop_zero] at h4
        exact h4.symm
end Go.Proofs.YtooinlilplecpaaDoor
