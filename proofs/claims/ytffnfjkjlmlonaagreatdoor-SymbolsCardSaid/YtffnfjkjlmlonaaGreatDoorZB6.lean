/- Mathematics of images: what the plain reader takes for an image is well-formed, and is written as just the bytes that were read; what it refuses has one of four errors, at a place of the list or at its end. Mathematics of images, second part: whole entries and whole images. -/
import Derived.Test.YtffnfjkjlmlonaaGreatDoorZB4
import Derived.Test.YtffnfjkjlmlonaaGreatDoorZB5
namespace Go.Proofs.YtffnfjkjlmlonaaGreatDoor
open Go.RowKit
def textB (s : ByteArray) : List Int := numB s.size ++ byteL s
def nodesB (l : List (Int × Int)) : List Int := l.flatMap fun p => numB p.1 ++ numB p.2
def fileB (s : ByteArray) (files : List ByteArray) : List Int := numB (plc s files) ++ (if plc s files = files.length then textB s else [])
def filesD (s : ByteArray) (files : List ByteArray) : List ByteArray := if plc s files = files.length then files ++ [s] else files
def entB' (x : EntD) (files : List ByteArray) : List Int := textB x.name ++ (fileB x.file files ++ (putS x.lines (-1) ++ (putS x.index (-1) ++ nodesB x.tree)))
def encF : List EntD → List ByteArray → List Int
  | [], _ => []
  | x :: r, files => entB' x files ++ encF r (filesD x.file files)
/-- The bytes of an image. -/
def encI (l : List EntD) : List Int := [85, 70, 1] ++ (numB l.length ++ encF l [])
def treeOk (funcs : Int) (inst : List Int) : List (Int × Int) → Int → Int → Bool
  | [], _, _ => true
  | p :: r, k, before => (withB p.1 funcs && pcB p.2 before k inst) && treeOk funcs inst r (k + 1) p.2
def entOk (n : Int) (x : EntD) (names : List ByteArray) (room : Int) : Bool :=
  (newB x.name names && wordB x.file) && (((wfT x.lines && wfT x.index) && (linesB x.lines room && sumS x.index == sumS x.lines)) && ((x.tree.length : Int) == mostT x.index && treeOk n (unroll x.index) x.tree 1 (-1)))
def wfIF (n : Int) : List EntD → List ByteArray → Int → Bool
  | [], _, _ => true
  | x :: r, names, room => entOk n x names room && wfIF n r (names ++ [x.name]) (room - sumS x.lines)
/-- Is an image well-formed? -/
def wfI (l : List EntD) : Bool := decide (1 ≤ l.length ∧ l.length ≤ 12) && wfIF l.length l [] 1000
theorem rTake_ok {s : RsD} {b : Bool} (h : (rTake s b).e = 0) : s.e = 0 ∧ b = true ∧ rTake s b = { s with at_ := s.to_ } := by
  unfold rTake at h ⊢
  by_cases h0 : s.e ≠ 0
  · rw [if_pos h0] at h; exact absurd h h0
  · rw [if_neg h0] at h ⊢
    by_cases hb : b = true
    · rw [if_pos hb]; exact ⟨by simpa using h0, hb, rfl⟩
    · rw [if_neg hb] at h; simp at h
theorem rNum_ok {bs : List Int} (hx : ∀ j, 0 ≤ bs.getD j 0 ∧ bs.getD j 0 ≤ 255) {s : RsD} (h : (rNum bs s).2.e = 0) :
    s.e = 0 ∧ 0 ≤ (rNum bs s).1 ∧ (rNum bs s).1 ≤ 2147483647 ∧ ∃ t, (rNum bs s).2 = { s with to_ := t } ∧ Eats bs s.at_ (numB (rNum bs s).1) t := by
  unfold rNum at h ⊢
  by_cases h0 : s.e ≠ 0
  · rw [if_pos h0] at h; exact absurd h h0
  · rw [if_neg h0] at h ⊢
    simp only at h ⊢
    obtain ⟨g1, g2, g3⟩ := getN_inv bs hx s.at_ h
    refine ⟨by simpa using h0, g2, g3, _, ?_, g1⟩
    have : s.e = 0 := by simpa using h0
    rw [h, this]
theorem rTab_ok {bs : List Int} (hx : ∀ j, 0 ≤ bs.getD j 0 ∧ bs.getD j 0 ≤ 255) {s : RsD} (h : (rTab bs s).2.e = 0) :
    s.e = 0 ∧ wfT (rTab bs s).1 = true ∧ ∃ t, (rTab bs s).2 = { s with to_ := t } ∧ Eats bs s.at_ (putS (rTab bs s).1 (-1)) t := by
  unfold rTab at h ⊢
  by_cases h0 : s.e ≠ 0
  · rw [if_pos h0] at h; exact absurd h h0
  · rw [if_neg h0] at h ⊢
    simp only at h ⊢
    obtain ⟨g1, g2⟩ := getT_inv bs hx s.at_ h
    refine ⟨by simpa using h0, g2, _, ?_, g1⟩
    have : s.e = 0 := by simpa using h0
    rw [h, this]
theorem byteL_str (xs : List Int) (h : ∀ x ∈ xs, 0 ≤ x ∧ x ≤ 255) : byteL (strOfNums xs) = xs := by
  unfold byteL
  rw [strOfNums_data, List.map_map]
  conv => rhs; rw [← List.map_id xs]
  refine List.map_congr_left fun x hx => ?_
  have := h x hx
  simp
  omega
theorem rByt_ok {bs : List Int} (hx : ∀ j, 0 ≤ bs.getD j 0 ∧ bs.getD j 0 ≤ 255) {s : RsD} {n : Int} (hn : 0 ≤ n) (h0 : 0 ≤ s.at_) (h : (rByt bs s n).2.e = 0) :
    s.e = 0 ∧ (rByt bs s n).2 = { s with to_ := s.at_ + n } ∧ Eats bs s.at_ (byteL (rByt bs s n).1) (s.at_ + n) ∧ ((rByt bs s n).1.size : Int) = n := by
  unfold rByt at h ⊢
  by_cases he : s.e ≠ 0
  · rw [if_pos he] at h; exact absurd h he
  · rw [if_neg he] at h ⊢
    by_cases hl : (bs.length : Int) - s.at_ < n
    · rw [if_pos hl] at h; simp at h
    · rw [if_neg hl]
      simp only
      have hlen : ((bs.drop s.at_.toNat).take n.toNat).length = n.toNat := by rw [List.length_take, List.length_drop]; omega
      have hby : ∀ x ∈ (bs.drop s.at_.toNat).take n.toNat, 0 ≤ x ∧ x ≤ 255 := by
        intro y hy
        obtain ⟨i, hi, rfl⟩ := List.getElem_of_mem hy
        rw [hlen] at hi
        have hlt : s.at_.toNat + i < bs.length := by omega
        have := hx (s.at_.toNat + i)
        simpa [List.getD, hlt] using this
      rw [byteL_str _ hby, strOfNums_size, hlen]
      refine ⟨by simpa using he, trivial, ?_, by omega⟩
      have := Eats.of_take (bs := bs) (x := (bs.drop s.at_.toNat).take n.toNat) (a := s.at_) h0 (by rw [hlen]; omega) (by rw [hlen])
      rw [hlen] at this
      have e : s.at_ + (n.toNat : Int) = s.at_ + n := by omega
      rwa [e] at this
theorem rText_ok {bs : List Int} (hx : ∀ j, 0 ≤ bs.getD j 0 ∧ bs.getD j 0 ≤ 255) {s : RsD} {l : List ByteArray} (h : (rText bs s l).2.e = 0) :
    s.e = 0 ∧ newB (rText bs s l).1 l = true ∧ ∃ a t, (rText bs s l).2 = { s with at_ := a, to_ := t } ∧ Eats bs s.at_ (textB (rText bs s l).1) a := by
  unfold rText at h ⊢
  simp only at h ⊢
  obtain ⟨⟨n, s1⟩, hn⟩ : ∃ p, rNum bs s = p := ⟨_, rfl⟩
  rw [hn] at h ⊢
  simp only at h ⊢
  obtain ⟨s2, hs2⟩ : ∃ p, rTake s1 (decide (1 ≤ n ∧ n ≤ 20)) = p := ⟨_, rfl⟩
  rw [hs2] at h ⊢
  obtain ⟨h1, h2, h3⟩ := rTake_ok h
  have h4 : s2.e = 0 := by
    unfold rByt at h1
    by_cases he : s2.e ≠ 0
    · rw [if_pos he] at h1; exact h1
    · simpa using he
  rw [← hs2] at h4
  obtain ⟨k1, k2, k3⟩ := rTake_ok h4
  rw [hs2] at k3
  have hk := of_decide_eq_true k2
  have hr := rNum_ok hx (s := s) (by rw [hn]; exact k1)
  rw [hn] at hr
  obtain ⟨r1, r2, r3, t, r4, r5⟩ := hr
  simp only at r4 r5
  subst r4
  simp only at k3
  subst k3
  obtain ⟨b1, b2, b3, b4⟩ := rByt_ok hx (s := { s with at_ := t, to_ := t }) (n := n) (by omega) (by have := r5.1; have := r5.2.1; simp only; omega) h1
  refine ⟨r1, h2, t + n, t + n, ?_, ?_⟩
  · rw [h3, b2]
  · unfold textB
    rw [b4]
    exact r5.trans b3
/-- No two of the texts are the same. -/
def Dis (l : List ByteArray) : Prop := ∀ i j, i < j → j < l.length → eqB (l.getD i ByteArray.empty) (l.getD j ByteArray.empty) = false
theorem eqB_refl (a : ByteArray) : eqB a a = true := by unfold eqB; simp
theorem plc_le (s : ByteArray) : ∀ l : List ByteArray, plc s l ≤ l.length
  | [] => by simp [plc]
  | x :: r => by unfold plc; split <;> simp; exact plc_le s r
theorem plc_spec (s : ByteArray) : ∀ (l : List ByteArray) (n : Nat), n < l.length → eqB (l.getD n ByteArray.empty) s = true → (∀ i, i < n → eqB (l.getD i ByteArray.empty) s = false) → plc s l = n
  | [], n, h, _, _ => by simp at h
  | x :: r, 0, _, h, _ => by unfold plc; rw [if_pos (by simpa using h)]
  | x :: r, n + 1, h, h1, h2 => by
    unfold plc
    have h3 := h2 0 (by omega)
    rw [if_neg (by simpa using h3), plc_spec s r n (by simpa using h) (by simpa using h1) (fun i hi => by simpa using h2 (i + 1) (by omega))]
theorem plc_none (s : ByteArray) : ∀ (l : List ByteArray), plc s l = l.length → ∀ i, i < l.length → eqB (l.getD i ByteArray.empty) s = false
  | [], _, i, h => by simp at h
  | x :: r, h, i, hi => by
    unfold plc at h
    by_cases hx : eqB x s = true
    · rw [if_pos hx] at h; simp at h
    · rw [if_neg hx] at h
      cases i with
      | zero => simpa using hx
      | succ i => simpa using plc_none s r (by simpa using h) i (by simpa using hi)
theorem Dis.plc {l : List ByteArray} (h : Dis l) {n : Nat} (hn : n < l.length) : plc (l.getD n ByteArray.empty) l = n :=
  plc_spec _ l n hn (eqB_refl _) (fun i hi => h i n hi hn)
theorem Dis.snoc {l : List ByteArray} (h : Dis l) {s : ByteArray} (hs : Proofs.YtffnfjkjlmlonaaGreatDoor.plc s l = l.length) : Dis (l ++ [s]) := by
  intro i j hij hj
  rw [List.length_append] at hj
  simp at hj
  have e1 : ∀ k, k < l.length → (l ++ [s]).getD k ByteArray.empty = l.getD k ByteArray.empty := fun k hk => by simp [List.getD, List.getElem?_append_left hk]
  rcases Nat.lt_or_ge j l.length with hjl | hjl
  · rw [e1 i (by omega), e1 j hjl]; exact h i j hij hjl
  · have hje : j = l.length := by omega
    subst hje
    rw [e1 i hij]
    have e2 : (l ++ [s]).getD l.length ByteArray.empty = s := by simp [List.getD]
    rw [e2]
    exact plc_none s l hs i hij
/-- What was read so far of files. -/
def Files (l : List ByteArray) : Prop := Dis l ∧ ∀ x ∈ l, wordB x = true
theorem rFile_ok {bs : List Int} (hx : ∀ j, 0 ≤ bs.getD j 0 ∧ bs.getD j 0 ≤ 255) {s : RsD} (hf : Files s.files) (h : (rFile bs s).2.e = 0) :
    s.e = 0 ∧ wordB (rFile bs s).1 = true ∧ Files (filesD (rFile bs s).1 s.files) ∧ ∃ a t, (rFile bs s).2 = { s with at_ := a, to_ := t, files := filesD (rFile bs s).1 s.files } ∧ Eats bs s.at_ (fileB (rFile bs s).1 s.files) a := by
  unfold rFile at h ⊢
  obtain ⟨⟨n, s1⟩, hn⟩ : ∃ p, rNum bs s = p := ⟨_, rfl⟩
  rw [hn] at h ⊢
  simp only at h ⊢
  by_cases hl : n < (s.files.length : Int)
  · rw [if_pos hl] at h ⊢
    simp only at h ⊢
    obtain ⟨k1, k2, k3⟩ := rTake_ok h
    have hr := rNum_ok hx (s := s) (by rw [hn]; exact k1)
    rw [hn] at hr
    obtain ⟨r1, r2, r3, t, r4, r5⟩ := hr
    simp only at r2 r4 r5
    subst r4
    have hnl : n.toNat < s.files.length := by omega
    have hp : plc (s.files.getD n.toNat ByteArray.empty) s.files = n.toNat := hf.1.plc hnl
    have hne : ¬ plc (s.files.getD n.toNat ByteArray.empty) s.files = s.files.length := by omega
    have hmem : s.files.getD n.toNat ByteArray.empty ∈ s.files := by
      rw [List.getD_eq_getElem?_getD, List.getElem?_eq_getElem hnl]; exact List.getElem_mem _
    unfold filesD fileB
    rw [if_neg hne, if_neg hne, hp]
    refine ⟨r1, hf.2 _ hmem, hf, t, t, k3, ?_⟩
    have e : ((n.toNat : Nat) : Int) = n := by omega
    rw [e, List.append_nil]
    exact r5
  · rw [if_neg hl] at h ⊢
    simp only at h ⊢
    obtain ⟨s2, hs2⟩ : ∃ p, rTake s1 (decide (n ≤ (s.files.length : Int))) = p := ⟨_, rfl⟩
    rw [hs2] at h ⊢
    obtain ⟨b1, b2, a, t', b3, b4⟩ := rText_ok hx h
    rw [← hs2] at b1
    obtain ⟨k1, k2, k3⟩ := rTake_ok b1
    rw [hs2] at k3
    have hr := rNum_ok hx (s := s) (by rw [hn]; exact k1)
    rw [hn] at hr
    obtain ⟨r1, r2, r3, t, r4, r5⟩ := hr
    simp only at r2 r4 r5
    subst r4
    simp only at k3
    subst k3
    have hne : n = (s.files.length : Int) := by have := of_decide_eq_true k2; omega
    unfold newB at b2
    rw [Bool.and_eq_true] at b2
    have hp : plc (rText bs { s with at_ := t, to_ := t } s.files).1 s.files = s.files.length := by simpa using b2.2
    unfold filesD fileB
    rw [if_pos hp, if_pos hp, hp]
    refine ⟨r1, b2.1, ⟨hf.1.snoc hp, ?_⟩, a, t', ?_, ?_⟩
    · intro x hxm
      rcases List.mem_append.1 hxm with hm | hm
      · exact hf.2 x hm
      · rw [List.mem_singleton.1 hm]; exact b2.1
    · rw [b3]
    · rw [hne] at r5
      exact r5.trans b4
theorem rNode_ok {bs : List Int} (hx : ∀ j, 0 ≤ bs.getD j 0 ∧ bs.getD j 0 ≤ 255) {s : RsD} {inst : List Int} {funcs k before : Int} (h : (rNode bs s inst funcs k before).2.e = 0) :
    s.e = 0 ∧ (withB (rNode bs s inst funcs k before).1.1 funcs && pcB (rNode bs s inst funcs k before).1.2 before k inst) = true ∧ ∃ a t, (rNode bs s inst funcs k before).2 = { s with at_ := a, to_ := t } ∧ Eats bs s.at_ (numB (rNode bs s inst funcs k before).1.1 ++ numB (rNode bs s inst funcs k before).1.2) a := by
  unfold rNode at h ⊢
  simp only at h ⊢
  obtain ⟨⟨n, s1⟩, hn⟩ : ∃ p, rNum bs s = p := ⟨_, rfl⟩
  rw [hn] at h ⊢
  simp only at h ⊢
  obtain ⟨s2, hs2⟩ : ∃ p, rTake s1 (withB n funcs) = p := ⟨_, rfl⟩
  rw [hs2] at h ⊢
  obtain ⟨⟨m, s3⟩, hm⟩ : ∃ p, rNum bs s2 = p := ⟨_, rfl⟩
  rw [hm] at h ⊢
  simp only at h ⊢
  obtain ⟨h1, h2, h3⟩ := rTake_ok h
  have hr2 := rNum_ok hx (s := s2) (by rw [hm]; exact h1)
  rw [hm] at hr2
  obtain ⟨q1, q2, q3, t2, q4, q5⟩ := hr2
  simp only at q4 q5
  rw [← hs2] at q1
  obtain ⟨k1, k2, k3⟩ := rTake_ok q1
  rw [hs2] at k3
  have hr := rNum_ok hx (s := s) (by rw [hn]; exact k1)
  rw [hn] at hr
  obtain ⟨r1, r2, r3, t, r4, r5⟩ := hr
  simp only at r4 r5
  subst r4
  simp only at k3
  subst k3
  simp only at q4 q5
  subst q4
  refine ⟨r1, by rw [k2, h2]; rfl, t2, t2, by rw [h3], r5.trans q5⟩
theorem rTreeF_ok {bs : List Int} (hx : ∀ j, 0 ≤ bs.getD j 0 ∧ bs.getD j 0 ≤ 255) (inst : List Int) (funcs last : Int) : ∀ (f : Nat) (k before : Int) (l : List (Int × Int)) (s : RsD), 0 ≤ s.at_ → s.at_ ≤ bs.length → last + 1 - k = f → (rTreeF bs inst funcs last f k before l s).2.e = 0 →
    s.e = 0 ∧ ∃ l' a t, (rTreeF bs inst funcs last f k before l s).1 = l ++ l' ∧ l'.length = f ∧ treeOk funcs inst l' k before = true ∧ (rTreeF bs inst funcs last f k before l s).2 = { s with at_ := a, to_ := t } ∧ Eats bs s.at_ (nodesB l') a
  | 0, k, before, l, s, h0, h1, _, h => ⟨h, [], s.at_, s.to_, by simp [rTreeF], rfl, rfl, rfl, Eats.nil h0 h1⟩
  | f + 1, k, before, l, s, h0, h1, hk, h => by
    unfold rTreeF at h ⊢
    by_cases hc : k ≤ last ∧ s.e = 0
    · rw [if_pos hc] at h ⊢
      have hna : 0 ≤ (rNode bs s inst funcs k before).2.at_ ∧ (rNode bs s inst funcs k before).2.at_ ≤ bs.length ∨ (rNode bs s inst funcs k before).2.e ≠ 0 := by
        by_cases he : (rNode bs s inst funcs k before).2.e = 0
        · obtain ⟨_, _, a, t, e, hE⟩ := rNode_ok hx he
          rw [e]
          exact .inl ⟨by have := hE.1; have := hE.2.1; simp only; omega, hE.2.2.1⟩
        · exact .inr he
      have hne : (rNode bs s inst funcs k before).2.e = 0 := by
        by_cases he : (rNode bs s inst funcs k before).2.e = 0
        · exact he
        · exfalso
          have hst : ∀ (g : Nat) (k' b' : Int) (l' : List (Int × Int)) (s' : RsD), s'.e ≠ 0 → (rTreeF bs inst funcs last g k' b' l' s').2.e ≠ 0 := by
            intro g k' b' l' s' hs'
            cases g with
            | zero => exact hs'
            | succ g => unfold rTreeF; rw [if_neg (fun hh => hs' hh.2)]; exact hs'
          exact hst _ _ _ _ _ he h
      obtain ⟨n1, n2, a, t, n3, n4⟩ := rNode_ok hx hne
      have hb := hna.resolve_right (fun hh => hh hne)
      obtain ⟨_, l', a', t', e1, e2, e3, e4, e5⟩ := rTreeF_ok hx inst funcs last f (k + 1) (rNode bs s inst funcs k before).1.2 (l ++ [(rNode bs s inst funcs k before).1]) (rNode bs s inst funcs k before).2 hb.1 hb.2 (by omega) h
      rw [n3] at e4 e5
      simp only at e4 e5
      refine ⟨hc.2, (rNode bs s inst funcs k before).1 :: l', a', t', by rw [e1]; simp, by simp [e2], ?_, by rw [n3]; exact e4, ?_⟩
      · unfold treeOk
        rw [n2, e3]; rfl
      · have := n4.trans e5
        simpa [nodesB] using this
    · rw [if_neg hc] at h
      exfalso
      exact hc ⟨by omega, h⟩
theorem mostT_ge : ∀ (l : List (Int × Int)) (n : Int), n ≤ l.foldl (fun n p => if n < p.1 then p.1 else n) n
  | [], n => by simp
  | p :: r, n => by
    rw [List.foldl_cons]
    refine Int.le_trans ?_ (mostT_ge r (if n < p.1 then p.1 else n))
    split <;> omega
theorem mostT_nn (l : List (Int × Int)) : 0 ≤ mostT l := mostT_ge l 0
theorem rTree_ok {bs : List Int} (hx : ∀ j, 0 ≤ bs.getD j 0 ∧ bs.getD j 0 ≤ 255) {s : RsD} {index : List (Int × Int)} {funcs : Int} (h0 : 0 ≤ s.at_) (h1 : s.at_ ≤ bs.length) (h : (rTree bs s index funcs).2.e = 0) :
    s.e = 0 ∧ ((rTree bs s index funcs).1.length : Int) = mostT index ∧ treeOk funcs (unroll index) (rTree bs s index funcs).1 1 (-1) = true ∧ ∃ a t, (rTree bs s index funcs).2 = { s with at_ := a, to_ := t } ∧ Eats bs s.at_ (nodesB (rTree bs s index funcs).1) a := by
  unfold rTree at h ⊢
  have := mostT_nn index
  obtain ⟨g1, l', a, t, g2, g3, g4, g5, g6⟩ := rTreeF_ok hx (unroll index) funcs (mostT index) (mostT index).toNat 1 (-1) [] s h0 h1 (by omega) h
  rw [List.nil_append] at g2
  rw [g2]
  exact ⟨g1, by omega, g4, a, t, g5, g6⟩
end Go.Proofs.YtffnfjkjlmlonaaGreatDoor
namespace Go.Proofs.YtffnfjkjlmlonaaGreatDoor
open Go.RowKit
theorem rEntry_ok {bs : List Int} (hx : ∀ j, 0 ≤ bs.getD j 0 ∧ bs.getD j 0 ≤ 255) {s : RsD} {n : Int} (hf : Files s.files) (h : (rEntry bs s n).2.e = 0) :
    s.e = 0 ∧ entOk n (rEntry bs s n).1 s.names s.room = true ∧ Files (filesD (rEntry bs s n).1.file s.files) ∧
      ∃ a t, (rEntry bs s n).2 = ⟨a, t, 0, s.names ++ [(rEntry bs s n).1.name], filesD (rEntry bs s n).1.file s.files, s.room - sumS (rEntry bs s n).1.lines⟩ ∧ Eats bs s.at_ (entB' (rEntry bs s n).1 s.files) a := by
  unfold rEntry at h ⊢
  simp only at h ⊢
  have hF : (entF bs s).e = 0 := by
    by_cases he : (entF bs s).e = 0
    · exact he
    · exfalso
      unfold rTree at h
      cases hm : (mostT (entE bs s).1).toNat with
      | zero => rw [hm] at h; exact he h
      | succ m => rw [hm] at h; unfold rTreeF at h; rw [if_neg (fun hh => he hh.2)] at h; exact he h
  have hF' := hF
  unfold entF at hF'
  obtain ⟨f1, f2, f3⟩ := rTake_ok hF'
  have f3' : entF bs s = { (entE bs s).2 with at_ := (entE bs s).2.to_ } := f3
  have hE := f1
  unfold entE at hE
  obtain ⟨e1, e2, t5, e3, e4⟩ := rTab_ok hx hE
  have hD := e1
  unfold entD at hD
  simp only at hD
  obtain ⟨d1, d2, d3⟩ := rTake_ok hD
  have hC := d1
  unfold entC at hC
  obtain ⟨c1, c2, t3, c3, c4⟩ := rTab_ok hx hC
  have hA : Files (entA bs s).files := by
    show Files (rText bs s s.names).2.files
    have : ∀ (l : List ByteArray), (rText bs s l).2.files = s.files := by
      intro l
      unfold rText rTake rByt rNum
      simp only
      split <;> (try split) <;> (try split) <;> (try split) <;> (try split) <;> (try split) <;> (try split) <;> simp
    rw [this]; exact hf
  have hB := c1
  unfold entB at hB
  obtain ⟨b1, b2, b3, a2, t2, b4, b5⟩ := rFile_ok hx hA hB
  have hA' := b1
  unfold entA at hA'
  simp only at hA'
  obtain ⟨a1, a2', aa, at', a3, a4⟩ := rText_ok hx hA'
  have eA : entA bs s = { s with at_ := aa, to_ := at', names := s.names ++ [(rText bs s s.names).1] } := by unfold entA; rw [a3]
  have eB : entB bs s = { entA bs s with at_ := a2, to_ := t2, files := filesD (rFile bs (entA bs s)).1 (entA bs s).files } := b4
  have eC : (entC bs s).2 = { entB bs s with to_ := t3 } := c3
  have eD : entD bs s = { entB bs s with at_ := t3, to_ := t3, room := (entB bs s).room - sumS (entC bs s).1 } := by
    unfold entD; rw [d3, eC]
  have eE : (entE bs s).2 = { entD bs s with to_ := t5 } := e3
  have eF : entF bs s = { entD bs s with at_ := t5, to_ := t5 } := by rw [f3', eE]
  have hfa : (entA bs s).files = s.files := by rw [eA]
  have k5 : Eats bs (entD bs s).at_ (putS (entE bs s).1 (-1)) t5 := e4
  have k3 : Eats bs (entB bs s).at_ (putS (entC bs s).1 (-1)) t3 := c4
  rw [eD] at k5
  simp only at k5
  rw [eB] at k3
  simp only at k3
  rw [eA] at b5
  simp only at b5
  have h5 : 0 ≤ t5 ∧ t5 ≤ bs.length := ⟨by have := k5.1; have := k5.2.1; omega, k5.2.2.1⟩
  obtain ⟨t1, t2', t3', a6, t6, g4, g5⟩ := rTree_ok hx (s := entF bs s) (index := (entE bs s).1) (funcs := n) (by rw [eF]; exact h5.1) (by rw [eF]; exact h5.2) h
  have hroom : (entB bs s).room = s.room := by rw [eB, eA]
  have e0 : s.e = 0 := a1
  refine ⟨a1, ?_, ?_, a6, t6, ?_, ?_⟩
  · unfold entOk
    simp only
    have i1 : newB (rText bs s s.names).1 s.names = true := a2'
    have i2 : wordB (rFile bs (entA bs s)).1 = true := b2
    have i3 : wfT (entC bs s).1 = true := c2
    have i4 : wfT (entE bs s).1 = true := e2
    have i5 : linesB (entC bs s).1 s.room = true := by rw [← hroom]; exact d2
    have i6 : (sumS (entE bs s).1 == sumS (entC bs s).1) = true := f2
    have i7 : (((rTree bs (entF bs s) (entE bs s).1 n).1.length : Int) == mostT (entE bs s).1) = true := by simpa using t2'
    rw [i1, i2, i3, i4, i5, i6, i7, t3']; rfl
  · rw [hfa] at b3; exact b3
  · rw [g4, eF, eD, eB, eA]
    simp only
    rw [e0]
  · unfold entB'
    simp only
    have hFa : (entF bs s).at_ = t5 := by rw [eF]
    rw [hFa] at g5
    have b5' : Eats bs aa (fileB (rFile bs (entA bs s)).1 s.files) a2 := by rw [eA]; exact b5
    exact a4.trans (b5'.trans (k3.trans (k5.trans g5)))
theorem rEnts_ok {bs : List Int} (hx : ∀ j, 0 ≤ bs.getD j 0 ∧ bs.getD j 0 ≤ 255) (n : Int) : ∀ (f : Nat) (l : List EntD) (s : RsD), Files s.files → 0 ≤ s.at_ → s.at_ ≤ bs.length → (rEnts bs n f l s).2.e = 0 →
    s.e = 0 ∧ ∃ l' a, (rEnts bs n f l s).1 = l ++ l' ∧ l'.length = f ∧ wfIF n l' s.names s.room = true ∧ (rEnts bs n f l s).2.at_ = a ∧ Eats bs s.at_ (encF l' s.files) a
  | 0, l, s, _, h0, h1, h => ⟨h, [], s.at_, by simp [rEnts], rfl, rfl, rfl, Eats.nil h0 h1⟩
  | f + 1, l, s, hf, h0, h1, h => by
    unfold rEnts at h ⊢
    by_cases hs : s.e = 0
    · rw [if_pos hs] at h ⊢
      have he : (rEntry bs s n).2.e = 0 := by
        by_cases he : (rEntry bs s n).2.e = 0
        · exact he
        · exfalso
          cases f with
          | zero => exact he h
          | succ f => unfold rEnts at h; rw [if_neg he] at h; exact he h
      obtain ⟨g1, g2, g3, a, t, g4, g5⟩ := rEntry_ok hx hf he
      obtain ⟨_, l', a', e1, e2, e3, e4, e5⟩ := rEnts_ok hx n f (l ++ [(rEntry bs s n).1]) (rEntry bs s n).2 (by rw [g4]; exact g3) (by rw [g4]; have := g5.1; have := g5.2.1; simp only; omega) (by rw [g4]; exact g5.2.2.1) h
      rw [g4] at e3 e5
      simp only at e3 e5
      refine ⟨hs, (rEntry bs s n).1 :: l', a', by rw [e1]; simp, by simp [e2], ?_, e4, ?_⟩
      · unfold wfIF
        rw [g2, e3]; rfl
      · exact g5.trans e5
    · rw [if_neg hs] at h
      exact absurd h hs
theorem rHeadF_ok {bs : List Int} : ∀ (r : List Int) (k : Nat) (s : RsD), (rHeadF bs k r s).e = 0 → rHeadF bs k r s = { s with at_ := 3 } ∧ k + r.length ≤ max k bs.length ∧ (bs.drop k).take r.length = r
  | [], k, s, h => ⟨rfl, by simp; omega, by simp⟩
  | c :: r, k, s, h => by
    unfold rHeadF at h ⊢
    by_cases h1 : bs.length ≤ k
    · rw [if_pos h1] at h; simp at h
    · rw [if_neg h1] at h ⊢
      by_cases h2 : bs.getD k 0 ≠ c
      · rw [if_pos h2] at h; simp at h
      · rw [if_neg h2] at h ⊢
        obtain ⟨g1, g2, g3⟩ := rHeadF_ok r (k + 1) s h
        have h2' : bs.getD k 0 = c := by simpa using h2
        refine ⟨g1, by simp; omega, ?_⟩
        rw [List.drop_eq_getElem_cons (show k < bs.length by omega)]
        rw [List.length_cons, List.take_succ_cons, g3]
        rw [← h2']
        simp [List.getD, show k < bs.length by omega]
theorem rHead_ok {bs : List Int} {s : RsD} (h : (rHead bs s).e = 0) : rHead bs s = { s with at_ := 3 } ∧ Eats bs 0 [85, 70, 1] 3 := by
  obtain ⟨g1, g2, g3⟩ := rHeadF_ok _ _ _ h
  refine ⟨g1, ?_⟩
  have := Eats.of_take (bs := bs) (x := [85, 70, 1]) (a := 0) (by omega) (by simp at g2 ⊢; omega) (by simpa using g3)
  simpa using this
/-- What is read as an image is well-formed, and is written as it was. -/
theorem decI_ok {bs : List Int} (hx : ∀ j, 0 ≤ bs.getD j 0 ∧ bs.getD j 0 ≤ 255) (h : (decI bs).2.1 = 0) : wfI (decI bs).1 = true ∧ encI (decI bs).1 = bs ∧ (decI bs).2.2 = 0 := by
  unfold decI at h ⊢
  by_cases he : (rAll bs).2.e ≠ 0
  · rw [if_pos he] at h; exact absurd h he
  · rw [if_neg he]
    have he0 : (rAll bs).2.e = 0 := by simpa using he
    unfold rAll at he0 ⊢
    simp only at he0 ⊢
    obtain ⟨⟨l, s⟩, hl⟩ : ∃ p, rEnts bs (rCnt bs).1 (rCnt bs).1.toNat [] (rCnt bs).2 = p := ⟨_, rfl⟩
    rw [hl] at he0 ⊢
    simp only at he0 ⊢
    unfold rEnd at he0
    by_cases hq : s.e = 0 ∧ s.at_ < (bs.length : Int)
    · rw [if_pos hq] at he0; simp at he0
    · rw [if_neg hq] at he0
      have hat : (bs.length : Int) ≤ s.at_ := by
        rcases Int.lt_or_le s.at_ bs.length with hh | hh
        · exact absurd ⟨he0, hh⟩ hq
        · exact hh
      have hce : (rCnt bs).2.e = 0 := by
        by_cases hc : (rCnt bs).2.e = 0
        · exact hc
        · exfalso
          cases hf : (rCnt bs).1.toNat with
          | zero => rw [hf] at hl; simp only [rEnts] at hl; cases hl; exact hc he0
          | succ f => rw [hf] at hl; unfold rEnts at hl; rw [if_neg hc] at hl; cases hl; exact hc he0
      have hce' := hce
      unfold rCnt at hce'
      simp only at hce'
      obtain ⟨c1, c2, c3⟩ := rTake_ok hce'
      obtain ⟨n1, n2, n3, t, n4, n5⟩ := rNum_ok hx c1
      obtain ⟨q1, q2⟩ := rHead_ok n1
      have hcn : (rCnt bs).1 = (rNum bs (rHead bs rBeg)).1 := rfl
      have hcs : (rCnt bs).2 = { rBeg with at_ := t, to_ := t } := by
        show rTake _ _ = _
        rw [c3, n4, q1]
      have hn := of_decide_eq_true c2
      rw [← hcn] at hn n2
      have hha : (rHead bs rBeg).at_ = 3 := by rw [q1]
      rw [hha, ← hcn] at n5
      have e1 := rEnts_ok hx (rCnt bs).1 (rCnt bs).1.toNat [] (rCnt bs).2 (by rw [hcs]; exact ⟨fun i j _ hj => by simp [rBeg] at hj, fun x hxm => by simp [rBeg] at hxm⟩) (by rw [hcs]; have := n5.1; have := n5.2.1; simp only; omega) (by rw [hcs]; exact n5.2.2.1) (by rw [hl]; exact he0)
      rw [hl, hcs] at e1
      simp only [List.nil_append] at e1
      obtain ⟨_, l', a, e2, e3, e4, e5, e6⟩ := e1
      subst e2
      have hlen : (l.length : Int) = (rCnt bs).1 := by omega
      refine ⟨?_, ?_, trivial⟩
      · unfold wfI
        rw [Bool.and_eq_true]
        refine ⟨by simp; omega, ?_⟩
        rw [hlen]
        exact e4
      · have hE := q2.trans (n5.trans e6)
        unfold encI
        rw [hlen]
        have h4 := hE.2.2.2
        have ha : (bs.length : Int) ≤ a := by rw [← e5]; exact hat
        have h5 : bs.drop a.toNat = [] := List.drop_of_length_le (by omega)
        rw [h5, List.append_nil] at h4
        simp only [Int.toNat_zero, List.drop_zero] at h4
        exact h4.symm
end Go.Proofs.YtffnfjkjlmlonaaGreatDoor
