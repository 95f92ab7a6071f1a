/- Mathematics of images, the end: an image that was written is read back; cut off it is too short; with a byte more it is refused at its end. The image of a program's code is well-formed; nothing is claimed of the program here. -/
import Derived.Test.YtebjndcokkefhaaDoorZ9
import Derived.Test.YtebjndcokkefhaaDoorZ16
import Derived.Test.YtebjndcokkefhaaDoorZ5
import Derived.Test.YtebjndcokkefhaaDoorZ6
namespace Go.Proofs.YtebjndcokkefhaaDoor
open Go.RowKit

theorem unroll_sum : ∀ (l : List (Int × Int)) (b : Int), wfN l b → ((unroll l).length : Int) = sumS l
  | [], _, _ => rfl
  | p :: t, b, h => by
    have ih := unroll_sum t p.1 h.2.2.2
    have := h.2.2.1
    show (((p :: t).flatMap fun p => List.replicate p.2.toNat p.1).length : Int) = p.2 + sumS t
    rw [List.flatMap_cons, List.length_append, List.length_replicate]
    unfold unroll at ih
    omega

theorem rEntry_cut {bs : List Int} {s : RsD} {x : EntD} {n t : Int} {j : Nat} (he : s.e = 0) (hn : n ≤ 12) (hlen : s.files.length ≤ 12) (hok : entOk n x s.names s.room = true)
    (h : Eats bs s.at_ (entB' x s.files) t) (ha : s.at_ ≤ j) (hl : j ≤ bs.length) :
    (t ≤ j ∧ rEntry (bs.take j) s n = (x, ⟨t, t, 0, s.names ++ [x.name], filesD x.file s.files, s.room - sumS x.lines⟩)) ∨ (j < t ∧ (rEntry (bs.take j) s n).2.e = 2) := by
  obtain ⟨o1, o2, o3, o4, o5, o6, o7, o8⟩ := entOk_parts hok
  unfold entB' at h
  obtain ⟨m1, g1, h⟩ := h.split
  obtain ⟨m2, g2, h⟩ := h.split
  obtain ⟨m3, g3, h⟩ := h.split
  obtain ⟨m4, g4, g5⟩ := h.split
  have q1 := g1.2.1
  have q2 := g2.2.1
  have q3 := g3.2.1
  have q4 := g4.2.1
  have q5 := g5.2.1
  rcases rText_cut he g1 o1 ha hl with ⟨a1, a2⟩ | ⟨a1, a2⟩
  · have hA : entA (bs.take j) s = { s with at_ := m1, to_ := m1, names := s.names ++ [x.name] } := by unfold entA; rw [a2]
    rcases rFile_cut (s := { s with at_ := m1, to_ := m1, names := s.names ++ [x.name] }) (by exact he) o2 (by exact hlen) g2 a1 hl with ⟨b1, b2⟩ | ⟨b1, b2⟩
    · have hB : entB (bs.take j) s = { s with at_ := m2, to_ := m2, names := s.names ++ [x.name], files := filesD x.file s.files } := by unfold entB; rw [hA, b2]
      rcases rTab_cut (s := { s with at_ := m2, to_ := m2, names := s.names ++ [x.name], files := filesD x.file s.files }) (by exact he) g3 o3 b1 hl with ⟨c1, c2⟩ | ⟨c1, c2⟩
      · have hC : entC (bs.take j) s = (x.lines, { s with at_ := m2, to_ := m3, names := s.names ++ [x.name], files := filesD x.file s.files }) := by unfold entC; rw [hB, c2]
        have hD : entD (bs.take j) s = { s with at_ := m3, to_ := m3, names := s.names ++ [x.name], files := filesD x.file s.files, room := s.room - sumS x.lines } := by
          unfold entD
          rw [hC, hB]
          dsimp only
          rw [rTake_go (by exact he) o5]
        rcases rTab_cut (s := { s with at_ := m3, to_ := m3, names := s.names ++ [x.name], files := filesD x.file s.files, room := s.room - sumS x.lines }) (by exact he) g4 o4 c1 hl with ⟨d1, d2⟩ | ⟨d1, d2⟩
        · have hE : entE (bs.take j) s = (x.index, { s with at_ := m3, to_ := m4, names := s.names ++ [x.name], files := filesD x.file s.files, room := s.room - sumS x.lines }) := by unfold entE; rw [hD, d2]
          have hF : entF (bs.take j) s = { s with at_ := m4, to_ := m4, names := s.names ++ [x.name], files := filesD x.file s.files, room := s.room - sumS x.lines } := by
            unfold entF
            rw [hE, hC]
            dsimp only
            rw [rTake_go (by exact he) (by rw [o6]; simp)]
          have hwx := (wfT_iff x.index).1 o4
          have hul := unroll_sum x.index (-1) hwx.1.1
          have hm : (mostT x.index).toNat = x.tree.length := by omega
          have ht := rTreeF_cut (last := mostT x.index) hl (inst := unroll x.index) (by have := hwx.1.2; omega) hn x.tree 1 (-1) [] { s with at_ := m4, to_ := m4, names := s.names ++ [x.name], files := filesD x.file s.files, room := s.room - sumS x.lines } t (by exact he) rfl (by omega) g5 o8 d1 (by omega)
          have hT : rTree (bs.take j) (entF (bs.take j) s) (entE (bs.take j) s).1 n = rTreeF (bs.take j) (unroll x.index) n (mostT x.index) x.tree.length 1 (-1) [] { s with at_ := m4, to_ := m4, names := s.names ++ [x.name], files := filesD x.file s.files, room := s.room - sumS x.lines } := by
            unfold rTree
            rw [hE, hF]
            dsimp only
            rw [hm]
          rcases ht with ⟨t1, t2⟩ | ⟨t1, t2⟩
          · left
            refine ⟨t1, ?_⟩
            unfold rEntry
            rw [hT, t2, a2, hA, b2, hC, hE]
            dsimp only
            rw [he]
            rfl
          · right
            refine ⟨t1, ?_⟩
            show (rTree (bs.take j) (entF (bs.take j) s) (entE (bs.take j) s).1 n).2.e = 2
            rw [hT]
            exact t2
        · have hE : (entE (bs.take j) s).2.e = 2 := by unfold entE; rw [hD]; exact d2
          right
          refine ⟨by omega, ?_⟩
          rw [rEntry_stickE (by rw [hE]; decide), hE]
      · have hC : (entC (bs.take j) s).2.e = 2 := by unfold entC; rw [hB]; exact c2
        right
        refine ⟨by omega, ?_⟩
        rw [rEntry_stickC (by rw [hC]; decide), hC]
    · have hB : (entB (bs.take j) s).e = 2 := by unfold entB; rw [hA]; exact b2
      right
      refine ⟨by omega, ?_⟩
      rw [rEntry_stickB (by rw [hB]; decide), hB]
  · have hA : (entA (bs.take j) s).e = 2 := a2
    have hB : (entB (bs.take j) s).e = 2 := by rw [rEntry_stickA (by rw [hA]; decide), hA]
    right
    refine ⟨by omega, ?_⟩
    rw [rEntry_stickB (by rw [hB]; decide), hB]

theorem rEnts_halt (bs : List Int) (n : Int) (f : Nat) (l : List EntD) (s : RsD) (h : s.e ≠ 0) : rEnts bs n f l s = (l, s) := by
  cases f with
  | zero => rfl
  | succ f => unfold rEnts; rw [if_neg h]

theorem rEnts_cut {bs : List Int} {n : Int} {j : Nat} (hn : n ≤ 12) (hl : j ≤ bs.length) : ∀ (l acc : List EntD) (s : RsD) (t : Int), s.e = 0 → Files s.files → s.files.length + l.length ≤ 12 → wfIF n l s.names s.room = true →
    Eats bs s.at_ (encF l s.files) t → s.at_ ≤ j →
    (t ≤ j ∧ ∃ s', rEnts (bs.take j) n l.length acc s = (acc ++ l, s') ∧ s'.e = 0 ∧ s'.at_ = t) ∨ (j < t ∧ (rEnts (bs.take j) n l.length acc s).2.e = 2)
  | [], acc, s, t, he, _, _, _, h, ha => by
    have ht : t = s.at_ := by have := h.2.1; simp [encF] at this; exact this
    left
    exact ⟨by omega, s, by simp [rEnts], he, ht.symm⟩
  | x :: r, acc, s, t, he, hf, hfl, hw, h, ha => by
    unfold wfIF at hw
    rw [Bool.and_eq_true] at hw
    obtain ⟨hok, hw2⟩ := hw
    obtain ⟨o1, o2, o3, o4, o5, o6, o7, o8⟩ := entOk_parts hok
    have hh : encF (x :: r) s.files = entB' x s.files ++ encF r (filesD x.file s.files) := rfl
    rw [hh] at h
    obtain ⟨m, g1, g2⟩ := h.split
    have q2 := g2.2.1
    have es : rEnts (bs.take j) n (x :: r).length acc s = rEnts (bs.take j) n r.length (acc ++ [(rEntry (bs.take j) s n).1]) (rEntry (bs.take j) s n).2 := by
      show rEnts (bs.take j) n (r.length + 1) acc s = _
      conv => lhs; unfold rEnts
      rw [if_pos he]
    rw [es]
    rcases rEntry_cut he hn (by simp at hfl; omega) hok g1 ha hl with ⟨a1, a2⟩ | ⟨a1, a2⟩
    · rw [a2]
      have hfd := filesD_len x.file s.files
      have ih := rEnts_cut hn hl r (acc ++ [x]) ⟨m, m, 0, s.names ++ [x.name], filesD x.file s.files, s.room - sumS x.lines⟩ t rfl (hf.grow o2) (by simp at hfl ⊢; omega) hw2 g2 a1
      rcases ih with ⟨b1, s', b2, b3, b4⟩ | ⟨b1, b2⟩
      · left
        exact ⟨b1, s', by rw [b2]; simp, b3, b4⟩
      · exact .inr ⟨b1, b2⟩
    · right
      refine ⟨by omega, ?_⟩
      rw [rEnts_halt _ _ _ _ _ (by rw [a2]; decide)]
      exact a2

theorem rHead_cut (rest : List Int) (j : Nat) (hl : j ≤ ([85, 70, 1] ++ rest).length) : (3 ≤ j ∧ rHead (([85, 70, 1] ++ rest).take j) rBeg = ⟨3, 0, 0, [], [], 1000⟩) ∨ (j < 3 ∧ (rHead (([85, 70, 1] ++ rest).take j) rBeg).e = 2) := by
  match j, hl with
  | 0, _ => exact .inr ⟨by omega, by simp [rHead, rHeadF]⟩
  | 1, _ => exact .inr ⟨by omega, by simp [rHead, rHeadF]⟩
  | 2, _ => exact .inr ⟨by omega, by simp [rHead, rHeadF]⟩
  | j + 3, _ =>
    refine .inl ⟨by omega, ?_⟩
    simp [rHead, rHeadF, rBeg]

theorem dropHead (a : List Int) : List.drop 3 ([85, 70, 1] ++ a) = a := rfl
/-- Some first bytes of what begins with an image's: all of it is read, or it ends too early. -/
theorem rAll_cut {l : List EntD} (hw : wfI l = true) (post : List Int) (j : Nat) (hl : j ≤ (encI l ++ post).length) :
    ((encI l).length ≤ j ∧ ∃ s', rEnts ((encI l ++ post).take j) (rCnt ((encI l ++ post).take j)).1 (rCnt ((encI l ++ post).take j)).1.toNat [] (rCnt ((encI l ++ post).take j)).2 = (l, s') ∧ s'.e = 0 ∧ s'.at_ = (encI l).length) ∨
    (j < (encI l).length ∧ (rEnts ((encI l ++ post).take j) (rCnt ((encI l ++ post).take j)).1 (rCnt ((encI l ++ post).take j)).1.toNat [] (rCnt ((encI l ++ post).take j)).2).2.e = 2) := by
  unfold wfI at hw
  rw [Bool.and_eq_true] at hw
  obtain ⟨hlen, hw⟩ := hw
  have hlen := of_decide_eq_true hlen
  have hN : ∀ post', encI l ++ post' = [85, 70, 1] ++ ((numB l.length ++ encF l []) ++ post') := fun post' => by unfold encI; rw [List.append_assoc]
  have hel : (encI l).length = 3 + ((numB l.length).length + (encF l []).length) := by unfold encI; simp; omega
  obtain ⟨bs, hbs⟩ : ∃ bs, bs = encI l ++ post := ⟨_, rfl⟩
  rw [← hbs] at hl ⊢
  have hblen : bs.length = (encI l).length + post.length := by rw [hbs, List.length_append]
  have hcb := rHead_cut ((numB l.length ++ encF l []) ++ post) j (by rw [← hN, ← hbs]; exact hl)
  rw [← hN, ← hbs] at hcb
  have hE1 : Eats bs 3 (numB l.length) (3 + (numB l.length).length) := by
    refine ⟨by omega, rfl, by omega, ?_⟩
    have e1 : bs.drop 3 = numB l.length ++ (encF l [] ++ post) := by
      rw [hbs, hN, dropHead]
      exact List.append_assoc _ _ _
    have e2 : bs.drop (3 + ((numB (l.length : Int)).length : Int)).toNat = encF l [] ++ post := by
      have : (3 + ((numB (l.length : Int)).length : Int)).toNat = 3 + (numB l.length).length := by omega
      rw [this, ← List.drop_drop, e1, List.drop_left]
    rw [e2]
    exact e1
  have hE2 : Eats bs (3 + (numB l.length).length) (encF l []) (encI l).length := by
    have e1 : bs.drop 3 = numB l.length ++ (encF l [] ++ post) := by
      rw [hbs, hN, dropHead]
      exact List.append_assoc _ _ _
    refine ⟨by omega, by omega, by omega, ?_⟩
    have h1 : (3 + ((numB (l.length : Int)).length : Int)).toNat = 3 + (numB l.length).length := by omega
    have h3 : bs.drop ((encI l).length : Int).toNat = post := by
      rw [Int.toNat_natCast, hbs]
      exact List.drop_left
    have h4 : bs.drop (3 + (numB (l.length : Int)).length) = encF l [] ++ post := by
      rw [← List.drop_drop, e1]
      exact List.drop_left
    rw [h1, h3]
    exact h4
  clear hN hbs
  have hzero : ∀ s : RsD, s.e ≠ 0 → s.e = 2 → ∀ n f (acc : List EntD), (rEnts (bs.take j) n f acc s).2.e = 2 := fun s h1 h2 n f acc => by rw [rEnts_halt _ _ _ _ _ h1]; exact h2
  rcases hcb with ⟨h3, hH⟩ | ⟨h3, hH⟩
  · have hcnt : rCnt (bs.take j) = ((rNum (bs.take j) ⟨3, 0, 0, [], [], 1000⟩).1, rTake (rNum (bs.take j) ⟨3, 0, 0, [], [], 1000⟩).2 (decide (1 ≤ (rNum (bs.take j) ⟨3, 0, 0, [], [], 1000⟩).1 ∧ (rNum (bs.take j) ⟨3, 0, 0, [], [], 1000⟩).1 ≤ 12))) := by
      unfold rCnt
      rw [hH]
    rcases rNum_cut (s := ⟨3, 0, 0, [], [], 1000⟩) rfl hE1 (by omega) (by omega) (by show (3 : Int) ≤ j; omega) hl with ⟨k1, k2⟩ | ⟨k1, k2⟩
    · have hc2 : rCnt (bs.take j) = ((l.length : Int), ⟨3 + (numB l.length).length, 3 + (numB l.length).length, 0, [], [], 1000⟩) := by
        rw [hcnt, k2]
        dsimp only
        rw [rTake_go rfl (by simp only [decide_eq_true_eq]; omega)]
      rw [hc2]
      dsimp only
      rw [Int.toNat_natCast]
      rcases rEnts_cut (n := l.length) (by omega) hl l [] ⟨3 + (numB l.length).length, 3 + (numB l.length).length, 0, [], [], 1000⟩ _ rfl ⟨fun i k _ hk => by simp at hk, fun x hx => by simp at hx⟩ (by simp; omega) hw hE2 k1 with ⟨a1, s', a2, a3, a4⟩ | ⟨a1, a2⟩
      · exact .inl ⟨by omega, s', by rw [a2]; rfl, a3, a4⟩
      · exact .inr ⟨by omega, a2⟩
    · right
      refine ⟨by omega, ?_⟩
      have hne : (rNum (bs.take j) ⟨3, 0, 0, [], [], 1000⟩).2.e ≠ 0 := by rw [k2]; decide
      have h2 : (rCnt (bs.take j)).2.e = 2 := by rw [hcnt]; dsimp only; rw [rTake_stick hne]; exact k2
      exact hzero _ (by rw [h2]; decide) h2 _ _ _
  · right
    refine ⟨by omega, ?_⟩
    have hne : (rHead (bs.take j) rBeg).e ≠ 0 := by rw [hH]; decide
    have h2 : (rCnt (bs.take j)).2.e = 2 := by
      unfold rCnt
      rw [rNum_stick hne]
      dsimp only
      rw [rTake_stick hne]
      exact hH
    exact hzero _ (by rw [h2]; decide) h2 _ _ _

theorem decI_enc {l : List EntD} (hw : wfI l = true) : decI (encI l) = (l, 0, 0) := by
  have h := rAll_cut hw [] (encI l).length (by simp)
  rw [List.append_nil, List.take_length] at h
  rcases h with ⟨_, s', h1, h2, h3⟩ | ⟨h1, _⟩
  · have hA : rAll (encI l) = (l, s') := by
      unfold rAll
      rw [h1]
      dsimp only
      unfold rEnd
      rw [if_neg (by omega)]
    unfold decI
    rw [hA]
    dsimp only
    rw [if_neg (by simpa using h2)]
  · omega

theorem decI_short {l : List EntD} (hw : wfI l = true) {j : Nat} (hj : j < (encI l).length) : (decI ((encI l).take j)).2.1 = 2 := by
  have h := rAll_cut hw [] j (by simp; omega)
  rw [List.append_nil] at h
  rcases h with ⟨h1, _⟩ | ⟨_, h1⟩
  · omega
  · have hA : (rAll ((encI l).take j)).2.e = 2 := by
      unfold rAll
      dsimp only
      unfold rEnd
      rw [if_neg (by rw [h1]; omega)]
      exact h1
    unfold decI
    rw [if_pos (by rw [hA]; decide)]
    exact hA

theorem decI_more {l : List EntD} (hw : wfI l = true) (x : Int) : decI (encI l ++ [x]) = ([], 8, ((encI l).length : Int)) := by
  have h := rAll_cut hw [x] (encI l ++ [x]).length (Nat.le_refl _)
  rw [List.take_length] at h
  rcases h with ⟨_, s', h1, h2, h3⟩ | ⟨h1, _⟩
  · have hA : rAll (encI l ++ [x]) = (l, { s' with e := 8 }) := by
      unfold rAll
      rw [h1]
      dsimp only
      unfold rEnd
      rw [if_pos ⟨h2, by rw [h3]; simp; omega⟩]
    unfold decI
    rw [hA]
    dsimp only
    rw [if_pos (by decide), h3]
  · simp at h1
    omega
end Go.Proofs.YtebjndcokkefhaaDoor
namespace Go.Proofs.YtebjndcokkefhaaDoor
open Go.RowKit

/-- What the image tells of a function's code. -/
def entOfD (p : List FnD) (f : FnD) (c : CodeD) : EntD := ⟨f.name, f.file, rollL (c.places.map fun a => (opAt p a).line), rollL (c.places.map fun a => a.inst), c.tree⟩
def imgD (p : List FnD) (cs : List CodeD) : List EntD := List.zipWith (entOfD p) p cs

theorem heads_of {p : List FnD} (h : chk p = (0, 0, 0)) (f : Nat) (x : FnD) (hx : p[f]? = some x) : headB p f x = true := by
  unfold chk at h
  split at h
  · simp at h
  · have := (chkF_ok h f x hx).1
    rwa [Nat.zero_add] at this
theorem fnAt_nat {p : List FnD} {n : Int} (h0 : 0 ≤ n) (h1 : n < p.length) : p[n.toNat]? = some (fnAt p n) := by
  unfold fnAt
  rw [List.getElem?_eq_getElem (by omega)]; rfl
theorem layOk_of {p : List FnD} (h : Good p) : LayOk p where
  body := fun fn h0 h1 => by
    have := (h.fns _ _ (fnAt_nat h0 h1)).body
    intro e
    rw [e] at this
    simp at this
  call := fun fn h0 h1 o ho hc => by
    obtain ⟨i, hi⟩ := List.mem_iff_getElem?.1 ho
    have := ((h.fns _ _ (fnAt_nat h0 h1)).ops i o hi).call hc
    exact ⟨this.1, this.2.1⟩
theorem opAt_ok {p : List FnD} (h : Good p) {a : PlD} (ha : PlOk p a) : 1 ≤ (opAt p a).line ∧ (opAt p a).line ≤ 9999 := by
  obtain ⟨h1, h2, h3⟩ := ha
  have hg : (fnAt p a.fn).body[a.op.toNat]? = some (opAt p a) := by
    unfold opAt
    rw [List.getElem?_eq_getElem (by omega)]; rfl
  exact ((h.fns _ _ (fnAt_nat h1.1 h1.2)).ops _ _ hg).line

theorem plc_all {s : ByteArray} : ∀ {l : List ByteArray}, (∀ x ∈ l, eqB x s = false) → plc s l = l.length
  | [], _ => rfl
  | x :: r, h => by
    unfold plc
    rw [if_neg (by rw [h x (by simp)]; decide), plc_all (fun y hy => h y (by simp [hy]))]
    rfl
theorem mem_unroll {l : List (Int × Int)} {q : Int × Int} (h : q ∈ l) (h1 : 1 ≤ q.2) : q.1 ∈ unroll l := by
  unfold unroll
  rw [List.mem_flatMap]
  exact ⟨q, h, by rw [List.mem_replicate]; exact ⟨by omega, rfl⟩⟩
theorem wfN_pos : ∀ {l : List (Int × Int)} {b : Int}, wfN l b → ∀ q ∈ l, 1 ≤ q.2
  | [], _, _, q, hq => by simp at hq
  | x :: r, b, h, q, hq => by
    rcases List.mem_cons.1 hq with e | e
    · subst e; exact h.2.2.1
    · exact wfN_pos h.2.2.2 q e
theorem mem_of_unroll {l : List (Int × Int)} {v : Int} (h : v ∈ unroll l) : ∃ q ∈ l, q.1 = v := by
  unfold unroll at h
  rw [List.mem_flatMap] at h
  obtain ⟨q, hq, hv⟩ := h
  exact ⟨q, hq, (List.mem_replicate.1 hv).2.symm⟩
theorem most_spec : ∀ (l : List (Int × Int)) (n m : Int), n ≤ m → (∀ q ∈ l, q.1 ≤ m) → (n = m ∨ ∃ q ∈ l, q.1 = m) → l.foldl (fun n p => if n < p.1 then p.1 else n) n = m
  | [], n, m, _, _, h => by
    rcases h with h | ⟨q, hq, _⟩
    · exact h
    · simp at hq
  | x :: r, n, m, hn, hall, h => by
    rw [List.foldl_cons]
    have hx := hall x (by simp)
    by_cases hlt : n < x.1
    · rw [if_pos hlt]
      refine most_spec r x.1 m hx (fun q hq => hall q (by simp [hq])) ?_
      rcases h with h | ⟨q, hq, he⟩
      · omega
      · rcases List.mem_cons.1 hq with e | e
        · subst e; exact .inl he
        · exact .inr ⟨q, e, he⟩
    · rw [if_neg hlt]
      refine most_spec r n m hn (fun q hq => hall q (by simp [hq])) ?_
      rcases h with h | ⟨q, hq, he⟩
      · exact .inl h
      · rcases List.mem_cons.1 hq with e | e
        · subst e; exact .inl (by omega)
        · exact .inr ⟨q, e, he⟩

theorem GoodLy.pcs {p : List FnD} {r : Int} {s : LyD} (h : GoodLy p r s) : ∀ (i : Nat) (nd : Int × Int), s.tree[i]? = some nd → (i : Int) ≤ nd.2 ∧ nd.2 + 1 < s.places.length
  | 0, nd, hn => by
    obtain ⟨_, pc, a, b, e1, _, e3, _⟩ := h.node 0 nd hn
    have := (List.getElem?_eq_some_iff.1 e3).1
    omega
  | i + 1, nd, hn => by
    obtain ⟨_, pc, a, b, e1, _, e3, _⟩ := h.node (i + 1) nd hn
    have h3 := (List.getElem?_eq_some_iff.1 e3).1
    have hlt := (List.getElem?_eq_some_iff.1 hn).1
    obtain ⟨x, hx⟩ : ∃ x, s.tree[i]? = some x := ⟨_, List.getElem?_eq_getElem (by omega)⟩
    have ih := h.pcs i x hx
    have := h.inc i (i + 1) x nd (by omega) hx hn
    omega
theorem GoodLy.few {p : List FnD} {r : Int} {s : LyD} (h : GoodLy p r s) : s.tree.length ≤ s.places.length := by
  cases hl : s.tree.length with
  | zero => omega
  | succ n =>
    obtain ⟨x, hx⟩ : ∃ x, s.tree[n]? = some x := ⟨_, List.getElem?_eq_getElem (by omega)⟩
    have := h.pcs n x hx
    omega

theorem GoodLy.treeOk {p : List FnD} {r : Int} {s : LyD} (h : GoodLy p r s) : ∀ (tr : List (Int × Int)) (i : Nat), s.tree.drop i = tr → ∀ before : Int, (∀ x, s.tree[i]? = some x → before < x.2) →
    Proofs.YtebjndcokkefhaaDoor.treeOk p.length (s.places.map fun a => a.inst) tr ((i : Int) + 1) before = true
  | [], _, _, _, _ => rfl
  | x :: t, i, ht, before, hb => by
    have hx : s.tree[i]? = some x := by
      have h2 : (s.tree.drop i)[0]? = some x := by rw [ht]; rfl
      simpa using h2
    have ht2 : s.tree.drop (i + 1) = t := by
      have h2 : (s.tree.drop i).drop 1 = t := by rw [ht]; rfl
      rw [List.drop_drop] at h2
      exact h2
    obtain ⟨h1, pc, a, b, e1, e2, e3, e4, e5, _⟩ := h.node i x hx
    have h3 := (List.getElem?_eq_some_iff.1 e3).1
    have hbx := hb x hx
    unfold Proofs.YtebjndcokkefhaaDoor.treeOk
    rw [Bool.and_eq_true, Bool.and_eq_true]
    refine ⟨⟨by unfold withB; exact decide_eq_true h1, ?_⟩, ?_⟩
    · unfold pcB
      rw [Bool.and_eq_true, Bool.and_eq_true]
      have g1 : (s.places.map fun a => a.inst).getD x.2.toNat 0 = a.inst := by rw [e1, Int.toNat_natCast]; simp [List.getD, e2]
      have g2 : (s.places.map fun a => a.inst).getD (x.2.toNat + 1) 0 = b.inst := by rw [e1, Int.toNat_natCast]; simp [List.getD, e3]
      refine ⟨decide_eq_true ⟨hbx, by rw [List.length_map]; omega⟩, by rw [g1]; exact decide_eq_true (by omega), by rw [g2, e5]; simp⟩
    · have := h.treeOk t (i + 1) ht2 x.2 (fun y hy => h.inc i (i + 1) x y (by omega) hx hy)
      have e : ((i + 1 : Nat) : Int) + 1 = (i : Int) + 1 + 1 := by omega
      rw [e] at this
      exact this

theorem ent_ok {p : List FnD} (hc : chk p = (0, 0, 0)) {f : Nat} {x : FnD} (hx : p[f]? = some x) {room : Int} {c : CodeD} (hg : GoodLy p f ⟨0, c.places, c.tree⟩) (h1 : 1 ≤ c.places.length) (h2 : (c.places.length : Int) ≤ room) (hr : room ≤ 1000) :
    entOk p.length (entOfD p x c) ((p.take f).map fun y => y.name) room = true ∧ sumS (entOfD p x c).lines = c.places.length := by
  have hgd := good_of hc
  have hh := heads_of hc f x hx
  unfold headB at hh
  simp only [Bool.and_eq_true, Bool.not_eq_true'] at hh
  obtain ⟨hany, _, ⟨hw1, hw2⟩, _⟩ := hh
  have hpl : ∀ a ∈ c.places, PlOk p a := hg.pl
  have hfew := hg.few
  dsimp only at hfew
  have hv1 : ∀ v ∈ (c.places.map fun a => (opAt p a).line), isV v = true := fun v hv => by
    obtain ⟨a, ha, rfl⟩ := List.mem_map.1 hv
    have := opAt_ok hgd (hpl a ha)
    unfold isV
    exact decide_eq_true (by omega)
  have hv2 : ∀ v ∈ (c.places.map fun a => a.inst), isV v = true := fun v hv => by
    obtain ⟨a, ha, rfl⟩ := List.mem_map.1 hv
    obtain ⟨k, k1, k2, _⟩ := hg.inst a ha
    dsimp only at k2
    unfold isV
    exact decide_eq_true (by omega)
  obtain ⟨l1, l2, l3⟩ := roll_ok _ _ rfl hv1
  obtain ⟨m1, m2, m3⟩ := roll_ok _ _ rfl hv2
  rw [List.length_map] at l2 m2
  have hwt1 := roll_wfT _ hv1 (by rw [List.length_map]; exact h1) (by rw [List.length_map]; omega)
  have hwt2 := roll_wfT _ hv2 (by rw [List.length_map]; exact h1) (by rw [List.length_map]; omega)
  refine ⟨?_, l2⟩
  unfold entOk entOfD
  dsimp only
  simp only [Bool.and_eq_true]
  refine ⟨⟨?_, hw2⟩, ⟨⟨hwt1, hwt2⟩, ?_, ?_⟩, ?_, ?_⟩
  · unfold newB
    rw [hw1, plc_all (l := (p.take f).map fun y => y.name) (fun y hy => ?_)]
    · simp
    · obtain ⟨z, hz, rfl⟩ := List.mem_map.1 hy
      have := List.any_eq_false.1 hany z hz
      simpa using this
  · unfold linesB
    rw [Bool.and_eq_true]
    refine ⟨List.all_eq_true.2 fun q hq => ?_, decide_eq_true (by rw [l2]; exact h2)⟩
    have hm := mem_unroll hq (wfN_pos l1 q hq)
    rw [l3] at hm
    obtain ⟨a, ha, he⟩ := List.mem_map.1 hm
    have := opAt_ok hgd (hpl a ha)
    have hne : ¬ q.1 = 0 := by omega
    simpa using hne
  · rw [l2, m2]; simp
  · have : mostT (rollL (c.places.map fun a => a.inst)) = c.tree.length := by
      refine most_spec _ 0 _ (by omega) (fun q hq => ?_) ?_
      · have hm := mem_unroll hq (wfN_pos m1 q hq)
        rw [m3] at hm
        obtain ⟨a, ha, he⟩ := List.mem_map.1 hm
        obtain ⟨k, k1, k2, _⟩ := hg.inst a ha
        dsimp only at k2
        omega
      · cases hl : c.tree.length with
        | zero => left; rfl
        | succ n =>
          right
          obtain ⟨nd, hnd⟩ : ∃ x, c.tree[n]? = some x := ⟨_, List.getElem?_eq_getElem (by omega)⟩
          obtain ⟨_, pc, a, b, e1, e2, e3, e4, e5, _⟩ := hg.node n nd hnd
          have hb : b.inst ∈ unroll (rollL (c.places.map fun a => a.inst)) := by
            rw [m3]
            exact List.mem_map.2 ⟨b, List.mem_of_getElem? e3, rfl⟩
          obtain ⟨q, hq, he⟩ := mem_of_unroll hb
          exact ⟨q, hq, by rw [he, e5]; omega⟩
    rw [this]; simp
  · rw [m3]
    exact hg.treeOk c.tree 0 rfl (-1) (fun y hy => by have := hg.pcs 0 y hy; omega)

theorem layAll_img {p : List FnD} (hc : chk p = (0, 0, 0)) (bud : Int) : ∀ (n fn : Nat) (room : Int) (l cs : List CodeD), fn + n = p.length → 0 ≤ room → room ≤ 1000 → layAll p bud n fn room l = some cs →
    ∃ cs', cs = l ++ cs' ∧ cs'.length = n ∧ wfIF p.length (List.zipWith (entOfD p) (p.drop fn) cs') ((p.take fn).map fun y => y.name) room = true ∧
      (∀ (i : Nat) (c : CodeD), cs'[i]? = some c → GoodLy p ((fn + i : Nat) : Int) ⟨0, c.places, c.tree⟩ ∧ (∀ m, m ≤ c.tree.length → Full p ((fn + i : Nat) : Int) ⟨0, c.places, c.tree⟩ m) ∧ c.first = 1000 - room + ((cs'.take i).map fun c => (c.places.length : Int)).sum)
  | 0, fn, room, l, cs, hn, _, _, h => by
    have : l = cs := Option.some.inj h
    refine ⟨[], by rw [this]; simp, rfl, ?_, fun i c h => by simp at h⟩
    have : p.drop fn = [] := List.drop_of_length_le (by omega)
    rw [this]
    rfl
  | n + 1, fn, room, l, cs, hn, h0, h1, h => by
    unfold layAll at h
    split at h
    · cases h
    · next hr =>
      have hgd := good_of hc
      have hlen := hgd.len
      obtain ⟨x, hx⟩ : ∃ x, p[fn]? = some x := ⟨_, List.getElem?_eq_getElem (by omega)⟩
      obtain ⟨g1, g2, g3⟩ := layI_good (r := fn) (bud := bud) (layOk_of hgd) 12 [] (by have := freeN_le [] p.length; omega) fn ⟨room, [], []⟩ (by omega) (by omega) (by simp) (.inl ⟨rfl, rfl, rfl⟩) (by omega)
      obtain ⟨r1, r2⟩ := layI_room p bud 12 fn [] ⟨room, [], []⟩ h0
      obtain ⟨s, hs⟩ : ∃ s, s = layI p bud 12 fn [] ⟨room, [], []⟩ := ⟨_, rfl⟩
      rw [← hs] at g1 g2 g3 r1 r2 hr h
      dsimp only at r1 r2
      have hsz : (sizI p bud 12 fn [] : Int) ≤ room := Int.not_lt.1 fun hl => hr (r2 hl)
      obtain ⟨q1, q2⟩ := r1 hsz
      rw [List.length_nil, Nat.zero_add] at q2
      have hne : 1 ≤ s.places.length := by
        obtain ⟨a, ha, _⟩ := g3 0 (by simp) (by omega) fn (by unfold fnK; rw [if_pos rfl]) 0 (by
          have := layOk_of hgd
          exact List.length_pos_iff.2 (this.body fn (by omega) (by omega)))
        exact List.length_pos_iff.2 (List.ne_nil_of_mem ha)
      have hg' : GoodLy p fn ⟨0, s.places, s.tree⟩ := ⟨g1.node, g1.inc, g1.inst, g1.pl⟩
      obtain ⟨o1, o2⟩ := ent_ok hc hx (c := ⟨1000 - room, s.places, s.tree⟩) (room := room) hg' hne (by dsimp only; omega) h1
      obtain ⟨cs', e1, e2, e3, e4⟩ := layAll_img hc bud n (fn + 1) s.room _ cs (by omega) (by omega) (by omega) h
      refine ⟨⟨1000 - room, s.places, s.tree⟩ :: cs', by rw [e1]; simp, by simp [e2], ?_, fun i c hi => ?_⟩
      · have hd : p.drop fn = x :: p.drop (fn + 1) := by
          obtain ⟨hlt, he⟩ := List.getElem?_eq_some_iff.1 hx
          rw [List.drop_eq_getElem_cons hlt, he]
        rw [hd, List.zipWith_cons_cons]
        unfold wfIF
        rw [Bool.and_eq_true]
        refine ⟨o1, ?_⟩
        have ht : (p.take fn).map (fun y => y.name) ++ [x.name] = (p.take (fn + 1)).map fun y => y.name := by
          obtain ⟨hlt, he⟩ := List.getElem?_eq_some_iff.1 hx
          rw [List.take_succ_eq_append_getElem hlt, he, List.map_append]; rfl
        show wfIF _ _ ((p.take fn).map (fun y => y.name) ++ [x.name]) (room - sumS (entOfD p x ⟨1000 - room, s.places, s.tree⟩).lines) = true
        rw [ht, o2]
        dsimp only
        have : room - (s.places.length : Int) = s.room := by omega
        rw [this]
        exact e3
      · match i, hi with
        | 0, hi =>
          simp at hi
          subst hi
          refine ⟨hg', fun m hm => ?_, by simp⟩
          exact g3 m (by simp) hm
        | i + 1, hi =>
          obtain ⟨k1, k2, k3⟩ := e4 i c (by simpa using hi)
          have ee : ((fn + 1 + i : Nat) : Int) = ((fn + (i + 1) : Nat) : Int) := by omega
          rw [ee] at k1 k2
          refine ⟨k1, k2, ?_⟩
          rw [k3, List.take_succ_cons, List.map_cons, List.sum_cons]
          dsimp only
          omega

theorem img_wf {p : List FnD} (hc : chk p = (0, 0, 0)) {bud : Int} {cs : List CodeD} (h : codesD p bud = some cs) : wfI (imgD p cs) = true ∧ cs.length = p.length ∧
    ∀ (i : Nat) (c : CodeD), cs[i]? = some c → GoodLy p i ⟨0, c.places, c.tree⟩ ∧ (∀ m, m ≤ c.tree.length → Full p i ⟨0, c.places, c.tree⟩ m) ∧ c.first = ((cs.take i).map fun c => (c.places.length : Int)).sum := by
  obtain ⟨cs', e1, e2, e3, e4⟩ := layAll_img hc bud p.length 0 1000 [] cs (by omega) (by decide) (by decide) h
  rw [List.nil_append] at e1
  subst e1
  rw [List.drop_zero] at e3
  have hlen := (good_of hc).len
  have hl : (imgD p cs).length = p.length := by unfold imgD; rw [List.length_zipWith, e2, Nat.min_self]
  refine ⟨?_, e2, fun i c hi => ?_⟩
  · unfold wfI
    rw [hl, Bool.and_eq_true]
    exact ⟨decide_eq_true (by omega), e3⟩
  · have := e4 i c hi
    rw [Nat.zero_add] at this
    exact ⟨this.1, this.2.1, by rw [this.2.2]; omega⟩
end Go.Proofs.YtebjndcokkefhaaDoor
