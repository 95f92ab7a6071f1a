/- Mathematics of images: what was written of a well-formed image is read back; cut off, wherever, it ends too early; nothing is claimed of the program here. Mathematics of images, on: the files, the tree, an entry, all entries; the whole image. Mathematics of images, the end: an image that was written is read back; cut off it is too short; with a byte more it is refused at its end. -/
import Derived.Test.YthaganponmnanaaGreatDoorZ6
import Derived.Test.YthaganponmnanaaGreatDoorZ12
namespace Go.Proofs.YthaganponmnanaaGreatDoor
open Go.RowKit

theorem getTF_put' (post : List Int) : ∀ (l : List (Int × Int)) (pre : List Int) (acc : List (Int × Int)) (b r : Int) (f : Nat), wfN l b → -1 ≤ b → b ≤ 9999 → sumS l ≤ r → r ≤ 1000 → r.toNat < f → (l = [] → acc ≠ []) →
    getTF (pre ++ (putS l b ++ post)) f acc (pre.length : Int) b r = (acc ++ l, ((pre ++ putS l b).length : Int), 0)
  | [], pre, acc, b, r, f, _, _, _, _, _, hf, ha => by
    obtain ⟨f, rfl⟩ : ∃ f', f = f' + 1 := ⟨f - 1, by omega⟩
    rw [getTF_succ]
    have he : endB (pre ++ (putS [] b ++ post)) (pre.length : Int) = true := by rw [endB_at]; simp [putS]
    rw [if_pos ⟨ha rfl, he⟩]
    simp [putS]
  | p :: t, pre, acc, b, r, f, hw, hb1, hb2, hs, hr, hf, ha => by
    obtain ⟨f, rfl⟩ : ∃ f', f = f' + 1 := ⟨f - 1, by omega⟩
    obtain ⟨hv, hvb, hn, hw2⟩ := hw
    have hv' := of_decide_eq_true hv
    have hsum := wfN_sum t p.1 hw2
    simp only [sumS] at hs
    have hz := zig_bd (p.1 - b) (by omega) (by omega)
    have e : putS (p :: t) b ++ post = numB (zig (p.1 - b)) ++ (numB p.2 ++ (putS t p.1 ++ post)) := by simp [putS]
    rw [e]
    have he : endB (pre ++ (numB (zig (p.1 - b)) ++ (numB p.2 ++ (putS t p.1 ++ post)))) (pre.length : Int) = false := by
      rw [endB_at]
      have h2 := numB_head (zig (p.1 - b)) (zig_ne _ (by omega)) (numB p.2 ++ (putS t p.1 ++ post))
      rw [beq_eq_false_iff_ne.2 h2]; simp
    rw [getTF_succ, if_neg (by rw [he]; simp)]
    have hsp := getSp_put pre (putS t p.1 ++ post) p.1 b p.2 r hv hb1 hb2 hvb hn (by omega) (by omega)
    rw [hsp]
    simp only [ne_eq, not_true_eq_false, if_false]
    have ih := getTF_put' post t (pre ++ numB (zig (p.1 - b)) ++ numB p.2) (acc ++ [p]) p.1 (r - p.2) f hw2 (by omega) (by omega) (by omega) (by omega) (by omega) (fun _ => by simp)
    have e2 : pre ++ (numB (zig (p.1 - b)) ++ (numB p.2 ++ (putS t p.1 ++ post))) = pre ++ numB (zig (p.1 - b)) ++ numB p.2 ++ (putS t p.1 ++ post) := by simp
    rw [e2, ih]
    simp [putS]

theorem Eats.cut {bs x : List Int} {a t : Int} (h : Eats bs a x t) {j : Nat} (hj : t ≤ j) (hl : j ≤ bs.length) : Eats (bs.take j) a x t := by
  obtain ⟨h0, h1, h2, h3⟩ := h
  refine ⟨h0, h1, by rw [List.length_take]; omega, ?_⟩
  rw [List.drop_take, h3, List.drop_take, List.take_append, List.take_of_length_le (by omega)]
  congr 2
  omega
theorem Eats.off {bs x : List Int} {a t : Int} (h : Eats bs a x t) {j : Nat} (ha : a ≤ j) (hj : j < t) : bs.take j = bs.take a.toNat ++ x.take (j - a.toNat) := by
  obtain ⟨h0, h1, h2, h3⟩ := h
  have e : j = a.toNat + (j - a.toNat) := by omega
  conv => lhs; rw [e]
  rw [List.take_add, h3, List.take_append_of_le_length (by omega)]
theorem Eats.split {bs x y : List Int} {a t : Int} (h : Eats bs a (x ++ y) t) : ∃ m, Eats bs a x m ∧ Eats bs m y t := by
  obtain ⟨h0, h1, h2, h3⟩ := h
  rw [List.length_append] at h1
  have hd : bs.drop (a + x.length).toNat = y ++ bs.drop t.toNat := by
    have e : (a + (x.length : Int)).toNat = a.toNat + x.length := by omega
    rw [e, ← List.drop_drop, h3, List.append_assoc, List.drop_left]
  refine ⟨a + x.length, ⟨h0, rfl, by omega, ?_⟩, ⟨by omega, by omega, h2, hd⟩⟩
  rw [h3, hd, List.append_assoc]
theorem Eats.form {bs x : List Int} {a t : Int} (h : Eats bs a x t) : bs = bs.take a.toNat ++ (x ++ bs.drop t.toNat) ∧ ((bs.take a.toNat).length : Int) = a ∧ ((bs.take a.toNat ++ x).length : Int) = t := by
  obtain ⟨h0, h1, h2, h3⟩ := h
  have hl : ((bs.take a.toNat).length : Int) = a := by rw [List.length_take]; omega
  refine ⟨by rw [← h3, List.take_append_drop], hl, ?_⟩
  rw [List.length_append]
  omega

theorem getN_eats {bs : List Int} {a n t : Int} (h : Eats bs a (numB n) t) (h0 : 0 ≤ n) (h1 : n ≤ 2147483647) : getN bs a = (n, t, 0) := by
  obtain ⟨e, hl, ht⟩ := h.form
  have := getN_put (bs.take a.toNat) (bs.drop t.toNat) n h0 h1
  rw [← e, hl, ht] at this
  exact this
theorem getT_eats {bs : List Int} {l : List (Int × Int)} {a t : Int} (h : Eats bs a (putS l (-1)) t) (hw : wfT l = true) : getT bs a = (l, t, 0) := by
  obtain ⟨e, hl, ht⟩ := h.form
  obtain ⟨⟨h1, h2⟩, h3⟩ := (wfT_iff l).1 hw
  have := getTF_put' (bs.drop t.toNat) l (bs.take a.toNat) [] (-1) 1000 1001 h1 (by omega) (by omega) h2 (by omega) (by omega) (fun e => absurd e h3)
  rw [← e, hl, ht] at this
  unfold getT
  obtain ⟨g0, g1, g2, _⟩ := h
  rw [if_neg (by omega), this]
  rfl
theorem getN_off {bs : List Int} {a n t : Int} (h : Eats bs a (numB n) t) (h0 : 0 ≤ n) {j : Nat} (ha : a ≤ j) (hj : j < t) : getN (bs.take j) a = (0, 0, 2) := by
  have hl := h.form.2.1
  have g := h
  obtain ⟨g0, g1, g2, _⟩ := g
  have := getN_cut (bs.take a.toNat) n (j - a.toNat) h0 (by omega)
  rw [hl, ← h.off ha hj] at this
  exact this
theorem getT_off {bs : List Int} {l : List (Int × Int)} {a t : Int} (h : Eats bs a (putS l (-1)) t) (hw : wfT l = true) {j : Nat} (ha : a ≤ j) (hj : j < t) : getT (bs.take j) a = ([], 0, 2) := by
  have hl := h.form.2.1
  obtain ⟨⟨h1, h2⟩, h3⟩ := (wfT_iff l).1 hw
  have g := h
  obtain ⟨g0, g1, g2, _⟩ := g
  have := getTF_cut l (bs.take a.toNat) [] (-1) 1000 1001 (j - a.toNat) h1 (by omega) (by omega) h2 (by omega) (by omega) (by omega)
  rw [hl, ← h.off ha hj] at this
  unfold getT
  rw [if_neg (by rw [List.length_take]; omega), this]

theorem rTake_go {s : RsD} {b : Bool} (h : s.e = 0) (hb : b = true) : rTake s b = { s with at_ := s.to_ } := by unfold rTake; rw [if_neg (by simpa using h), if_pos hb]
theorem rTake_stick {s : RsD} {b : Bool} (h : s.e ≠ 0) : rTake s b = s := by unfold rTake; rw [if_pos h]
theorem rNum_stick {bs : List Int} {s : RsD} (h : s.e ≠ 0) : rNum bs s = (0, s) := by unfold rNum; rw [if_pos h]
theorem rTab_stick {bs : List Int} {s : RsD} (h : s.e ≠ 0) : rTab bs s = ([], s) := by unfold rTab; rw [if_pos h]
theorem rByt_stick {bs : List Int} {s : RsD} {n : Int} (h : s.e ≠ 0) : rByt bs s n = (ByteArray.empty, s) := by unfold rByt; rw [if_pos h]
theorem rText_stick {bs : List Int} {s : RsD} {l : List ByteArray} (h : s.e ≠ 0) : (rText bs s l).2 = s := by
  unfold rText
  rw [rNum_stick h]
  simp only [rTake_stick h, rByt_stick h]
theorem rFile_stick {bs : List Int} {s : RsD} (h : s.e ≠ 0) : (rFile bs s).2.e = s.e := by
  unfold rFile
  rw [rNum_stick h]
  simp only [rTake_stick h]
  split
  · rfl
  · show (rText bs s s.files).2.e = s.e
    rw [rText_stick h]
theorem rNode_stick {bs : List Int} {s : RsD} {inst : List Int} {funcs k before : Int} (h : s.e ≠ 0) : (rNode bs s inst funcs k before).2 = s := by
  unfold rNode
  rw [rNum_stick h]
  simp only [rTake_stick h, rNum_stick h]
theorem rTreeF_stick {bs : List Int} {inst : List Int} {funcs last : Int} (f : Nat) (k before : Int) (l : List (Int × Int)) {s : RsD} (h : s.e ≠ 0) : rTreeF bs inst funcs last f k before l s = (l, s) := by
  cases f with
  | zero => rfl
  | succ f => unfold rTreeF; rw [if_neg (fun e => h e.2)]

theorem rNum_go {bs : List Int} {s : RsD} {n t : Int} (he : s.e = 0) (h : getN bs s.at_ = (n, t, 0)) : rNum bs s = (n, { s with to_ := t }) := by
  unfold rNum
  rw [if_neg (by simpa using he), h]
  simp only
  rw [← he]
theorem rTab_go {bs : List Int} {s : RsD} {l : List (Int × Int)} {t : Int} (he : s.e = 0) (h : getT bs s.at_ = (l, t, 0)) : rTab bs s = (l, { s with to_ := t }) := by
  unfold rTab
  rw [if_neg (by simpa using he), h]
  simp only
  rw [← he]
theorem rNum_two {bs : List Int} {s : RsD} {n t : Int} (he : s.e = 0) (h : getN bs s.at_ = (n, t, 2)) : (rNum bs s).2.e = 2 := by
  unfold rNum
  rw [if_neg (by simpa using he), h]
theorem rTab_two {bs : List Int} {s : RsD} {l : List (Int × Int)} {t : Int} (he : s.e = 0) (h : getT bs s.at_ = (l, t, 2)) : (rTab bs s).2.e = 2 := by
  unfold rTab
  rw [if_neg (by simpa using he), h]

theorem rNum_cut {bs : List Int} {s : RsD} {n t : Int} {j : Nat} (he : s.e = 0) (h : Eats bs s.at_ (numB n) t) (h0 : 0 ≤ n) (h1 : n ≤ 2147483647) (ha : s.at_ ≤ j) (hl : j ≤ bs.length) :
    (t ≤ j ∧ rNum (bs.take j) s = (n, { s with to_ := t })) ∨ (j < t ∧ (rNum (bs.take j) s).2.e = 2) := by
  by_cases ht : t ≤ j
  · exact .inl ⟨ht, rNum_go he (getN_eats (h.cut ht hl) h0 h1)⟩
  · exact .inr ⟨by omega, rNum_two he (getN_off h h0 ha (by omega))⟩
theorem rTab_cut {bs : List Int} {s : RsD} {l : List (Int × Int)} {t : Int} {j : Nat} (he : s.e = 0) (h : Eats bs s.at_ (putS l (-1)) t) (hw : wfT l = true) (ha : s.at_ ≤ j) (hl : j ≤ bs.length) :
    (t ≤ j ∧ rTab (bs.take j) s = (l, { s with to_ := t })) ∨ (j < t ∧ (rTab (bs.take j) s).2.e = 2) := by
  by_cases ht : t ≤ j
  · exact .inl ⟨ht, rTab_go he (getT_eats (h.cut ht hl) hw)⟩
  · exact .inr ⟨by omega, rTab_two he (getT_off h hw ha (by omega))⟩

theorem str_byteL (x : ByteArray) : strOfNums (byteL x) = x := by
  unfold strOfNums byteL
  rw [List.map_map]
  have e : (x.data.toList.map ((fun n : Int => UInt8.ofNat n.toNat) ∘ fun c : UInt8 => (c.toNat : Int))) = x.data.toList := by
    conv => rhs; rw [← List.map_id x.data.toList]
    exact List.map_congr_left fun c _ => by simp
  rw [e]
theorem wordB_bd {s : ByteArray} (h : wordB s = true) : 1 ≤ s.size ∧ s.size ≤ 20 := by
  unfold wordB at h
  rw [Bool.and_eq_true] at h
  exact of_decide_eq_true h.1
theorem newB_word {s : ByteArray} {l : List ByteArray} (h : newB s l = true) : wordB s = true := by
  unfold newB at h
  rw [Bool.and_eq_true] at h
  exact h.1

theorem rText_cut {bs : List Int} {s : RsD} {x : ByteArray} {l : List ByteArray} {t : Int} {j : Nat} (he : s.e = 0) (h : Eats bs s.at_ (textB x) t) (hn : newB x l = true) (ha : s.at_ ≤ j) (hl : j ≤ bs.length) :
    (t ≤ j ∧ rText (bs.take j) s l = (x, { s with at_ := t, to_ := t })) ∨ (j < t ∧ (rText (bs.take j) s l).2.e = 2) := by
  obtain ⟨m, h1, h2⟩ := h.split
  have hw := wordB_bd (newB_word hn)
  have g2 := h2
  obtain ⟨b0, b1, b2, b3⟩ := g2
  rw [byteL_len] at b1
  rcases rNum_cut he h1 (by omega) (by omega) ha hl with ⟨k1, k2⟩ | ⟨k1, k2⟩
  · have e1 : rTake (rNum (bs.take j) s).2 (decide (1 ≤ (rNum (bs.take j) s).1 ∧ (rNum (bs.take j) s).1 ≤ 20)) = { s with at_ := m, to_ := m } := by
      rw [k2, rTake_go (by exact he) (by simp only [decide_eq_true_eq]; omega)]
    unfold rText
    rw [e1, k2]
    dsimp only
    by_cases hj : t ≤ j
    · have e2 : rByt (bs.take j) { s with at_ := m, to_ := m } (x.size : Int) = (x, { s with at_ := m, to_ := t }) := by
        unfold rByt
        rw [if_neg (by simpa using he), if_neg (by rw [List.length_take]; dsimp only; omega)]
        have e3 := (h2.cut hj hl).2.2.2
        dsimp only
        rw [e3, List.take_append_of_le_length (by rw [byteL_len]; omega), List.take_of_length_le (by rw [byteL_len]; omega), str_byteL, b1]
      rw [e2]
      dsimp only
      rw [rTake_go (by exact he) hn]
      exact .inl ⟨hj, rfl⟩
    · have e2 : rByt (bs.take j) { s with at_ := m, to_ := m } (x.size : Int) = (ByteArray.empty, { s with at_ := m, to_ := m, e := 2 }) := by
        unfold rByt
        rw [if_neg (by simpa using he), if_pos (by rw [List.length_take]; dsimp only; omega)]
      rw [e2]
      dsimp only
      rw [rTake_stick (show (2 : Int) ≠ 0 by decide)]
      exact .inr ⟨by omega, rfl⟩
  · refine .inr ⟨by omega, ?_⟩
    unfold rText
    have hne : (rNum (bs.take j) s).2.e ≠ 0 := by rw [k2]; decide
    dsimp only
    rw [rTake_stick hne, rByt_stick hne]
    dsimp only
    rw [rTake_stick hne, k2]
end Go.Proofs.YthaganponmnanaaGreatDoor
namespace Go.Proofs.YthaganponmnanaaGreatDoor
open Go.RowKit

theorem eqB_eq {a b : ByteArray} (h : eqB a b = true) : a = b := by
  unfold eqB at h
  have h2 : a.toList = b.toList := by simpa using h
  rw [ByteArray.toList_eq, ByteArray.toList_eq] at h2
  cases a; cases b
  congr 1
  exact Array.toList_inj.1 h2
theorem plc_at (s : ByteArray) : ∀ l : List ByteArray, plc s l < l.length → l.getD (plc s l) ByteArray.empty = s
  | [], h => by simp at h
  | x :: r, h => by
    unfold plc at h ⊢
    by_cases hx : eqB x s = true
    · rw [if_pos hx]; exact eqB_eq hx
    · rw [if_neg hx] at h ⊢
      exact plc_at s r (by simpa using h)
theorem Files.grow {l : List ByteArray} {s : ByteArray} (h : Files l) (hs : wordB s = true) : Files (filesD s l) := by
  unfold filesD
  split
  · next e =>
    refine ⟨h.1.snoc e, fun x hx => ?_⟩
    rcases List.mem_append.1 hx with g | g
    · exact h.2 x g
    · rw [List.mem_singleton.1 g]; exact hs
  · exact h
theorem filesD_len (s : ByteArray) (l : List ByteArray) : (filesD s l).length ≤ l.length + 1 := by
  unfold filesD
  split
  · simp
  · omega

theorem rFile_cut {bs : List Int} {s : RsD} {x : ByteArray} {t : Int} {j : Nat} (he : s.e = 0) (hw : wordB x = true) (hlen : s.files.length ≤ 12) (h : Eats bs s.at_ (fileB x s.files) t) (ha : s.at_ ≤ j) (hl : j ≤ bs.length) :
    (t ≤ j ∧ rFile (bs.take j) s = (x, { s with at_ := t, to_ := t, files := filesD x s.files })) ∨ (j < t ∧ (rFile (bs.take j) s).2.e = 2) := by
  obtain ⟨m, h1, h2⟩ := h.split
  have hpl := plc_le x s.files
  have g2 := h2
  obtain ⟨b0, b1, b2, b3⟩ := g2
  rcases rNum_cut he h1 (by omega) (by omega) ha hl with ⟨k1, k2⟩ | ⟨k1, k2⟩
  · have e1 : rTake (rNum (bs.take j) s).2 (decide ((rNum (bs.take j) s).1 ≤ (s.files.length : Int))) = { s with at_ := m, to_ := m } := by
      rw [k2, rTake_go (by exact he) (by simp only [decide_eq_true_eq]; omega)]
    unfold rFile
    rw [e1, k2]
    dsimp only
    by_cases hp : plc x s.files = s.files.length
    · rw [if_neg (by omega)]
      rw [if_pos hp] at h2
      have hnew : newB x s.files = true := by unfold newB; rw [hw, hp]; simp
      rcases rText_cut (s := { s with at_ := m, to_ := m }) (by exact he) h2 hnew k1 hl with ⟨a1, a2⟩ | ⟨a1, a2⟩
      · left
        refine ⟨a1, ?_⟩
        rw [a2]
        unfold filesD
        rw [if_pos hp]
      · exact .inr ⟨a1, a2⟩
    · rw [if_pos (by omega)]
      rw [if_neg hp] at h2 b1
      have hm : t = m := by simp at b1; omega
      left
      refine ⟨by omega, ?_⟩
      unfold filesD
      rw [if_neg hp, Int.toNat_natCast, plc_at x s.files (by omega), hm]
  · right
    refine ⟨?_, ?_⟩
    · omega
    · unfold rFile
      have hne : (rNum (bs.take j) s).2.e ≠ 0 := by rw [k2]; decide
      rw [rTake_stick hne]
      split
      · exact k2
      · dsimp only
        rw [rText_stick hne, k2]

theorem rTreeF_cut {bs inst : List Int} {funcs last : Int} {j : Nat} (hl : j ≤ bs.length) (hi : inst.length ≤ 1000) (hf : funcs ≤ 12) : ∀ (tr : List (Int × Int)) (k before : Int) (l : List (Int × Int)) (s : RsD) (t : Int), s.e = 0 → s.to_ = s.at_ → -1 ≤ before →
    Eats bs s.at_ (nodesB tr) t → treeOk funcs inst tr k before = true → s.at_ ≤ j → last + 1 = k + tr.length →
    (t ≤ j ∧ rTreeF (bs.take j) inst funcs last tr.length k before l s = (l ++ tr, { s with at_ := t, to_ := t })) ∨ (j < t ∧ (rTreeF (bs.take j) inst funcs last tr.length k before l s).2.e = 2)
  | [], k, before, l, s, t, he, hto, hb, h, _, ha, _ => by
    have ht : t = s.at_ := by have := h.2.1; simp [nodesB] at this; exact this
    left
    refine ⟨by omega, ?_⟩
    subst ht
    obtain ⟨a1, a2, a3, a4, a5, a6⟩ := s
    dsimp only at hto
    subst hto
    rw [List.append_nil]
    rfl
  | p :: r, k, before, l, s, t, he, hto, hb, h, hok, ha, hlast => by
    unfold treeOk at hok
    rw [Bool.and_eq_true, Bool.and_eq_true] at hok
    obtain ⟨⟨hw, hpc⟩, hr⟩ := hok
    have hw' : 0 ≤ p.1 ∧ p.1 < funcs := by unfold withB at hw; exact of_decide_eq_true hw
    have hpc' : before < p.2 ∧ p.2 < (inst.length : Int) - 1 := by
      unfold pcB at hpc
      rw [Bool.and_eq_true] at hpc
      exact of_decide_eq_true hpc.1
    have hn : nodesB (p :: r) = numB p.1 ++ (numB p.2 ++ nodesB r) := by simp [nodesB]
    rw [hn] at h
    obtain ⟨m1, g1, g2⟩ := h.split
    obtain ⟨m2, g3, g4⟩ := g2.split
    have q2 := g2.2.1
    have q4 := g4.2.1
    have q3 := g3.2.1
    rw [List.length_append] at q2
    have hl2 : ((p :: r).length : Int) = (r.length : Int) + 1 := by simp
    have hcond : k ≤ last ∧ s.e = 0 := ⟨by omega, he⟩
    have es : rTreeF (bs.take j) inst funcs last (p :: r).length k before l s = rTreeF (bs.take j) inst funcs last r.length (k + 1) (rNode (bs.take j) s inst funcs k before).1.2 (l ++ [(rNode (bs.take j) s inst funcs k before).1]) (rNode (bs.take j) s inst funcs k before).2 := by
      show rTreeF (bs.take j) inst funcs last (r.length + 1) k before l s = _
      conv => lhs; unfold rTreeF
      rw [if_pos hcond]
    rw [es]
    rcases rNum_cut he g1 hw'.1 (by omega) ha hl with ⟨k1, k2⟩ | ⟨k1, k2⟩
    · have e1 : rTake (rNum (bs.take j) s).2 (withB (rNum (bs.take j) s).1 funcs) = { s with at_ := m1, to_ := m1 } := by
        rw [k2, rTake_go (by exact he) (by exact hw)]
      rcases rNum_cut (s := { s with at_ := m1, to_ := m1 }) (by exact he) g3 (by omega) (by omega) k1 hl with ⟨k3, k4⟩ | ⟨k3, k4⟩
      · have e2 : rNode (bs.take j) s inst funcs k before = (p, { s with at_ := m2, to_ := m2 }) := by
          unfold rNode
          rw [e1, k2, k4]
          dsimp only
          rw [rTake_go (by exact he) hpc]
        rw [e2]
        have ih := rTreeF_cut (last := last) (funcs := funcs) (inst := inst) hl hi hf r (k + 1) p.2 (l ++ [p]) { s with at_ := m2, to_ := m2 } t (by exact he) rfl (by omega) g4 hr k3 (by omega)
        rcases ih with ⟨a1, a2⟩ | ⟨a1, a2⟩
        · left
          refine ⟨a1, ?_⟩
          rw [a2]
          simp
        · exact .inr ⟨a1, a2⟩
      · have hne : (rNum (bs.take j) { s with at_ := m1, to_ := m1 }).2.e ≠ 0 := by rw [k4]; decide
        have e2 : (rNode (bs.take j) s inst funcs k before).2.e = 2 := by
          unfold rNode
          rw [e1]
          dsimp only
          rw [rTake_stick hne, k4]
        right
        refine ⟨by omega, ?_⟩
        rw [rTreeF_stick _ _ _ _ (by rw [e2]; decide)]
        exact e2
    · have hne : (rNum (bs.take j) s).2.e ≠ 0 := by rw [k2]; decide
      have e2 : (rNode (bs.take j) s inst funcs k before).2.e = 2 := by
        unfold rNode
        rw [rTake_stick hne, rNum_stick hne]
        dsimp only
        rw [rTake_stick hne, k2]
      right
      refine ⟨by omega, ?_⟩
      rw [rTreeF_stick _ _ _ _ (by rw [e2]; decide)]
      exact e2

theorem rEntry_stickA {bs : List Int} {s : RsD} (h : (entA bs s).e ≠ 0) : (entB bs s).e = (entA bs s).e := rFile_stick h
theorem rEntry_stickB {bs : List Int} {s : RsD} {n : Int} (h : (entB bs s).e ≠ 0) : (rEntry bs s n).2.e = (entB bs s).e := by
  have hC : (entC bs s).2 = entB bs s := by unfold entC; rw [rTab_stick h]
  have hCe : (entC bs s).2.e ≠ 0 := by rw [hC]; exact h
  have hD : (entD bs s).e = (entB bs s).e := by
    unfold entD
    show (rTake (entC bs s).2 _).e = _
    rw [rTake_stick hCe, hC]
  have hDe : (entD bs s).e ≠ 0 := by rw [hD]; exact h
  have hE : (entE bs s).2 = entD bs s := by unfold entE; rw [rTab_stick hDe]
  have hF : entF bs s = entD bs s := by unfold entF; rw [rTake_stick (by rw [hE]; exact hDe), hE]
  show (rTree bs (entF bs s) (entE bs s).1 n).2.e = _
  rw [hF]
  unfold rTree
  rw [rTreeF_stick _ _ _ _ hDe]
  exact hD
theorem rEntry_stickC {bs : List Int} {s : RsD} {n : Int} (h : (entC bs s).2.e ≠ 0) : (rEntry bs s n).2.e = (entC bs s).2.e := by
  have hD : (entD bs s).e = (entC bs s).2.e := by
    unfold entD
    show (rTake (entC bs s).2 _).e = _
    rw [rTake_stick h]
  have hDe : (entD bs s).e ≠ 0 := by rw [hD]; exact h
  have hE : (entE bs s).2 = entD bs s := by unfold entE; rw [rTab_stick hDe]
  have hF : entF bs s = entD bs s := by unfold entF; rw [rTake_stick (by rw [hE]; exact hDe), hE]
  show (rTree bs (entF bs s) (entE bs s).1 n).2.e = _
  rw [hF]
  unfold rTree
  rw [rTreeF_stick _ _ _ _ hDe]
  exact hD
theorem rEntry_stickE {bs : List Int} {s : RsD} {n : Int} (h : (entE bs s).2.e ≠ 0) : (rEntry bs s n).2.e = (entE bs s).2.e := by
  have hF : entF bs s = (entE bs s).2 := by unfold entF; rw [rTake_stick h]
  show (rTree bs (entF bs s) (entE bs s).1 n).2.e = _
  rw [hF]
  unfold rTree
  rw [rTreeF_stick _ _ _ _ h]
end Go.Proofs.YthaganponmnanaaGreatDoor
namespace Go.Proofs.YthaganponmnanaaGreatDoor
open Go.RowKit

theorem unroll_sum : ∀ (l : List (Int × Int)) (b : Int), wfN l b → ((unroll l).length : Int) = sumS l
  | [], _, _ => rfl
  | p :: t, b, h => by
    have ih := unroll_sum t p.1 h.2.2.2
    have := h.2.2.1
    show (((p :: t).flatMap fun p => List.replicate p.2.toNat p.1).length : Int) = p.2 + sumS t
    rw [List.flatMap_cons, List.length_append, List.length_replicate]
    unfold unroll at ih
    omega

theorem rEntry_cut {bs : List Int} {s : RsD} {x : EntD} {n t : Int} {j : Nat} (he : s.e = 0) (hn : n ≤ 12) (hlen : s.files.length ≤ 12) (hok : entOk n x s.names s.room = true)
    (h : Eats bs s.at_ (entB' x s.files) t) (ha : s.at_ ≤ j) (hl : j ≤ bs.length) :
    (t ≤ j ∧ rEntry (bs.take j) s n = (x, ⟨t, t, 0, s.names ++ [x.name], filesD x.file s.files, s.room - sumS x.lines⟩)) ∨ (j < t ∧ (rEntry (bs.take j) s n).2.e = 2) := by
  obtain ⟨o1, o2, o3, o4, o5, o6, o7, o8⟩ := entOk_parts hok
  unfold entB' at h
  obtain ⟨m1, g1, h⟩ := h.split
  obtain ⟨m2, g2, h⟩ := h.split
  obtain ⟨m3, g3, h⟩ := h.split
  obtain ⟨m4, g4, g5⟩ := h.split
  have q1 := g1.2.1
  have q2 := g2.2.1
  have q3 := g3.2.1
  have q4 := g4.2.1
  have q5 := g5.2.1
  rcases rText_cut he g1 o1 ha hl with ⟨a1, a2⟩ | ⟨a1, a2⟩
  · have hA : entA (bs.take j) s = { s with at_ := m1, to_ := m1, names := s.names ++ [x.name] } := by unfold entA; rw [a2]
    rcases rFile_cut (s := { s with at_ := m1, to_ := m1, names := s.names ++ [x.name] }) (by exact he) o2 (by exact hlen) g2 a1 hl with ⟨b1, b2⟩ | ⟨b1, b2⟩
    · have hB : entB (bs.take j) s = { s with at_ := m2, to_ := m2, names := s.names ++ [x.name], files := filesD x.file s.files } := by unfold entB; rw [hA, b2]
      rcases rTab_cut (s := { s with at_ := m2, to_ := m2, names := s.names ++ [x.name], files := filesD x.file s.files }) (by exact he) g3 o3 b1 hl with ⟨c1, c2⟩ | ⟨c1, c2⟩
      · have hC : entC (bs.take j) s = (x.lines, { s with at_ := m2, to_ := m3, names := s.names ++ [x.name], files := filesD x.file s.files }) := by unfold entC; rw [hB, c2]
        have hD : entD (bs.take j) s = { s with at_ := m3, to_ := m3, names := s.names ++ [x.name], files := filesD x.file s.files, room := s.room - sumS x.lines } := by
          unfold entD
          rw [hC, hB]
          dsimp only
          rw [rTake_go (by exact he) o5]
        rcases rTab_cut (s := { s with at_ := m3, to_ := m3, names := s.names ++ [x.name], files := filesD x.file s.files, room := s.room - sumS x.lines }) (by exact he) g4 o4 c1 hl with ⟨d1, d2⟩ | ⟨d1, d2⟩
        · have hE : entE (bs.take j) s = (x.index, { s with at_ := m3, to_ := m4, names := s.names ++ [x.name], files := filesD x.file s.files, room := s.room - sumS x.lines }) := by unfold entE; rw [hD, d2]
          have hF : entF (bs.take j) s = { s with at_ := m4, to_ := m4, names := s.names ++ [x.name], files := filesD x.file s.files, room := s.room - sumS x.lines } := by
            unfold entF
            rw [hE, hC]
            dsimp only
            rw [rTake_go (by exact he) (by rw [o6]; simp)]
          have hwx := (wfT_iff x.index).1 o4
          have hul := unroll_sum x.index (-1) hwx.1.1
          have hm : (mostT x.index).toNat = x.tree.length := by omega
          have ht := rTreeF_cut (last := mostT x.index) hl (inst := unroll x.index) (by have := hwx.1.2; omega) hn x.tree 1 (-1) [] { s with at_ := m4, to_ := m4, names := s.names ++ [x.name], files := filesD x.file s.files, room := s.room - sumS x.lines } t (by exact he) rfl (by omega) g5 o8 d1 (by omega)
          have hT : rTree (bs.take j) (entF (bs.take j) s) (entE (bs.take j) s).1 n = rTreeF (bs.take j) (unroll x.index) n (mostT x.index) x.tree.length 1 (-1) [] { s with at_ := m4, to_ := m4, names := s.names ++ [x.name], files := filesD x.file s.files, room := s.room - sumS x.lines } := by
            unfold rTree
            rw [hE, hF]
            dsimp only
            rw [hm]
          rcases ht with ⟨t1, t2⟩ | ⟨t1, t2⟩
          · left
            refine ⟨t1, ?_⟩
            unfold rEntry
            rw [hT, t2, a2, hA, b2, hC, hE]
            dsimp only
            rw [he]
            rfl
          · right
            refine ⟨t1, ?_⟩
            show (rTree (bs.take j) (entF (bs.take j) s) (entE (bs.take j) s).1 n).2.e = 2
            rw [hT]
            exact t2
        · have hE : (entE (bs.take j) s).2.e = 2 := by unfold entE; rw [hD]; exact d2
          right
          refine ⟨by omega, ?_⟩
          rw [rEntry_stickE (by rw [hE]; decide), hE]
      · have hC : (entC (bs.take j) s).2.e = 2 := by unfold entC; rw [hB]; exact c2
        right
        refine ⟨by omega, ?_⟩
        rw [rEntry_stickC (by rw [hC]; decide), hC]
    · have hB : (entB (bs.take j) s).e = 2 := by unfold entB; rw [hA]; exact b2
      right
      refine ⟨by omega, ?_⟩
      rw [rEntry_stickB (by rw [hB]; decide), hB]
  · have hA : (entA (bs.take j) s).e = 2 := a2
    have hB : (entB (bs.take j) s).e = 2 := by rw [rEntry_stickA (by rw [hA]; decide), hA]
    right
    refine ⟨by omega, ?_⟩
    rw [rEntry_stickB (by rw [hB]; decide), hB]

theorem rEnts_halt (bs : List Int) (n : Int) (f : Nat) (l : List EntD) (s : RsD) (h : s.e ≠ 0) : rEnts bs n f l s = (l, s) := by
  cases f with
  | zero => rfl
  | succ f => unfold rEnts; rw [if_neg h]

theorem rEnts_cut {bs : List Int} {n : Int} {j : Nat} (hn : n ≤ 12) (hl : j ≤ bs.length) : ∀ (l acc : List EntD) (s : RsD) (t : Int), s.e = 0 → Files s.files → s.files.length + l.length ≤ 12 → wfIF n l s.names s.room = true →
    Eats bs s.at_ (encF l s.files) t → s.at_ ≤ j →
    (t ≤ j ∧ ∃ s', rEnts (bs.take j) n l.length acc s = (acc ++ l, s') ∧ s'.e = 0 ∧ s'.at_ = t) ∨ (j < t ∧ (rEnts (bs.take j) n l.length acc s).2.e = 2)
  | [], acc, s, t, he, _, _, _, h, ha => by
    have ht : t = s.at_ := by have := h.2.1; simp [encF] at this; exact this
    left
    exact ⟨by omega, s, by simp [rEnts], he, ht.symm⟩
  | x :: r, acc, s, t, he, hf, hfl, hw, h, ha => by
    unfold wfIF at hw
    rw [Bool.and_eq_true] at hw
    obtain ⟨hok, hw2⟩ := hw
    obtain ⟨o1, o2, o3, o4, o5, o6, o7, o8⟩ := entOk_parts hok
    have hh : encF (x :: r) s.files = entB' x s.files ++ encF r (filesD x.file s.files) := rfl
    rw [hh] at h
    obtain ⟨m, g1, g2⟩ := h.split
    have q2 := g2.2.1
    have es : rEnts (bs.take j) n (x :: r).length acc s = rEnts (bs.take j) n r.length (acc ++ [(rEntry (bs.take j) s n).1]) (rEntry (bs.take j) s n).2 := by
      show rEnts (bs.take j) n (r.length + 1) acc s = _
      conv => lhs; unfold rEnts
      rw [if_pos he]
    rw [es]
    rcases rEntry_cut he hn (by simp at hfl; omega) hok g1 ha hl with ⟨a1, a2⟩ | ⟨a1, a2⟩
    · rw [a2]
      have hfd := filesD_len x.file s.files
      have ih := rEnts_cut hn hl r (acc ++ [x]) ⟨m, m, 0, s.names ++ [x.name], filesD x.file s.files, s.room - sumS x.lines⟩ t rfl (hf.grow o2) (by simp at hfl ⊢; omega) hw2 g2 a1
      rcases ih with ⟨b1, s', b2, b3, b4⟩ | ⟨b1, b2⟩
      · left
        exact ⟨b1, s', by rw [b2]; simp, b3, b4⟩
      · exact .inr ⟨b1, b2⟩
    · right
      refine ⟨by omega, ?_⟩
      rw [rEnts_halt _ _ _ _ _ (by rw [a2]; decide)]
      exact a2

theorem rHead_cut (rest : List Int) (j : Nat) (hl : j ≤ ([85, 70, 1] ++ rest).length) : (3 ≤ j ∧ rHead (([85, 70, 1] ++ rest).take j) rBeg = ⟨3, 0, 0, [], [], 1000⟩) ∨ (j < 3 ∧ (rHead (([85, 70, 1] ++ rest).take j) rBeg).e = 2) := by
  match j, hl with
  | 0, _ => exact .inr ⟨by omega, by simp [rHead, rHeadF]⟩
  | 1, _ => exact .inr ⟨by omega, by simp [rHead, rHeadF]⟩
  | 2, _ => exact .inr ⟨by omega, by simp [rHead, rHeadF]⟩
  | j + 3, _ =>
    refine .inl ⟨by omega, ?_⟩
    simp [rHead, rHeadF, rBeg]

theorem dropHead (a : List Int) : List.drop 3 ([85, 70, 1] ++ a) = a := rfl
/-- Some first bytes of what begins with an image's: all of it is read, or it ends too early. -/
theorem rAll_cut {l : List EntD} (hw : wfI l = true) (post : List Int) (j : Nat) (hl : j ≤ (encI l ++ post).length) :
    ((encI l).length ≤ j ∧ ∃ s', rEnts ((encI l ++ post).take j) (rCnt ((encI l ++ post).take j)).1 (rCnt ((encI l ++ post).take j)).1.toNat [] (rCnt ((encI l ++ post).take j)).2 = (l, s') ∧ s'.e = 0 ∧ s'.at_ = (encI l).length) ∨
    (j < (encI l).length ∧ (rEnts ((encI l ++ post).take j) (rCnt ((encI l ++ post).take j)).1 (rCnt ((encI l ++ post).take j)).1.toNat [] (rCnt ((encI l ++ post).take j)).2).2.e = 2) := by
  unfold wfI at hw
  rw [Bool.and_eq_true] at hw
  obtain ⟨hlen, hw⟩ := hw
  have hlen := of_decide_eq_true hlen
  have hN : ∀ post', encI l ++ post' = [85, 70, 1] ++ ((numB l.length ++ encF l []) ++ post') := fun post' => by unfold encI; rw [List.append_assoc]
  have hel : (encI l).length = 3 + ((numB l.length).length + (encF l []).length) := by unfold encI; simp; omega
  obtain ⟨bs, hbs⟩ : ∃ bs, bs = encI l ++ post := ⟨_, rfl⟩
  rw [← hbs] at hl ⊢
  have hblen : bs.length = (encI l).length + post.length := by rw [hbs, List.length_append]
  have hcb := rHead_cut ((numB l.length ++ encF l []) ++ post) j (by rw [← hN, ← hbs]; exact hl)
  rw [← hN, ← hbs] at hcb
  have hE1 : Eats bs 3 (numB l.length) (3 + (numB l.length).length) := by
    refine ⟨by omega, rfl, by omega, ?_⟩
    have e1 : bs.drop 3 = numB l.length ++ (encF l [] ++ post) := by
      rw [hbs, hN, dropHead]
      exact List.append_assoc _ _ _
    have e2 : bs.drop (3 + ((numB (l.length : Int)).length : Int)).toNat = encF l [] ++ post := by
      have : (3 + ((numB (l.length : Int)).length : Int)).toNat = 3 + (numB l.length).length := by omega
      rw [this, ← List.drop_drop, e1, List.drop_left]
    rw [e2]
    exact e1
  have hE2 : Eats bs (3 + (numB l.length).length) (encF l []) (encI l).length := by
    have e1 : bs.drop 3 = numB l.length ++ (encF l [] ++ post) := by
      rw [hbs, hN, dropHead]
      exact List.append_assoc _ _ _
    refine ⟨by omega, by omega, by omega, ?_⟩
    have h1 : (3 + ((numB (l.length : Int)).length : Int)).toNat = 3 + (numB l.length).length := by omega
    have h3 : bs.drop ((encI l).length : Int).toNat = post := by
      rw [Int.toNat_natCast, hbs]
      exact List.drop_left
    have h4 : bs.drop (3 + (numB (l.length : Int)).length) = encF l [] ++ post := by
      rw [← List.drop_drop, e1]
      exact List.drop_left
    rw [h1, h3]
    exact h4
  clear hN hbs
  have hzero : ∀ s : RsD, s.e ≠ 0 → s.e = 2 → ∀ n f (acc : List EntD), (rEnts (bs.take j) n f acc s).2.e = 2 := fun s h1 h2 n f acc => by rw [rEnts_halt _ _ _ _ _ h1]; exact h2
  rcases hcb with ⟨h3, hH⟩ | ⟨h3, hH⟩
  · have hcnt : rCnt (bs.take j) = ((rNum (bs.take j) ⟨3, 0, 0, [], [], 1000⟩).1, rTake (rNum (bs.take j) ⟨3, 0, 0, [], [], 1000⟩).2 (decide (1 ≤ (rNum (bs.take j) ⟨3, 0, 0, [], [], 1000⟩).1 ∧ (rNum (bs.take j) ⟨3, 0, 0, [], [], 1000⟩).1 ≤ 12))) := by
      unfold rCnt
      rw [hH]
    rcases rNum_cut (s := ⟨3, 0, 0, [], [], 1000⟩) rfl hE1 (by omega) (by omega) (by show (3 : Int) ≤ j; omega) hl with ⟨k1, k2⟩ | ⟨k1, k2⟩
    · have hc2 : rCnt (bs.take j) = ((l.length : Int), ⟨3 + (numB l.length).length, 3 + (numB l.length).length, 0, [], [], 1000⟩) := by
        rw [hcnt, k2]
        dsimp only
        rw [rTake_go rfl (by simp only [decide_eq_true_eq]; omega)]
      rw [hc2]
      dsimp only
      rw [Int.toNat_natCast]
      rcases rEnts_cut (n := l.length) (by omega) hl l [] ⟨3 + (numB l.length).length, 3 + (numB l.length).length, 0, [], [], 1000⟩ _ rfl ⟨fun i k _ hk => by simp at hk, fun x hx => by simp at hx⟩ (by simp; omega) hw hE2 k1 with ⟨a1, s', a2, a3, a4⟩ | ⟨a1, a2⟩
      · exact .inl ⟨by omega, s', by rw [a2]; rfl, a3, a4⟩
      · exact .inr ⟨by omega, a2⟩
    · right
      refine ⟨by omega, ?_⟩
      have hne : (rNum (bs.take j) ⟨3, 0, 0, [], [], 1000⟩).2.e ≠ 0 := by rw [k2]; decide
      have h2 : (rCnt (bs.take j)).2.e = 2 := by rw [hcnt]; dsimp only; rw [rTake_stick hne]; exact k2
      exact hzero _ (by rw [h2]; decide) h2 _ _ _
  · right
    refine ⟨by omega, ?_⟩
    have hne : (rHead (bs.take j) rBeg).e ≠ 0 := by rw [hH]; decide
    have h2 : (rCnt (bs.take j)).2.e = 2 := by
      unfold rCnt
      rw [rNum_stick hne]
      dsimp only
      rw [rTake_stick hne]
      exact hH
    exact hzero _ (by rw [h2]; decide) h2 _ _ _

theorem decI_enc {l : List EntD} (hw : wfI l = true) : decI (encI l) = (l, 0, 0) := by
  have h := rAll_cut hw [] (encI l).length (by simp)
  rw [List.append_nil, List.take_length] at h
  rcases h with ⟨_, s', h1, h2, h3⟩ | ⟨h1, _⟩
  · have hA : rAll (encI l) = (l, s') := by
      unfold rAll
      rw [h1]
      dsimp only
      unfold rEnd
      rw [if_neg (by omega)]
    unfold decI
    rw [hA]
    dsimp only
    rw [if_neg (by simpa using h2)]
  · omega

theorem decI_short {l : List EntD} (hw : wfI l = true) {j : Nat} (hj : j < (encI l).length) : (decI ((encI l).take j)).2.1 = 2 := by
  have h := rAll_cut hw [] j (by simp; omega)
  rw [List.append_nil] at h
  rcases h with ⟨h1, _⟩ | ⟨_, h1⟩
  · omega
  · have hA : (rAll ((encI l).take j)).2.e = 2 := by
      unfold rAll
      dsimp only
      unfold rEnd
      rw [if_neg (by rw [h1]; omega)]
      exact h1
    unfold decI
    rw [if_pos (by rw [hA]; decide)]
    exact hA

theorem decI_more {l : List EntD} (hw : wfI l = true) (x : Int) : decI (encI l ++ [x]) = ([], 8, ((encI l).length : Int)) := by
  have h := rAll_cut hw [x] (encI l ++ [x]).length (Nat.le_refl _)
  rw [List.take_length] at h
  rcases h with ⟨_, s', h1, h2, h3⟩ | ⟨h1, _⟩
  · have hA : rAll (encI l ++ [x]) = (l, { s' with e := 8 }) := by
      unfold rAll
      rw [h1]
      dsimp only
      unfold rEnd
      rw [if_pos ⟨h2, by rw [h3]; simp; omega⟩]
    unfold decI
    rw [hA]
    dsimp only
    rw [if_pos (by decide), h3]
  · simp at h1
    omega
end Go.Proofs.YthaganponmnanaaGreatDoor
