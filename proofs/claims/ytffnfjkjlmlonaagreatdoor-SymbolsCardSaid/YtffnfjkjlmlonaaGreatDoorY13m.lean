/- What the reference's Decode reads of some bytes, as a plain function, and that it is what the developers' reader reads; nothing is claimed of the program here. -/
import Derived.Test.YtffnfjkjlmlonaaGreatDoorY12
import Derived.Test.YtffnfjkjlmlonaaGreatDoorZB7
namespace Go.Proofs.YtffnfjkjlmlonaaGreatDoor
open Go.RowKit
/-- A reader's state and what it read against the reference's place and error. -/
def Agr {α : Type} (r : α × Int × Int) (v : α) (s : RsD) : Prop := s.at_ = r.2.1 ∧ s.e = r.2.2 ∧ (r.2.2 = 0 → v = r.1)
theorem rTake_bad {s : RsD} (h : s.e ≠ 0) (b : Bool) : rTake s b = s := by unfold rTake; rw [if_pos h]
theorem rTake_t {s : RsD} (h : s.e = 0) : rTake s true = { s with at_ := s.to_ } := by unfold rTake; rw [if_neg (by simpa using h), if_pos rfl]
theorem rTake_f {s : RsD} (h : s.e = 0) : rTake s false = { s with e := 8 } := by unfold rTake; rw [if_neg (by simpa using h), if_neg (by simp)]
theorem rNum_bad {bs : List Int} {s : RsD} (h : s.e ≠ 0) : rNum bs s = (0, s) := by unfold rNum; rw [if_pos h]
theorem rTab_bad {bs : List Int} {s : RsD} (h : s.e ≠ 0) : rTab bs s = ([], s) := by unfold rTab; rw [if_pos h]
theorem rByt_bad {bs : List Int} {s : RsD} {n : Int} (h : s.e ≠ 0) : rByt bs s n = (ByteArray.empty, s) := by unfold rByt; rw [if_pos h]
theorem rText_bad {bs : List Int} {s : RsD} (h : s.e ≠ 0) (l : List ByteArray) : (rText bs s l).2 = s := by
  unfold rText
  rw [rNum_bad h]
  simp only
  rw [rTake_bad h, rByt_bad h]
  exact rTake_bad h _
theorem rFile_bad {bs : List Int} {s : RsD} (h : s.e ≠ 0) : (rFile bs s).2.at_ = s.at_ ∧ (rFile bs s).2.e = s.e := by
  unfold rFile
  rw [rNum_bad h]
  simp only
  split
  · rw [rTake_bad h]; exact ⟨rfl, rfl⟩
  · simp only
    rw [rTake_bad h, rText_bad h]; exact ⟨rfl, rfl⟩
theorem rTreeF_bad {bs inst : List Int} {funcs last : Int} : ∀ (f : Nat) (k before : Int) (l : List (Int × Int)) (s : RsD), s.e ≠ 0 → rTreeF bs inst funcs last f k before l s = (l, s)
  | 0, _, _, _, _, _ => rfl
  | f + 1, k, before, l, s, h => by unfold rTreeF; rw [if_neg (fun hh => h hh.2)]
theorem agrN {bs : List Int} {s : RsD} (h : s.e = 0) (lo hi : Int) {b : Bool} (hb : (getN bs s.at_).2.2 = 0 → b = decide (lo ≤ (rNum bs s).1 ∧ (rNum bs s).1 ≤ hi)) :
    Agr (rdN bs s.at_ lo hi) (rNum bs s).1 (rTake (rNum bs s).2 b) := by
  have hn : rNum bs s = ((getN bs s.at_).1, { s with to_ := (getN bs s.at_).2.1, e := (getN bs s.at_).2.2 }) := by unfold rNum; rw [if_neg (by simp [h])]
  rw [hn] at hb ⊢
  simp only at hb ⊢
  by_cases h1 : (getN bs s.at_).2.2 = 0
  · rw [hb h1]
    have e1 : rdN bs s.at_ lo hi = if (getN bs s.at_).1 < lo ∨ hi < (getN bs s.at_).1 then (0, s.at_, 8) else ((getN bs s.at_).1, (getN bs s.at_).2.1, 0) := by
      unfold rdN; rw [if_neg (by simpa using h1)]
    rw [e1]
    by_cases h2 : (getN bs s.at_).1 < lo ∨ hi < (getN bs s.at_).1
    · rw [if_pos h2, show decide (lo ≤ (getN bs s.at_).1 ∧ (getN bs s.at_).1 ≤ hi) = false from decide_eq_false (by omega), rTake_f (by exact h1)]
      exact ⟨rfl, rfl, by simp⟩
    · rw [if_neg h2, show decide (lo ≤ (getN bs s.at_).1 ∧ (getN bs s.at_).1 ≤ hi) = true from decide_eq_true (by omega), rTake_t (by exact h1)]
      exact ⟨rfl, h1, fun _ => rfl⟩
  · unfold rdN Agr
    rw [rTake_bad (by exact h1), if_pos h1]
    exact ⟨rfl, rfl, fun hh => absurd hh h1⟩
theorem plc_all2 (s : ByteArray) : ∀ l : List ByteArray, (plc s l == l.length) = l.all (fun x => !eqB x s)
  | [] => rfl
  | x :: r => by
    unfold plc
    have ih := plc_all2 s r
    have hle := plc_le s r
    by_cases h : eqB x s = true
    · rw [if_pos h]; simp [h]
    · rw [if_neg h]
      simp only [List.length_cons, List.all_cons]
      rw [show eqB x s = false by simpa using h]
      simp only [Bool.not_false, Bool.true_and]
      rw [← ih]
      by_cases h2 : plc s r = r.length
      · simp [h2]
      · simp
theorem agrTx {bs : List Int} {s : RsD} (h : s.e = 0) (l : List ByteArray) : Agr (rdTx bs s.at_ l) (rText bs s l).1 (rText bs s l).2 := by
  obtain ⟨q1, q2, q3⟩ := agrN (bs := bs) h 1 20 (b := decide (1 ≤ (rNum bs s).1 ∧ (rNum bs s).1 ≤ 20)) (fun _ => rfl)
  unfold rText rdTx
  obtain ⟨q, hq⟩ : ∃ v, v = rTake (rNum bs s).2 (decide (1 ≤ (rNum bs s).1 ∧ (rNum bs s).1 ≤ 20)) := ⟨_, rfl⟩
  rw [← hq] at q1 q2 ⊢
  by_cases hz : (rdN bs s.at_ 1 20).2.2 = 0
  · rw [if_neg (by simp [hz])]
    have hv := q3 hz
    rw [hv]
    have hqe : q.e = 0 := q2.trans hz
    obtain ⟨p, hp⟩ : ∃ v, v = rdN bs s.at_ 1 20 := ⟨_, rfl⟩
    rw [← hp] at q1 ⊢
    unfold rByt
    rw [if_neg (show ¬ q.e ≠ 0 by simpa using hqe), q1]
    by_cases h2 : (bs.length : Int) < p.2.1 + p.1
    · rw [if_pos (show (bs.length : Int) - p.2.1 < p.1 by omega), if_pos h2, rTake_bad (by simp)]
      exact ⟨rfl, rfl, by simp⟩
    · rw [if_neg (show ¬ (bs.length : Int) - p.2.1 < p.1 by omega), if_neg h2]
      simp only
      unfold newB
      rw [plc_all2]
      by_cases h3 : (wordB (strOfNums ((bs.drop p.2.1.toNat).take p.1.toNat)) && l.all (fun x => !eqB x (strOfNums ((bs.drop p.2.1.toNat).take p.1.toNat)))) = true
      · rw [if_pos h3, h3, rTake_t (by exact hqe)]
        exact ⟨rfl, hqe, fun _ => rfl⟩
      · rw [if_neg h3, show (wordB (strOfNums ((bs.drop p.2.1.toNat).take p.1.toNat)) && l.all (fun x => !eqB x (strOfNums ((bs.drop p.2.1.toNat).take p.1.toNat)))) = false by simpa using h3, rTake_f (by exact hqe)]
        exact ⟨rfl, rfl, by simp⟩
  · have hqe : q.e ≠ 0 := by rw [q2]; exact hz
    rw [rByt_bad hqe, if_pos hz]
    simp only
    rw [rTake_bad hqe]
    exact ⟨q1, q2, fun hh => absurd hh hz⟩
theorem agrFl {bs : List Int} (hx : ∀ j, 0 ≤ bs.getD j 0 ∧ bs.getD j 0 ≤ 255) {s : RsD} (h : s.e = 0) : Agr (rdFl bs s.at_ s.files) (rFile bs s).1 (rFile bs s).2 := by
  have hn0 : (getN bs s.at_).2.2 = 0 → 0 ≤ (rNum bs s).1 := by
    intro h1
    unfold rNum; rw [if_neg (by simp [h])]
    exact (getN_inv bs hx s.at_ h1).2.1
  obtain ⟨q1, q2, q3⟩ := agrN (bs := bs) h 0 s.files.length (b := decide ((rNum bs s).1 ≤ (s.files.length : Int))) (fun h1 => by have := hn0 h1; simp [this])
  have hfl : (rTake (rNum bs s).2 (decide ((rNum bs s).1 ≤ (s.files.length : Int)))).files = s.files := by rw [(rTake_nf _ _).2.1, (rNum_nf bs s).2.1]
  unfold rFile rdFl
  obtain ⟨q, hq⟩ : ∃ v, v = rTake (rNum bs s).2 (decide ((rNum bs s).1 ≤ (s.files.length : Int))) := ⟨_, rfl⟩
  rw [← hq] at q1 q2 hfl ⊢
  by_cases hz : (rdN bs s.at_ 0 s.files.length).2.2 = 0
  · rw [if_neg (by simp [hz])]
    have hv := q3 hz
    have hbd := rdN_bd bs s.at_ 0 s.files.length hz
    rw [hv]
    have hqe : q.e = 0 := q2.trans hz
    by_cases h2 : (rdN bs s.at_ 0 s.files.length).1 = s.files.length
    · rw [if_neg (show ¬ (rdN bs s.at_ 0 s.files.length).1 < (s.files.length : Int) by omega), if_pos h2]
      have := agrTx (bs := bs) hqe s.files
      rw [q1] at this
      exact this
    · rw [if_pos (show (rdN bs s.at_ 0 s.files.length).1 < (s.files.length : Int) by omega), if_neg h2]
      exact ⟨q1, hqe, fun _ => rfl⟩
  · have hqe : q.e ≠ 0 := by rw [q2]; exact hz
    rw [if_pos hz]
    split
    · exact ⟨q1, q2, fun hh => absurd hh hz⟩
    · simp only
      refine ⟨?_, ?_, fun hh => absurd hh hz⟩
      · simp only; rw [rText_bad hqe]; exact q1
      · simp only; rw [rText_bad hqe]; exact q2
theorem agrTb {bs : List Int} {s : RsD} (h : s.e = 0) : (rTab bs s).1 = (getT bs s.at_).1 ∧ (rTab bs s).2 = { s with to_ := (getT bs s.at_).2.1, e := (getT bs s.at_).2.2 } := by
  unfold rTab; rw [if_neg (by simp [h])]; exact ⟨rfl, rfl⟩
theorem unroll_sum2 : ∀ (l : List (Int × Int)) (b r : Int), wfS l b r = true → ((unroll l).length : Int) = sumS l ∧ (unroll l).all (fun x => x != 0) = l.all (fun p => !(p.1 == 0))
  | [], _, _, _ => ⟨rfl, rfl⟩
  | p :: t, b, r, h => by
    unfold wfS at h
    split at h
    · exact absurd h (by simp)
    · split at h
      · exact absurd h (by simp)
      · rename_i h2
        obtain ⟨i1, i2⟩ := unroll_sum2 t _ _ h
        have hu : unroll (p :: t) = List.replicate p.2.toNat p.1 ++ unroll t := by simp [unroll]
        refine ⟨?_, ?_⟩
        · rw [hu, List.length_append, List.length_replicate]; unfold sumS; omega
        · rw [hu, List.all_append, i2, List.all_cons]
          congr 1
          rw [List.all_replicate, if_neg (by omega)]
          rfl
theorem agrLn {bs : List Int} (hx : ∀ j, 0 ≤ bs.getD j 0 ∧ bs.getD j 0 ≤ 255) {s : RsD} (h : s.e = 0) {all : Int} (hr : s.room = 1000 - all) :
    Agr (rdLn bs s.at_ all) (unroll (rTab bs s).1) (rTake (rTab bs s).2 (linesB (rTab bs s).1 s.room)) ∧ ((rdLn bs s.at_ all).2.2 = 0 → (rTab bs s).1 = (rdTb bs s.at_).1) := by
  obtain ⟨t1, t2⟩ := agrTb (bs := bs) h
  rw [t1, t2]
  have hwf := rdTb_wf bs hx s.at_
  unfold rdLn
  by_cases h1 : (getT bs s.at_).2.2 = 0
  · have hd : rdTb bs s.at_ = ((getT bs s.at_).1, (getT bs s.at_).2.1, 0) := by unfold rdTb; rw [if_neg (by simp [h1])]
    rw [hd] at hwf ⊢
    simp only at hwf ⊢
    obtain ⟨u1, u2⟩ := unroll_sum2 _ _ _ hwf
    rw [if_neg (by simp)]
    have hc : linesB (getT bs s.at_).1 s.room = (decide (all + ((unroll (getT bs s.at_).1).length : Int) ≤ 1000) && (unroll (getT bs s.at_).1).all (fun x => x != 0)) := by
      unfold linesB
      rw [u2, u1, hr, Bool.and_comm]
      congr 1
      exact decide_eq_decide.mpr (by omega)
    rw [hc]
    by_cases h3 : (decide (all + ((unroll (getT bs s.at_).1).length : Int) ≤ 1000) && (unroll (getT bs s.at_).1).all (fun x => x != 0)) = true
    · rw [if_pos h3, h3, rTake_t (by exact h1)]
      exact ⟨⟨rfl, h1, fun _ => rfl⟩, fun _ => trivial⟩
    · rw [if_neg h3, show (decide (all + ((unroll (getT bs s.at_).1).length : Int) ≤ 1000) && (unroll (getT bs s.at_).1).all (fun x => x != 0)) = false by simpa using h3, rTake_f (by exact h1)]
      exact ⟨⟨rfl, rfl, by simp⟩, by simp⟩
  · have hd : rdTb bs s.at_ = ([], s.at_, (getT bs s.at_).2.2) := by unfold rdTb; rw [if_pos h1]
    rw [hd]
    simp only
    rw [if_pos h1, rTake_bad (by exact h1)]
    exact ⟨⟨rfl, rfl, fun hh => absurd hh h1⟩, fun hh => absurd hh h1⟩
theorem agrIx {bs : List Int} (hx : ∀ j, 0 ≤ bs.getD j 0 ∧ bs.getD j 0 ≤ 255) {s : RsD} (h : s.e = 0) {lines : List (Int × Int)} (hl : wfS lines (-1) 1000 = true) :
    ((rdTb bs s.at_).2.2 ≠ 0 → (rTake (rTab bs s).2 (sumS (rTab bs s).1 == sumS lines)).at_ = (rdTb bs s.at_).2.1 ∧ (rTake (rTab bs s).2 (sumS (rTab bs s).1 == sumS lines)).e = (rdTb bs s.at_).2.2) ∧
    ((rdTb bs s.at_).2.2 = 0 → (unroll (rdTb bs s.at_).1).length ≠ (unroll lines).length → (rTake (rTab bs s).2 (sumS (rTab bs s).1 == sumS lines)).at_ = s.at_ ∧ (rTake (rTab bs s).2 (sumS (rTab bs s).1 == sumS lines)).e = 8) ∧
    ((rdTb bs s.at_).2.2 = 0 → (unroll (rdTb bs s.at_).1).length = (unroll lines).length → (rTake (rTab bs s).2 (sumS (rTab bs s).1 == sumS lines)).at_ = (rdTb bs s.at_).2.1 ∧ (rTake (rTab bs s).2 (sumS (rTab bs s).1 == sumS lines)).e = 0 ∧ (rTab bs s).1 = (rdTb bs s.at_).1) := by
  obtain ⟨t1, t2⟩ := agrTb (bs := bs) h
  rw [t1, t2]
  have hwf := rdTb_wf bs hx s.at_
  obtain ⟨l1, _⟩ := unroll_sum2 _ _ _ hl
  by_cases h1 : (getT bs s.at_).2.2 = 0
  · have hd : rdTb bs s.at_ = ((getT bs s.at_).1, (getT bs s.at_).2.1, 0) := by unfold rdTb; rw [if_neg (by simp [h1])]
    rw [hd] at hwf ⊢
    simp only at hwf ⊢
    obtain ⟨u1, _⟩ := unroll_sum2 _ _ _ hwf
    refine ⟨by simp, fun _ hne => ?_, fun _ heq => ?_⟩
    · rw [show (sumS (getT bs s.at_).1 == sumS lines) = false by simp; omega, rTake_f (by exact h1)]
      exact ⟨rfl, rfl⟩
    · rw [show (sumS (getT bs s.at_).1 == sumS lines) = true by simp; omega, rTake_t (by exact h1)]
      exact ⟨rfl, h1, trivial⟩
  · have hd : rdTb bs s.at_ = ([], s.at_, (getT bs s.at_).2.2) := by unfold rdTb; rw [if_pos h1]
    rw [hd]
    simp only
    refine ⟨fun _ => ?_, fun hh => absurd hh h1, fun hh => absurd hh h1⟩
    rw [rTake_bad (by exact h1)]
    exact ⟨rfl, rfl⟩
theorem agrTrF {bs : List Int} (hx : ∀ j, 0 ≤ bs.getD j 0 ∧ bs.getD j 0 ≤ 255) (inst : List Int) (funcs last : Int) : ∀ (f : Nat) (k before : Int) (l : List (Int × Int)) (s : RsD), s.e = 0 → last + 1 - k = f →
    Agr (rdTrF bs inst funcs f k before l s.at_) (rTreeF bs inst funcs last f k before l s).1 (rTreeF bs inst funcs last f k before l s).2
  | 0, k, before, l, s, h, _ => ⟨rfl, h, fun _ => rfl⟩
  | f + 1, k, before, l, s, h, hf => by
    unfold rTreeF rdTrF
    rw [if_pos (show k ≤ last ∧ s.e = 0 from ⟨by omega, h⟩)]
    obtain ⟨q1, q2, q3⟩ := agrN (bs := bs) h 0 (funcs - 1) (b := withB (rNum bs s).1 funcs) (fun _ => by unfold withB; exact decide_eq_decide.mpr (by omega))
    unfold rNode
    obtain ⟨q, hq⟩ : ∃ v, v = rTake (rNum bs s).2 (withB (rNum bs s).1 funcs) := ⟨_, rfl⟩
    rw [← hq] at q1 q2 ⊢
    simp only
    by_cases hz : (rdN bs s.at_ 0 (funcs - 1)).2.2 = 0
    · rw [if_neg (by simp [hz])]
      have hv := q3 hz
      have hbd := rdN_bd bs s.at_ 0 (funcs - 1) hz
      have hqe : q.e = 0 := q2.trans hz
      rw [hv, ← q1]
      have hn : rNum bs q = ((getN bs q.at_).1, { q with to_ := (getN bs q.at_).2.1, e := (getN bs q.at_).2.2 }) := by unfold rNum; rw [if_neg (by simp [hqe])]
      rw [hn]
      simp only
      by_cases hy : (getN bs q.at_).2.2 = 0
      · have hi := (getN_inv bs hx q.at_ hy).2
        have hd : rdN bs q.at_ 0 2147483647 = ((getN bs q.at_).1, (getN bs q.at_).2.1, 0) := by
          unfold rdN; rw [if_neg (by simp [hy]), if_neg (by omega)]
        rw [hd]
        simp only
        rw [if_neg (by simp), show withB (rdN bs s.at_ 0 (funcs - 1)).1 funcs = true by unfold withB; simp; omega, Bool.true_and]
        by_cases hp : pcB (getN bs q.at_).1 before k inst = true
        · rw [if_pos hp, hp]
          have ht : rTake { q with to_ := (getN bs q.at_).2.1, e := (getN bs q.at_).2.2 } true = { q with at_ := (getN bs q.at_).2.1, to_ := (getN bs q.at_).2.1, e := (getN bs q.at_).2.2 } := by
            rw [rTake_t (by exact hy)]
          rw [ht]
          exact agrTrF hx inst funcs last f (k + 1) (getN bs q.at_).1 _ { q with at_ := (getN bs q.at_).2.1, to_ := (getN bs q.at_).2.1, e := (getN bs q.at_).2.2 } hy (by omega)
        · rw [if_neg hp, show pcB (getN bs q.at_).1 before k inst = false by simpa using hp]
          have ht : rTake { q with to_ := (getN bs q.at_).2.1, e := (getN bs q.at_).2.2 } false = { q with to_ := (getN bs q.at_).2.1, e := 8 } := by
            rw [rTake_f (by exact hy)]
          rw [ht, rTreeF_bad _ _ _ _ _ (by simp)]
          exact ⟨rfl, rfl, by simp⟩
      · have hd : rdN bs q.at_ 0 2147483647 = (0, q.at_, (getN bs q.at_).2.2) := by
          unfold rdN; rw [if_pos hy]
        rw [hd]
        simp only
        rw [if_pos hy, rTake_bad (by exact hy), rTreeF_bad _ _ _ _ _ (by exact hy)]
        exact ⟨rfl, rfl, fun hh => absurd hh hy⟩
    · have hqe : q.e ≠ 0 := by rw [q2]; exact hz
      rw [if_pos hz, rNum_bad hqe]
      simp only
      rw [rTake_bad hqe, rTreeF_bad _ _ _ _ _ hqe]
      exact ⟨q1, q2, fun hh => absurd hh hz⟩
theorem agrTr {bs : List Int} (hx : ∀ j, 0 ≤ bs.getD j 0 ∧ bs.getD j 0 ≤ 255) {s : RsD} (h : s.e = 0) {index : List (Int × Int)} (hw : wfS index (-1) 1000 = true) (funcs : Int) :
    Agr (rdTr bs s.at_ (unroll index) funcs) (rTree bs s index funcs).1 (rTree bs s index funcs).2 := by
  unfold rdTr rTree
  have hm : mostL (unroll index) = mostT index := mostL_unroll index _ _ hw 0
  rw [hm]
  have := mostT_nn index
  exact agrTrF hx (unroll index) funcs (mostT index) (mostT index).toNat 1 (-1) [] s h (by omega)
theorem rTree_bad {bs : List Int} {s : RsD} (h : s.e ≠ 0) (index : List (Int × Int)) (funcs : Int) : (rTree bs s index funcs).2 = s := by
  unfold rTree; rw [rTreeF_bad _ _ _ _ _ h]
theorem rdEn_lines (bs : List Int) (hx : ∀ j, 0 ≤ bs.getD j 0 ∧ bs.getD j 0 ≤ 255) (at_ funcs : Int) (names files : List ByteArray) (all : Int) : wfS (rdEn bs at_ funcs names files all).1.lines (-1) 1000 = true := by
  unfold rdEn
  split
  · rfl
  split
  · rfl
  split
  · rfl
  split
  · rfl
  split
  · rfl
  split
  · rfl
  exact rdTb_wf bs hx _
theorem agrEn {bs : List Int} (hx : ∀ j, 0 ≤ bs.getD j 0 ∧ bs.getD j 0 ≤ 255) {s : RsD} (h : s.e = 0) {all : Int} (hr : s.room = 1000 - all) (n : Int) :
    Agr (rdEn bs s.at_ n s.names s.files all) (rEntry bs s n).1 (rEntry bs s n).2 := by
  obtain ⟨a1, a2, a3⟩ := agrTx (bs := bs) h s.names
  have aA : (entA bs s).at_ = (rText bs s s.names).2.at_ ∧ (entA bs s).e = (rText bs s s.names).2.e ∧ (entA bs s).files = s.files ∧ (entA bs s).room = s.room := by
    unfold entA
    exact ⟨rfl, rfl, (rText_nf bs s s.names).2.1, (rText_nf bs s s.names).2.2⟩
  unfold rdEn rEntry
  by_cases z1 : (rdTx bs s.at_ s.names).2.2 = 0
  · rw [if_neg (by simp [z1])]
    have eA : (entA bs s).e = 0 := aA.2.1.trans (a2.trans z1)
    obtain ⟨b1, b2, b3⟩ := agrFl (bs := bs) hx eA
    rw [aA.2.2.1, aA.1, a1] at b1 b2 b3
    have hB : (entB bs s).at_ = (rFile bs (entA bs s)).2.at_ ∧ (entB bs s).e = (rFile bs (entA bs s)).2.e := ⟨rfl, rfl⟩
    by_cases z2 : (rdFl bs (rdTx bs s.at_ s.names).2.1 s.files).2.2 = 0
    · rw [if_neg (by simp [z2])]
      have eB : (entB bs s).e = 0 := b2.trans z2
      have rB : (entB bs s).room = 1000 - all := by
        unfold entB
        rw [show (rFile bs (entA bs s)).2.room = (entA bs s).room by
          unfold rFile
          split
          · rw [(rTake_nf _ _).2.2, (rNum_nf bs _).2.2]
          · simp only
            rw [(rText_nf bs _ _).2.2, (rTake_nf _ _).2.2, (rNum_nf bs _).2.2]]
        rw [aA.2.2.2, hr]
      obtain ⟨⟨c1, c2, c3⟩, c4⟩ := agrLn (bs := bs) hx eB rB
      have tB : (entB bs s).at_ = (rdFl bs (rdTx bs s.at_ s.names).2.1 s.files).2.1 := b1
      rw [tB] at c1 c2 c3 c4
      have hD : (entD bs s).at_ = (rTake (rTab bs (entB bs s)).2 (linesB (rTab bs (entB bs s)).1 (entB bs s).room)).at_ ∧ (entD bs s).e = (rTake (rTab bs (entB bs s)).2 (linesB (rTab bs (entB bs s)).1 (entB bs s).room)).e := ⟨rfl, rfl⟩
      obtain ⟨p2, hp2⟩ : ∃ v, v = (rdFl bs (rdTx bs s.at_ s.names).2.1 s.files).2.1 := ⟨_, rfl⟩
      rw [← hp2] at c1 c2 c3 c4 tB ⊢
      by_cases z3 : (rdLn bs p2 all).2.2 = 0
      · rw [if_neg (by simp [z3])]
        have eD : (entD bs s).e = 0 := hD.2.trans (c2.trans z3)
        have tD : (entD bs s).at_ = (rdLn bs p2 all).2.1 := hD.1.trans c1
        have lC : (entC bs s).1 = (rdTb bs p2).1 := c4 z3
        have wC : wfS (entC bs s).1 (-1) 1000 = true := by rw [lC]; exact rdTb_wf bs hx _
        obtain ⟨d1, d2, d3⟩ := agrIx (bs := bs) hx eD wC
        rw [tD] at d1 d2 d3
        have l3 : (rdLn bs p2 all).1 = unroll (entC bs s).1 := (c3 z3).symm
        rw [l3]
        obtain ⟨p3, hp3⟩ : ∃ v, v = (rdLn bs p2 all).2.1 := ⟨_, rfl⟩
        rw [← hp3] at d1 d2 d3 tD ⊢
        have hF : entF bs s = rTake (rTab bs (entD bs s)).2 (sumS (rTab bs (entD bs s)).1 == sumS (entC bs s).1) := rfl
        have hE : entE bs s = rTab bs (entD bs s) := rfl
        rw [← hF] at d1 d2 d3
        rw [← hE] at d3
        by_cases z4 : (rdTb bs p3).2.2 = 0
        · rw [if_neg (by simp [z4])]
          by_cases z5 : (unroll (rdTb bs p3).1).length = (unroll (entC bs s).1).length
          · rw [if_neg (by simp [z5])]
            obtain ⟨e1, e2, e3⟩ := d3 z4 z5
            have wE : wfS (entE bs s).1 (-1) 1000 = true := by rw [e3]; exact rdTb_wf bs hx _
            obtain ⟨g1, g2, g3⟩ := agrTr (bs := bs) hx e2 wE n
            rw [e1, e3] at g1 g2 g3
            rw [e3]
            obtain ⟨g, hg⟩ : ∃ v, v = rdTr bs (rdTb bs p3).2.1 (unroll (rdTb bs p3).1) n := ⟨_, rfl⟩
            rw [← hg] at g1 g2 g3 ⊢
            by_cases z6 : g.2.2 = 0
            · rw [if_neg (by simp [z6])]
              refine ⟨g1, g2, fun _ => ?_⟩
              simp only
              rw [a3 z1, b3 z2, lC, g3 z6]
            · rw [if_pos z6]
              exact ⟨g1, g2, fun hh => absurd hh z6⟩
          · rw [if_pos z5]
            obtain ⟨e1, e2⟩ := d2 z4 z5
            simp only
            rw [rTree_bad (by rw [e2]; simp)]
            exact ⟨e1, e2, by simp⟩
        · rw [if_pos z4]
          obtain ⟨e1, e2⟩ := d1 z4
          simp only
          rw [rTree_bad (by rw [e2]; exact z4)]
          exact ⟨e1, e2, fun hh => absurd hh z4⟩
      · rw [if_pos z3]
        have eD : (entD bs s).e ≠ 0 := by rw [hD.2, c2]; exact z3
        have hF : entF bs s = entD bs s := by
          unfold entF entE
          rw [rTab_bad eD]
          exact rTake_bad eD _
        simp only
        rw [hF, rTree_bad eD]
        exact ⟨hD.1.trans c1, hD.2.trans c2, fun hh => absurd hh z3⟩
    · rw [if_pos z2]
      have eB : (entB bs s).e ≠ 0 := by
        have : (entB bs s).e = (rdFl bs (rdTx bs s.at_ s.names).2.1 s.files).2.2 := b2
        rw [this]; exact z2
      have hD : (entD bs s).at_ = (entB bs s).at_ ∧ (entD bs s).e = (entB bs s).e := by
        unfold entD entC
        rw [rTab_bad eB]
        simp only
        rw [rTake_bad eB]
        exact ⟨rfl, rfl⟩
      have eD : (entD bs s).e ≠ 0 := by rw [hD.2]; exact eB
      have hF : entF bs s = entD bs s := by
        unfold entF entE
        rw [rTab_bad eD]
        exact rTake_bad eD _
      simp only
      rw [hF, rTree_bad eD]
      exact ⟨hD.1.trans b1, hD.2.trans b2, fun hh => absurd hh z2⟩
  · rw [if_pos z1]
    have eA : (entA bs s).e ≠ 0 := by rw [aA.2.1, a2]; exact z1
    obtain ⟨b1, b2⟩ := rFile_bad (bs := bs) eA
    have eB : (entB bs s).e ≠ 0 := by
      have : (entB bs s).e = (entA bs s).e := b2
      rw [this]; exact eA
    have hD : (entD bs s).at_ = (entB bs s).at_ ∧ (entD bs s).e = (entB bs s).e := by
      unfold entD entC
      rw [rTab_bad eB]
      simp only
      rw [rTake_bad eB]
      exact ⟨rfl, rfl⟩
    have eD : (entD bs s).e ≠ 0 := by rw [hD.2]; exact eB
    have hF : entF bs s = entD bs s := by
      unfold entF entE
      rw [rTab_bad eD]
      exact rTake_bad eD _
    simp only
    rw [hF, rTree_bad eD]
    exact ⟨hD.1.trans (b1.trans (aA.1.trans a1)), hD.2.trans (b2.trans (aA.2.1.trans a2)), fun hh => absurd hh z1⟩
/-- Is the file of a function none of those ahead? -/
def anewB (l : List EntD) (x : EntD) : Bool := l.all (fun y => !eqB y.file x.file)
/-- The functions of an image, one behind the other. -/
def rdEF (bs : List Int) (n : Int) : Nat → List EntD → List ByteArray → Int → Int → List EntD × Int × Int
  | 0, l, _, _, at_ => (l, at_, 0)
  | f + 1, l, files, all, at_ =>
    if (rdEn bs at_ n (l.map (·.name)) files all).2.2 ≠ 0 then ([], (rdEn bs at_ n (l.map (·.name)) files all).2.1, (rdEn bs at_ n (l.map (·.name)) files all).2.2) else
    rdEF bs n f (l ++ [(rdEn bs at_ n (l.map (·.name)) files all).1]) (if anewB l (rdEn bs at_ n (l.map (·.name)) files all).1 = true then files ++ [(rdEn bs at_ n (l.map (·.name)) files all).1.file] else files)
      (all + (unroll (rdEn bs at_ n (l.map (·.name)) files all).1.lines).length) (rdEn bs at_ n (l.map (·.name)) files all).2.1
theorem rEnts_bad {bs : List Int} {n : Int} : ∀ (f : Nat) (l : List EntD) (s : RsD), s.e ≠ 0 → rEnts bs n f l s = (l, s)
  | 0, _, _, _ => rfl
  | f + 1, l, s, h => by unfold rEnts; rw [if_neg h]
theorem agrEF {bs : List Int} (hx : ∀ j, 0 ≤ bs.getD j 0 ∧ bs.getD j 0 ≤ 255) (n : Int) : ∀ (f : Nat) (l : List EntD) (s : RsD) (all : Int), s.e = 0 → s.names = l.map (·.name) → Files s.files → (∀ t, s.files.all (fun x => !eqB x t) = l.all (fun y => !eqB y.file t)) → s.room = 1000 - all →
    Agr (rdEF bs n f l s.files all s.at_) (rEnts bs n f l s).1 (rEnts bs n f l s).2
  | 0, l, s, all, h, _, _, _, _ => ⟨rfl, h, fun _ => rfl⟩
  | f + 1, l, s, all, h, hn, hf, hs, hr => by
    obtain ⟨a1, a2, a3⟩ := agrEn (bs := bs) hx h hr n
    have hl := rdEn_lines bs hx s.at_ n s.names s.files all
    unfold rEnts rdEF
    rw [if_pos h]
    rw [hn] at a1 a2 a3 hl
    obtain ⟨r, hrr⟩ : ∃ v, v = rdEn bs s.at_ n (l.map (·.name)) s.files all := ⟨_, rfl⟩
    rw [← hrr] at a1 a2 a3 hl ⊢
    by_cases z : r.2.2 = 0
    · rw [if_neg (by simp [z])]
      obtain ⟨g1, g2, g3, a, t, g4, g5⟩ := rEntry_ok hx (n := n) hf (a2.trans z)
      have hv := a3 z
      rw [hv] at g3 g4 ⊢
      have hat : (rEntry bs s n).2.at_ = r.2.1 := a1
      have hpl : plc r.1.file s.files = s.files.length ↔ anewB l r.1 = true := by
        unfold anewB
        rw [← hs, ← plc_all2]
        simp
      have hfd : filesD r.1.file s.files = (if anewB l r.1 = true then s.files ++ [r.1.file] else s.files) := by
        unfold filesD
        by_cases hq : anewB l r.1 = true
        · rw [if_pos (hpl.mpr hq), if_pos hq]
        · rw [if_neg (fun hh => hq (hpl.mp hh)), if_neg hq]
      have hu := (unroll_sum2 _ _ _ hl).1
      have := agrEF hx n f (l ++ [r.1]) (rEntry bs s n).2 (all + (unroll r.1.lines).length) (by rw [g4]) (by rw [g4, hn]; simp) (by rw [g4]; exact g3) (by
        intro t'
        rw [g4]
        simp only
        rw [hfd, List.all_append]
        by_cases hq : anewB l r.1 = true
        · rw [if_pos hq, List.all_append, hs]; simp
        · rw [if_neg hq, hs]
          by_cases hz : eqB r.1.file t' = true
          · have : l.all (fun y => !eqB y.file t') = false := by
              unfold anewB at hq
              rw [Bool.not_eq_true, List.all_eq_false] at hq
              obtain ⟨y, hy, hyy⟩ := hq
              rw [List.all_eq_false]
              refine ⟨y, hy, ?_⟩
              have e1 : eqB y.file r.1.file = true := by simpa using hyy
              have e2 : eqB y.file t' = true := by
                unfold eqB at e1 hz ⊢
                rw [eq_of_beq e1]; exact hz
              simp [e2]
            rw [this]; rfl
          · simp [hz]) (by rw [g4, hr]; simp only; omega)
      rw [g4] at this ⊢
      rw [g4] at hat
      simp only at this hat ⊢
      rw [hfd] at this ⊢
      rw [hat] at this ⊢
      exact this
    · rw [if_pos z, rEnts_bad _ _ _ (by rw [a2]; exact z)]
      exact ⟨a1, a2, fun hh => absurd hh z⟩
/-- Are the first bytes others than an image's? -/
def hdB (bs : List Int) : Bool := (decide (0 < bs.length) && !(bs.getD 0 0 == 85)) || (decide (1 < bs.length) && !(bs.getD 1 0 == 70)) || (decide (2 < bs.length) && !(bs.getD 2 0 == 1))
/-- What the reference's Decode answers: the functions, the error, the place. -/
def rdDec (bs : List Int) : List EntD × Int × Int :=
  if hdB bs = true then ([], 8, 0) else if bs.length < 3 then ([], 2, 0) else
  if (rdN bs 3 1 12).2.2 ≠ 0 then ([], (rdN bs 3 1 12).2.2, (rdN bs 3 1 12).2.1) else
  if (rdEF bs (rdN bs 3 1 12).1 (rdN bs 3 1 12).1.toNat [] [] 0 (rdN bs 3 1 12).2.1).2.2 ≠ 0 then
    ([], (rdEF bs (rdN bs 3 1 12).1 (rdN bs 3 1 12).1.toNat [] [] 0 (rdN bs 3 1 12).2.1).2.2, (rdEF bs (rdN bs 3 1 12).1 (rdN bs 3 1 12).1.toNat [] [] 0 (rdN bs 3 1 12).2.1).2.1) else
  if (rdEF bs (rdN bs 3 1 12).1 (rdN bs 3 1 12).1.toNat [] [] 0 (rdN bs 3 1 12).2.1).2.1 < bs.length then ([], 8, (rdEF bs (rdN bs 3 1 12).1 (rdN bs 3 1 12).1.toNat [] [] 0 (rdN bs 3 1 12).2.1).2.1) else
  ((rdEF bs (rdN bs 3 1 12).1 (rdN bs 3 1 12).1.toNat [] [] 0 (rdN bs 3 1 12).2.1).1, 0, 0)
theorem rHead_is (bs : List Int) : rHead bs rBeg = if hdB bs = true then { rBeg with e := 8 } else if bs.length < 3 then { rBeg with e := 2 } else { rBeg with at_ := 3 } := by
  unfold rHead rHeadF rHeadF rHeadF rHeadF hdB
  by_cases h0 : bs.length ≤ 0
  · rw [if_pos h0, if_neg (by simp; omega), if_pos (by omega)]
  · rw [if_neg h0]
    by_cases g0 : bs.getD 0 0 = 85
    · rw [if_neg (by simpa using g0)]
      by_cases h1 : bs.length ≤ 0 + 1
      · rw [if_pos h1, if_neg (by rw [g0]; simp; omega), if_pos (by omega)]
      · rw [if_neg h1]
        by_cases g1 : bs.getD (0 + 1) 0 = 70
        · rw [if_neg (by simpa using g1)]
          by_cases h2 : bs.length ≤ 0 + 1 + 1
          · rw [if_pos h2, if_neg (by rw [g0, show bs.getD 1 0 = 70 from g1]; simp; omega), if_pos (by omega)]
          · rw [if_neg h2]
            by_cases g2 : bs.getD (0 + 1 + 1) 0 = 1
            · rw [if_neg (by simpa using g2), if_neg (by rw [g0, show bs.getD 1 0 = 70 from g1, show bs.getD 2 0 = 1 from g2]; simp), if_neg (by omega)]
            · rw [if_pos g2, if_pos]
              have g2' : (bs.getD 2 0 == 1) = false := by simpa using g2
              rw [g2']; simp; omega
        · rw [if_pos g1, if_pos]
          have g1' : (bs.getD 1 0 == 70) = false := by simpa using g1
          rw [g1']; simp; omega
    · rw [if_pos g0, if_pos]
      have g0' : (bs.getD 0 0 == 85) = false := by simpa using g0
      rw [g0']; simp; omega
theorem rdDec_is {bs : List Int} (hx : ∀ j, 0 ≤ bs.getD j 0 ∧ bs.getD j 0 ≤ 255) : rdDec bs = decI bs := by
  unfold decI rAll rdDec
  have hh := rHead_is bs
  have bad : ∀ e : Int, e ≠ 0 → rHead bs rBeg = { rBeg with e := e } → rCnt bs = (0, { rBeg with e := e }) := by
    intro e he hr
    unfold rCnt
    rw [hr, rNum_bad (by exact he)]
    simp only
    rw [rTake_bad (by exact he)]
  by_cases h1 : hdB bs = true
  · rw [if_pos h1] at hh ⊢
    rw [bad 8 (by simp) hh]
    rfl
  · rw [if_neg h1] at hh ⊢
    by_cases h2 : bs.length < 3
    · rw [if_pos h2] at hh ⊢
      rw [bad 2 (by simp) hh]
      rfl
    · rw [if_neg h2] at hh ⊢
      have hag : Agr (rdN bs 3 1 12) (rCnt bs).1 (rCnt bs).2 := by
        unfold rCnt
        rw [hh]
        exact agrN (s := { rBeg with at_ := 3 }) rfl 1 12 (fun _ => rfl)
      have hst : (rCnt bs).2.names = [] ∧ (rCnt bs).2.files = [] ∧ (rCnt bs).2.room = 1000 := by
        unfold rCnt
        rw [hh]
        refine ⟨?_, ?_, ?_⟩
        · rw [(rTake_nf _ _).1, (rNum_nf _ _).1]; rfl
        · rw [(rTake_nf _ _).2.1, (rNum_nf _ _).2.1]; rfl
        · rw [(rTake_nf _ _).2.2, (rNum_nf _ _).2.2]; rfl
      obtain ⟨a1, a2, a3⟩ := hag
      by_cases z : (rdN bs 3 1 12).2.2 = 0
      · rw [if_neg (by simp [z])]
        rw [a3 z]
        obtain ⟨b1, b2, b3⟩ := agrEF (bs := bs) hx (rdN bs 3 1 12).1 (rdN bs 3 1 12).1.toNat [] (rCnt bs).2 0 (a2.trans z) hst.1 (by rw [hst.2.1]; exact ⟨fun i j h1 h2 => by simp at h2, fun _ h => absurd h (by simp)⟩) (by intro t; rw [hst.2.1]; rfl) (by rw [hst.2.2]; rfl)
        rw [hst.2.1, a1] at b1 b2 b3
        obtain ⟨q, hq⟩ : ∃ v, v = rEnts bs (rdN bs 3 1 12).1 (rdN bs 3 1 12).1.toNat [] (rCnt bs).2 := ⟨_, rfl⟩
        obtain ⟨r, hr⟩ : ∃ v, v = rdEF bs (rdN bs 3 1 12).1 (rdN bs 3 1 12).1.toNat [] [] 0 (rdN bs 3 1 12).2.1 := ⟨_, rfl⟩
        rw [← hq, ← hr] at b1 b2 b3
        rw [← hq, ← hr]
        by_cases y : r.2.2 = 0
        · rw [if_neg (show ¬ r.2.2 ≠ 0 by simpa using y)]
          have qe : q.2.e = 0 := b2.trans y
          by_cases x : r.2.1 < bs.length
          · have e1 : rEnd bs q.2 = { q.2 with e := 8 } := by unfold rEnd; rw [if_pos ⟨qe, by rw [b1]; exact x⟩]
            rw [if_pos x, e1]
            simp only
            rw [if_pos (by simp), b1]
          · have e1 : rEnd bs q.2 = q.2 := by unfold rEnd; rw [if_neg (fun hh => x (by have := hh.2; rw [b1] at this; exact this))]
            rw [if_neg x, e1, if_neg (show ¬ q.2.e ≠ 0 by simpa using qe), b3 y]
        · have qe : q.2.e ≠ 0 := by rw [b2]; exact y
          have e1 : rEnd bs q.2 = q.2 := by unfold rEnd; rw [if_neg (fun hh => qe hh.1)]
          rw [if_pos y, e1, if_pos qe, b1, b2]
      · rw [if_pos z]
        have he : (rCnt bs).2.e ≠ 0 := by rw [a2]; exact z
        rw [rEnts_bad _ _ _ he]
        have e1 : rEnd bs (rCnt bs).2 = (rCnt bs).2 := by unfold rEnd; rw [if_neg (fun hh => he hh.1)]
        simp only
        rw [e1, if_pos he, a1, a2]
end Go.Proofs.YtffnfjkjlmlonaaGreatDoor
