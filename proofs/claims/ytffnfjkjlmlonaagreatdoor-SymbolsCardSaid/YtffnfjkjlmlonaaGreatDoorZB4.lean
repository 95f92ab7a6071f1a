/- Images as plain data, how they lie in memory, and what Decode reads of some bytes, as plain functions; nothing is claimed of the program here. Contracts of the developers' small functions of images and tables that only read: image.countMayBe, funcMayBe, placeOf, isNewWord, nodes, linesMayBe, pcMayBe and table.Pcs give the plain functions; nothing that was there is written. -/
import Derived.Test.YtffnfjkjlmlonaaGreatDoorZB3
namespace Go.Proofs.YtffnfjkjlmlonaaGreatDoor
open Go.RowKit
structure EntD where
  name : ByteArray
  file : ByteArray
  lines : List (Int × Int)
  index : List (Int × Int)
  tree : List (Int × Int)
/-- Where a reader is: the place of the next item, the place behind it, the error, what was read, how many pcs are left. -/
structure RsD where
  at_ : Int
  to_ : Int
  e : Int
  names : List ByteArray
  files : List ByteArray
  room : Int
def rTake (s : RsD) (b : Bool) : RsD := if s.e ≠ 0 then s else if b = true then { s with at_ := s.to_ } else { s with e := 8 }
def rNum (bs : List Int) (s : RsD) : Int × RsD := if s.e ≠ 0 then (0, s) else ((getN bs s.at_).1, { s with to_ := (getN bs s.at_).2.1, e := (getN bs s.at_).2.2 })
def rTab (bs : List Int) (s : RsD) : List (Int × Int) × RsD := if s.e ≠ 0 then ([], s) else ((getT bs s.at_).1, { s with to_ := (getT bs s.at_).2.1, e := (getT bs s.at_).2.2 })
def rByt (bs : List Int) (s : RsD) (n : Int) : ByteArray × RsD :=
  if s.e ≠ 0 then (ByteArray.empty, s) else
  if (bs.length : Int) - s.at_ < n then (ByteArray.empty, { s with e := 2 }) else
  (strOfNums ((bs.drop s.at_.toNat).take n.toNat), { s with to_ := s.at_ + n })
/-- Where a text stands in a list. -/
def plc (s : ByteArray) : List ByteArray → Nat
  | [] => 0
  | x :: r => if eqB x s = true then 0 else plc s r + 1
def newB (s : ByteArray) (l : List ByteArray) : Bool := wordB s && plc s l == l.length
def rText (bs : List Int) (s : RsD) (l : List ByteArray) : ByteArray × RsD :=
  ((rByt bs (rTake (rNum bs s).2 (decide (1 ≤ (rNum bs s).1 ∧ (rNum bs s).1 ≤ 20))) (rNum bs s).1).1,
    rTake (rByt bs (rTake (rNum bs s).2 (decide (1 ≤ (rNum bs s).1 ∧ (rNum bs s).1 ≤ 20))) (rNum bs s).1).2 (newB (rByt bs (rTake (rNum bs s).2 (decide (1 ≤ (rNum bs s).1 ∧ (rNum bs s).1 ≤ 20))) (rNum bs s).1).1 l))
def rFile (bs : List Int) (s : RsD) : ByteArray × RsD :=
  if (rNum bs s).1 < (s.files.length : Int) then (s.files.getD (rNum bs s).1.toNat ByteArray.empty, rTake (rNum bs s).2 (decide ((rNum bs s).1 ≤ (s.files.length : Int)))) else
  ((rText bs (rTake (rNum bs s).2 (decide ((rNum bs s).1 ≤ (s.files.length : Int)))) s.files).1,
    { (rText bs (rTake (rNum bs s).2 (decide ((rNum bs s).1 ≤ (s.files.length : Int)))) s.files).2 with files := s.files ++ [(rText bs (rTake (rNum bs s).2 (decide ((rNum bs s).1 ≤ (s.files.length : Int)))) s.files).1] })
def mostT (l : List (Int × Int)) : Int := l.foldl (fun n p => if n < p.1 then p.1 else n) 0
def linesB (l : List (Int × Int)) (room : Int) : Bool := l.all (fun p => !(p.1 == 0)) && decide (sumS l ≤ room)
def pcB (pc before k : Int) (inst : List Int) : Bool := decide (before < pc ∧ pc < (inst.length : Int) - 1) && (decide (inst.getD pc.toNat 0 < k) && inst.getD (pc.toNat + 1) 0 == k)
def rNode (bs : List Int) (s : RsD) (inst : List Int) (funcs k before : Int) : (Int × Int) × RsD :=
  (((rNum bs s).1, (rNum bs (rTake (rNum bs s).2 (withB (rNum bs s).1 funcs))).1),
    rTake (rNum bs (rTake (rNum bs s).2 (withB (rNum bs s).1 funcs))).2 (pcB (rNum bs (rTake (rNum bs s).2 (withB (rNum bs s).1 funcs))).1 before k inst))
def rTreeF (bs : List Int) (inst : List Int) (funcs last : Int) : Nat → Int → Int → List (Int × Int) → RsD → List (Int × Int) × RsD
  | 0, _, _, l, s => (l, s)
  | f + 1, k, before, l, s => if k ≤ last ∧ s.e = 0 then rTreeF bs inst funcs last f (k + 1) (rNode bs s inst funcs k before).1.2 (l ++ [(rNode bs s inst funcs k before).1]) (rNode bs s inst funcs k before).2 else (l, s)
def rTree (bs : List Int) (s : RsD) (index : List (Int × Int)) (funcs : Int) : List (Int × Int) × RsD := rTreeF bs (unroll index) funcs (mostT index) (mostT index).toNat 1 (-1) [] s
def entA (bs : List Int) (s : RsD) : RsD := { (rText bs s s.names).2 with names := s.names ++ [(rText bs s s.names).1] }
def entB (bs : List Int) (s : RsD) : RsD := (rFile bs (entA bs s)).2
def entC (bs : List Int) (s : RsD) : List (Int × Int) × RsD := rTab bs (entB bs s)
def entD (bs : List Int) (s : RsD) : RsD := { rTake (entC bs s).2 (linesB (entC bs s).1 (entB bs s).room) with room := (entB bs s).room - sumS (entC bs s).1 }
def entE (bs : List Int) (s : RsD) : List (Int × Int) × RsD := rTab bs (entD bs s)
def entF (bs : List Int) (s : RsD) : RsD := rTake (entE bs s).2 (sumS (entE bs s).1 == sumS (entC bs s).1)
def rEntry (bs : List Int) (s : RsD) (funcs : Int) : EntD × RsD :=
  (⟨(rText bs s s.names).1, (rFile bs (entA bs s)).1, (entC bs s).1, (entE bs s).1, (rTree bs (entF bs s) (entE bs s).1 funcs).1⟩, (rTree bs (entF bs s) (entE bs s).1 funcs).2)
def rHeadF (bs : List Int) : Nat → List Int → RsD → RsD
  | _, [], s => { s with at_ := 3 }
  | k, c :: r, s => if bs.length ≤ k then { s with e := 2 } else if bs.getD k 0 ≠ c then { s with e := 8 } else rHeadF bs (k + 1) r s
def rHead (bs : List Int) (s : RsD) : RsD := rHeadF bs 0 [85, 70, 1] s
def rEnts (bs : List Int) (n : Int) : Nat → List EntD → RsD → List EntD × RsD
  | 0, l, s => (l, s)
  | f + 1, l, s => if s.e = 0 then rEnts bs n f (l ++ [(rEntry bs s n).1]) (rEntry bs s n).2 else (l, s)
def rEnd (bs : List Int) (s : RsD) : RsD := if s.e = 0 ∧ s.at_ < (bs.length : Int) then { s with e := 8 } else s
def rBeg : RsD := ⟨0, 0, 0, [], [], 1000⟩
def rCnt (bs : List Int) : Int × RsD := ((rNum bs (rHead bs rBeg)).1, rTake (rNum bs (rHead bs rBeg)).2 (decide (1 ≤ (rNum bs (rHead bs rBeg)).1 ∧ (rNum bs (rHead bs rBeg)).1 ≤ 12)))
def rAll (bs : List Int) : List EntD × RsD := ((rEnts bs (rCnt bs).1 (rCnt bs).1.toNat [] (rCnt bs).2).1, rEnd bs (rEnts bs (rCnt bs).1 (rCnt bs).1.toNat [] (rCnt bs).2).2)
/-- What Decode answers: the functions, the error, the place. -/
def decI (bs : List Int) : List EntD × Int × Int := if (rAll bs).2.e ≠ 0 then ([], (rAll bs).2.e, (rAll bs).2.at_) else ((rAll bs).1, 0, 0)
/-- How an entry lies, only read. -/
def RdEnt (w : World) (cs : List Value) (x : EntD) : Prop :=
  ∃ la lcap xa xcap ta tcap, cs = [.string x.name, .string x.file, .slice la x.lines.length lcap, .slice xa x.index.length xcap, .slice ta x.tree.length tcap] ∧
    RdS w la x.lines.length lcap x.lines ∧ RdS w xa x.index.length xcap x.index ∧ RdS w ta x.tree.length tcap x.tree ∧ x.name.size ≤ maxLen ∧ x.file.size ≤ maxLen
def RdI (w : World) (a : Option Addr) (len cap : Nat) (l : List EntD) : Prop := RdL 5 RdEnt w a len cap l
theorem RdEnt.below {w w' : World} {cs : List Value} {x : EntD} (h : RdEnt w cs x) (hb : Below w.heap.size w w') : RdEnt w' cs x := by
  obtain ⟨la, lcap, xa, xcap, ta, tcap, e, h1, h2, h3, h4, h5⟩ := h
  exact ⟨la, lcap, xa, xcap, ta, tcap, e, h1.below hb (Nat.le_refl _), h2.below hb (Nat.le_refl _), h3.below hb (Nat.le_refl _), h4, h5⟩
theorem RdI.below {w w' : World} {a : Option Addr} {len cap : Nat} {l : List EntD} (h : RdI w a len cap l) (hb : Below w.heap.size w w') : RdI w' a len cap l :=
  RdL.below h hb (fun _ _ h => h.below hb)
end Go.Proofs.YtffnfjkjlmlonaaGreatDoor
namespace Go.Proofs.YtffnfjkjlmlonaaGreatDoor
open Go.RowKit
def cntB (n : Int) : Bool := decide (1 ≤ n ∧ n ≤ 12)
set_option maxHeartbeats 400000 in
theorem countMayBe_any (n : Int) (w : World) :
    Calls Tryz.prog 159 #[.int .i64 n] w fun e w' => e = .returned (.bool (cntB n)) ∧ w' = w := by
  by_cases h : 1 ≤ n
  · have E : Hid (cntB n = decide (n ≤ 12)) := by show _ = _; simp [cntB, h]
    go_enter Tryz.func159, Tryz.ntmps159
    go_wp2
    go_ret
    exact ⟨ret_bool E.out.symm, rfl⟩
  · have E : Hid (cntB n = false) := by show _ = _; simp [cntB, h]
    have hf : decide (1 ≤ n) = false := by simpa using h
    go_enter Tryz.func159, Tryz.ntmps159
    go_wp2
    go_ret
    exact ⟨ret_bool E.out.symm, rfl⟩
set_option maxHeartbeats 400000 in
theorem funcMayBe_any (n e : Int) (w : World) :
    Calls Tryz.prog 224 #[.int .i64 n, .int .i64 e] w fun r w' => r = .returned (.bool (withB n e)) ∧ w' = w := by
  by_cases h : 0 ≤ n
  · have E : Hid (withB n e = decide (n < e)) := by show _ = _; simp [withB, h]
    go_enter Tryz.func224, Tryz.ntmps224
    go_wp2
    go_ret
    exact ⟨ret_bool E.out.symm, rfl⟩
  · have E : Hid (withB n e = false) := by show _ = _; simp [withB, h]
    have hd : decide (0 ≤ n) = false := by simpa using h
    go_enter Tryz.func224, Tryz.ntmps224
    go_wp2
    go_ret
    exact ⟨ret_bool E.out.symm, rfl⟩
/-- A slice of texts that is only read. -/
def RdT (w : World) (a : Option Addr) (len cap : Nat) (l : List ByteArray) : Prop := RdL 1 (fun _ cs s => cs = [.string s] ∧ s.size ≤ maxLen) w a len cap l
theorem RdT.below {w w' : World} {a : Option Addr} {len cap : Nat} {l : List ByteArray} (h : RdT w a len cap l) (hb : Below w.heap.size w w') : RdT w' a len cap l := RdL.below h hb (fun _ _ h => h)
theorem RdT.at {w : World} {a : Option Addr} {len cap : Nat} {l : List ByteArray} (h : RdT w a len cap l) (i : Nat) (s : ByteArray) (hs : l[i]? = some s) : ∃ b off, a = some ⟨b, off, none⟩ ∧ w.cell? ⟨b, off + i, none⟩ = some (.string s) ∧ s.size ≤ maxLen := by
  obtain ⟨b, off, cs, e, _, hc, rfl, h3⟩ := h.2.2.2 i s hs
  refine ⟨b, off, e, ?_, h3⟩
  have := hc 0 (.string s) rfl
  simpa using this
theorem plc_cons (s x : ByteArray) (r : List ByteArray) : plc s (x :: r) = if eqB x s = true then 0 else plc s r + 1 := rfl
theorem plc_drop (s : ByteArray) : ∀ (l : List ByteArray) (k : Nat), k ≤ l.length → (∀ i, i < k → eqB (l.getD i ByteArray.empty) s = false) → plc s l = k + plc s (l.drop k)
  | l, 0, _, _ => by simp
  | [], k + 1, h, _ => by simp at h
  | x :: r, k + 1, h, hi => by
    have h0 := hi 0 (by omega)
    have ih := plc_drop s r k (by simpa using h) (fun i hik => by simpa using hi (i + 1) (by omega))
    rw [plc_cons, if_neg (by simpa using h0), ih]
    simp only [List.drop_succ_cons]
    omega
set_option maxHeartbeats 1000000 in
set_option maxRecDepth 100000 in
theorem placeOf_any (s : ByteArray) (a : Option Addr) (len cap : Nat) (l : List ByteArray) (w : World) (hr : RdT w a len cap l) :
    Calls Tryz.prog 145 #[.string s, .slice a len cap] w fun e w' => e = .returned (.int .i64 (plc s l)) ∧ w' = w := by
  have HL := hid hr.1
  have hcap := hr.2.1
  have hmax := hr.2.2.1
  unfold maxLen at hmax
  go_enter Tryz.func145, Tryz.ntmps145
  go_wp2
  go_loop [9] (fun i => ∃ j : Nat, i = .int .i64 j ∧ j ≤ len ∧ ∀ i, i < j → eqB (l.getD i ByteArray.empty) s = false) (fun i => len - (intOf i).toNat)
  case atStart => exact ⟨0, rfl, by omega, fun i hi => by omega⟩
  case round =>
    obtain ⟨j, rfl, hj, hno⟩ := hrel
    have HNO := hid hno
    clear hno
    by_cases hjf : j < len
    · obtain ⟨y, hy⟩ : ∃ y, l[j]? = some y := ⟨_, List.getElem?_eq_getElem (by rw [HL.out]; omega)⟩
      obtain ⟨b, off, rfl, d0, _⟩ := hr.at j y hy
      have hyd : l.getD j ByteArray.empty = y := by simp [List.getD, hy]
      have HY := hid hyd
      obtain ⟨q, hq⟩ : ∃ q, q = eqB y s := ⟨_, rfl⟩
      have hqq : (y.toList == s.toList) = q := by rw [hq]; rfl
      have HQ := hid hq
      clear hq hy hyd hr
      cases q with
      | true =>
        have HF : Hid (plc s l = j) := by
          show _ = _
          exact (plc_drop s l j (by rw [HL.out]; omega) HNO.out).trans (by
            rw [List.drop_eq_getElem_cons (show j < l.length by rw [HL.out]; exact hjf)]
            have e2 : l[j]'(by rw [HL.out]; exact hjf) = y := by rw [← HY.out]; simp [List.getD, show j < l.length by rw [HL.out]; exact hjf]
            rw [plc_cons, e2, if_pos HQ.out.symm]; rfl)
        go_wp2
        go_ret
        exact ⟨ret_int (by rw [HF.out]), rfl⟩
      | false =>
        go_wp2
        go_round
        case rel => exact ⟨j + 1, by go_num, by omega, fun i hi => by
          by_cases e : i = j
          · subst e; rw [HY.out]; exact HQ.out.symm
          · exact HNO.out i (by omega)⟩
        case measure => simp [intOf]; omega
    · have hje : j = len := by omega
      have HF : Hid (plc s l = len) := by
        show _ = _
        rw [plc_drop s l j (by rw [HL.out]; omega) HNO.out, List.drop_of_length_le (by rw [HL.out]; omega)]
        simp [plc, hje]
      clear hr hje
      go_wp2
      go_ret
      exact ⟨ret_int (by rw [HF.out]), rfl⟩
set_option maxHeartbeats 1000000 in
set_option maxRecDepth 100000 in
theorem isNewWord_any (s : ByteArray) (a : Option Addr) (len cap : Nat) (l : List ByteArray) (w : World) (hr : RdT w a len cap l) (hs : s.size ≤ maxLen) :
    Calls Tryz.prog 197 #[.string s, .slice a len cap] w fun e w' => e = .returned (.bool (newB s l)) ∧ Below w.heap.size w w' := by
  have HL := hid hr.1
  have hcap := hr.2.1
  have hmax := hr.2.2.1
  unfold maxLen at hmax
  have HW := hid (isWord_any s w hs)
  obtain ⟨q, hq⟩ : ∃ q, q = wordB s := ⟨_, rfl⟩
  have HQ := hid hq
  rw [← hq] at HW
  clear hq
  cases q with
  | false =>
    have HF : Hid (newB s l = false) := by show _ = _; unfold newB; rw [← HQ.out]; rfl
    go_enter Tryz.func197, Tryz.ntmps197
    go_wp2_with fail
    refine HW.out.mono ?_
    rintro e w1 ⟨rfl, hb⟩
    go_wp2
    go_ret
    exact ⟨ret_bool HF.out.symm, hb⟩
  | true =>
    have HF : Hid (newB s l = ((plc s l : Int) == (len : Int))) := by
      show _ = _; unfold newB; rw [← HQ.out, HL.out]
      rw [Bool.eq_iff_iff]
      simp [Int.ofNat_inj]
    go_enter Tryz.func197, Tryz.ntmps197
    go_wp2_with fail
    refine HW.out.mono ?_
    rintro e w1 ⟨rfl, hb⟩
    have HP := hid (placeOf_any s a len cap l w1 (hr.below hb))
    generalize (plc s l : Int) = p at *
    go_wp2_with (go_at_call 145; refine HP.out.mono ?_; rintro e w' ⟨rfl, rfl⟩)
    go_ret
    exact ⟨ret_bool HF.out.symm, hb⟩
theorem sum_take {l : List (Int × Int)} : ∀ (b r : Int) (k : Nat), wfS l b r = true → 0 ≤ r → k < l.length → 0 ≤ sumS (l.take k) ∧ 1 ≤ (l.getD k (0, 0)).2 ∧ sumS (l.take k) + (l.getD k (0, 0)).2 ≤ r ∧ sumS (l.take (k + 1)) = sumS (l.take k) + (l.getD k (0, 0)).2 ∧ isV (l.getD k (0, 0)).1 = true := by
  induction l with
  | nil => intro b r k _ _ h; simp at h
  | cons p t ih =>
    intro b r k h hr hk
    unfold wfS at h
    split at h
    · cases h
    · rename_i h1
      split at h
      · cases h
      · rename_i h2
        have hv : isV p.1 = true := by simpa using fun e => h1 (.inl e)
        cases k with
        | zero => simp [sumS, hv]; omega
        | succ k =>
          have := ih p.1 (r - p.2) k h (by omega) (by simpa using hk)
          simp only [List.take_succ_cons, sumS, List.getD_cons_succ]
          refine ⟨by omega, this.2.1, by omega, by omega, this.2.2.2.2⟩
set_option maxHeartbeats 1000000 in
set_option maxRecDepth 100000 in
theorem pcs_any (a : Option Addr) (len cap : Nat) (l : List (Int × Int)) (w : World) (hr : RdS w a len cap l) (hwf : wfS l (-1) 1000 = true) :
    Calls Tryz.prog 200 #[.slice a len cap] w fun e w' => e = .returned (.int .i64 (sumS l)) ∧ Below w.heap.size w w' := by
  have HL := hid hr.hlen
  have hmax := hr.hmax
  have hcap := hr.hcap
  unfold maxLen at hmax
  go_enter Tryz.func200, Tryz.ntmps200
  go_wp2
  go_loopw [3, 8] (fun n i wr => ∃ k : Nat, i = .int .i64 k ∧ k ≤ len ∧ n = .int .i64 (sumS (l.take k)) ∧ Below w.heap.size w wr) (fun _ i _ => len - (intOf i).toNat)
  case atStart => exact ⟨0, rfl, by omega, rfl, Below.refl _ _⟩
  case round =>
    obtain ⟨k, rfl, hk, rfl, hbel⟩ := hrel
    have hsz := hbel.size
    by_cases hlt : k < len
    · obtain ⟨b0, off, rfl, hc⟩ := (hr.below hbel (Nat.le_refl _)).open (by omega)
      obtain ⟨hc1, hc2⟩ := hc k hlt
      have hb0 := World.block_lt_of_cell? wr _ hc1
      obtain ⟨g1, g2, g3, g4, _⟩ := sum_take (l := l) (-1) 1000 k hwf (by omega) (by rw [HL.out]; exact hlt)
      have G4 := hid g4
      obtain ⟨⟨v, n⟩, hp⟩ : ∃ p, l.getD k (0, 0) = p := ⟨_, rfl⟩
      rw [hp] at hc1 hc2 g2 g3 G4
      simp only at hc1 hc2 hb0 g2 g3
      generalize sumS (l.take k) = q at *
      clear hr hc hp hwf g4
      go_wp2
      go_roundw
      case rel => exact ⟨k + 1, by go_num, by omega, by rw [G4.out], hbel.alloc hsz _⟩
      case measure => simp [intOf]; omega
    · have hk' : k = len := by omega
      subst hk'
      have HF : Hid (sumS (l.take k) = sumS l) := by show _ = _; rw [List.take_of_length_le (by rw [HL.out]; omega)]
      go_wp2
      go_ret
      exact ⟨ret_int HF.out, hbel⟩
theorem mostT_take (l : List (Int × Int)) (k : Nat) (h : k < l.length) : mostT (l.take (k + 1)) = if mostT (l.take k) < (l.getD k (0, 0)).1 then (l.getD k (0, 0)).1 else mostT (l.take k) := by
  unfold mostT
  rw [List.take_succ_eq_append_getElem h, List.foldl_append]
  simp [List.getD, h]
set_option maxHeartbeats 1000000 in
set_option maxRecDepth 100000 in
theorem nodes_any (a : Option Addr) (len cap : Nat) (l : List (Int × Int)) (w : World) (hr : RdS w a len cap l) :
    Calls Tryz.prog 223 #[.slice a len cap] w fun e w' => e = .returned (.int .i64 (mostT l)) ∧ Below w.heap.size w w' := by
  have HL := hid hr.hlen
  have hmax := hr.hmax
  have hcap := hr.hcap
  unfold maxLen at hmax
  go_enter Tryz.func223, Tryz.ntmps223
  go_wp2
  go_loopw [3, 8] (fun n i wr => ∃ k : Nat, i = .int .i64 k ∧ k ≤ len ∧ n = .int .i64 (mostT (l.take k)) ∧ Below w.heap.size w wr) (fun _ i _ => len - (intOf i).toNat)
  case atStart => exact ⟨0, rfl, by omega, rfl, Below.refl _ _⟩
  case round =>
    obtain ⟨k, rfl, hk, rfl, hbel⟩ := hrel
    have hsz := hbel.size
    by_cases hlt : k < len
    · obtain ⟨b0, off, rfl, hc⟩ := (hr.below hbel (Nat.le_refl _)).open (by omega)
      obtain ⟨hc1, hc2⟩ := hc k hlt
      have hb0 := World.block_lt_of_cell? wr _ hc1
      have G4 := hid (mostT_take l k (by rw [HL.out]; exact hlt))
      obtain ⟨⟨v, n⟩, hp⟩ : ∃ p, l.getD k (0, 0) = p := ⟨_, rfl⟩
      rw [hp] at hc1 hc2 G4
      simp only at hc1 hc2 hb0
      generalize mostT (l.take k) = q at *
      clear hr hc hp
      by_cases hq : q < v
      · have HF : Hid (mostT (l.take (k + 1)) = v) := by show _ = _; rw [G4.out]; exact if_pos hq
        go_wp2
        go_roundw
        case rel => exact ⟨k + 1, by go_num, by omega, by rw [HF.out], hbel.alloc hsz _⟩
        case measure => simp [intOf]; omega
      · have HF : Hid (mostT (l.take (k + 1)) = q) := by show _ = _; rw [G4.out]; exact if_neg hq
        have hq' : decide (q < v) = false := by simpa using hq
        go_wp2
        go_roundw
        case rel => exact ⟨k + 1, by go_num, by omega, by rw [HF.out], hbel.alloc hsz _⟩
        case measure => simp [intOf]; omega
    · have hk' : k = len := by omega
      subst hk'
      have HF : Hid (mostT (l.take k) = mostT l) := by show _ = _; rw [List.take_of_length_le (by rw [HL.out]; omega)]
      go_wp2
      go_ret
      exact ⟨ret_int HF.out, hbel⟩
theorem allT_take_succ {l : List (Int × Int)} {k : Nat} (f : Int × Int → Bool) (h : k < l.length) (h0 : (l.take k).all f = true) : (l.take (k + 1)).all f = f (l.getD k (0, 0)) := by
  rw [List.take_succ_eq_append_getElem h, List.all_append, h0]
  simp [List.getD, h]
set_option maxHeartbeats 1000000 in
set_option maxRecDepth 100000 in
theorem linesMayBe_any (a : Option Addr) (len cap : Nat) (l : List (Int × Int)) (room : Int) (w : World) (hr : RdS w a len cap l) (hwf : wfS l (-1) 1000 = true) :
    Calls Tryz.prog 207 #[.slice a len cap, .int .i64 room] w fun e w' => e = .returned (.bool (linesB l room)) ∧ Below w.heap.size w w' := by
  have HL := hid hr.hlen
  have hmax := hr.hmax
  have hcap := hr.hcap
  unfold maxLen at hmax
  go_enter Tryz.func207, Tryz.ntmps207
  go_wp2
  go_loopw [9] (fun i wr => ∃ k : Nat, i = .int .i64 k ∧ k ≤ len ∧ (l.take k).all (fun p => !(p.1 == 0)) = true ∧ Below w.heap.size w wr) (fun i _ => len - (intOf i).toNat)
  case atStart => exact ⟨0, rfl, by omega, rfl, Below.refl _ _⟩
  case round =>
    obtain ⟨k, rfl, hk, hall, hbel⟩ := hrel
    have HA := hid hall
    have hsz := hbel.size
    by_cases hlt : k < len
    · obtain ⟨b0, off, rfl, hc⟩ := (hr.below hbel (Nat.le_refl _)).open (by omega)
      obtain ⟨hc1, hc2⟩ := hc k hlt
      have hb0 := World.block_lt_of_cell? wr _ hc1
      have G4 := hid (allT_take_succ (l := l) (k := k) (fun p => !(p.1 == 0)) (by rw [HL.out]; exact hlt) hall)
      obtain ⟨⟨v, n⟩, hp⟩ : ∃ p, l.getD k (0, 0) = p := ⟨_, rfl⟩
      rw [hp] at hc1 hc2 G4
      simp only at hc1 hc2 hb0
      clear hr hc hp hall hwf
      by_cases hq : v = 0
      · have hv : (v == 0) = true := by simpa using hq
        have HF : Hid (linesB l room = false) := by
          show _ = _
          unfold linesB
          have e1 : l = l.take (k + 1) ++ l.drop (k + 1) := (List.take_append_drop _ _).symm
          have e2 : l.all (fun p => !(p.1 == 0)) = false := by rw [e1, List.all_append, G4.out]; simp [hq]
          rw [e2]; rfl
        clear hq
        go_wp2
        go_ret
        exact ⟨ret_bool HF.out.symm, hbel.alloc hsz _⟩
      · have hv : (v == 0) = false := by simpa using hq
        have HF : Hid ((l.take (k + 1)).all (fun p => !(p.1 == 0)) = true) := by show _ = _; rw [G4.out]; simp [hv]
        clear hq
        go_wp2
        go_roundw
        case rel => exact ⟨k + 1, by go_num, by omega, HF.out, hbel.alloc hsz _⟩
        case measure => simp [intOf]; omega
    · have hk' : k = len := by omega
      subst hk'
      have HF : Hid (linesB l room = decide (sumS l ≤ room)) := by
        show _ = _
        rw [List.take_of_length_le (by rw [HL.out]; omega)] at hall
        unfold linesB
        rw [hall]; rfl
      have HP := hid (pcs_any a k cap l wr (hr.below hbel (Nat.le_refl _)) hwf)
      generalize sumS l = q at *
      clear hall
      go_wp2_with (go_at_call 200; refine HP.out.mono ?_; rintro e w1 ⟨rfl, hb1⟩)
      go_ret
      exact ⟨ret_bool HF.out.symm, hbel.trans (hb1.mono hsz)⟩
set_option maxHeartbeats 1000000 in
set_option maxRecDepth 100000 in
theorem pcMayBe_any (pc before k : Int) (a : Option Addr) (len cap : Nat) (inst : List Int) (w : World) (hr : Rd .i64 w a len cap inst) (hb : -1 ≤ before) :
    Calls Tryz.prog 225 #[.int .i64 pc, .int .i64 before, .int .i64 k, .slice a len cap] w fun e w' => e = .returned (.bool (pcB pc before k inst)) ∧ w' = w := by
  have HL := hid hr.hlen
  have hmax := hr.hmax
  have hcap := hr.hcap
  unfold maxLen at hmax
  by_cases h1 : pc ≤ before
  · have HF : Hid (pcB pc before k inst = false) := by show _ = _; unfold pcB; rw [decide_eq_false (by omega)]; rfl
    go_enter Tryz.func225, Tryz.ntmps225
    go_wp2
    go_ret
    exact ⟨ret_bool HF.out.symm, rfl⟩
  · have h1' : decide (pc ≤ before) = false := by simpa using h1
    by_cases h2 : (len : Int) - 1 ≤ pc
    · have HF : Hid (pcB pc before k inst = false) := by show _ = _; unfold pcB; rw [HL.out, decide_eq_false (by omega)]; rfl
      go_enter Tryz.func225, Tryz.ntmps225
      go_wp2
      go_ret
      exact ⟨ret_bool HF.out.symm, rfl⟩
    · have h2' : decide ((len : Int) - 1 ≤ pc) = false := by simpa using h2
      obtain ⟨n, rfl⟩ := Int.eq_ofNat_of_zero_le (show 0 ≤ pc by omega)
      obtain ⟨b, off, rfl, hc⟩ := hr.open (by omega)
      have c0 := hc n (by omega)
      have c1 := hc (n + 1) (by omega)
      have hn1 : n < len := by omega
      have hn2 : n + 1 < len := by omega
      have HE : Hid (pcB (n : Int) before k inst = (decide (inst.getD n 0 < k) && inst.getD (n + 1) 0 == k)) := by show _ = _; unfold pcB; rw [HL.out, decide_eq_true (by omega)]; simp
      obtain ⟨x, hx⟩ : ∃ x, x = inst.getD n 0 := ⟨_, rfl⟩
      obtain ⟨y, hy⟩ : ∃ y, y = inst.getD (n + 1) 0 := ⟨_, rfl⟩
      rw [← hx] at c0 HE
      rw [← hy] at c1 HE
      clear hc hr hx hy
      by_cases h3 : x < k
      · have HF : Hid (pcB (n : Int) before k inst = (y == k)) := by show _ = _; rw [HE.out, decide_eq_true h3]; rfl
        go_enter Tryz.func225, Tryz.ntmps225
        go_wp2
        go_ret
        exact ⟨ret_bool HF.out.symm, rfl⟩
      · have HF : Hid (pcB (n : Int) before k inst = false) := by show _ = _; rw [HE.out, decide_eq_false h3]; rfl
        have h3' : decide (x < k) = false := by simpa using h3
        go_enter Tryz.func225, Tryz.ntmps225
        go_wp2
        go_ret
        exact ⟨ret_bool HF.out.symm, rfl⟩
end Go.Proofs.YtffnfjkjlmlonaaGreatDoor
