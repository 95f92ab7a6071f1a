/- Contracts of the developers' small functions of images and tables that only read: image.countMayBe, funcMayBe, placeOf, isNewWord, nodes, linesMayBe, pcMayBe and table.Pcs give the plain functions; nothing that was there is written. Contracts of the developers' reader of images: take, number, table, bytes: plain functions of where the reader is; nothing is written but the reader's own box. -/
import Derived.Test.YtffnfjkjlmlonaaGreatDoorZ14
import Derived.Deep.RegionWith
namespace Go.Proofs.YtffnfjkjlmlonaaGreatDoor
open Go.RowKit

def cntB (n : Int) : Bool := decide (1 ≤ n ∧ n ≤ 12)
set_option maxHeartbeats 400000 in
theorem countMayBe_any (n : Int) (w : World) :
    Calls Tryz.prog 159 #[.int .i64 n] w fun e w' => e = .returned (.bool (cntB n)) ∧ w' = w := by
  by_cases h : 1 ≤ n
  · have E : Hid (cntB n = decide (n ≤ 12)) := by show _ = _; simp [cntB, h]
    go_enter Tryz.func159, Tryz.ntmps159
    go_wp2
    go_ret
    exact ⟨ret_bool E.out.symm, rfl⟩
  · have E : Hid (cntB n = false) := by show _ = _; simp [cntB, h]
    have hf : decide (1 ≤ n) = false := by simpa using h
    go_enter Tryz.func159, Tryz.ntmps159
    go_wp2
    go_ret
    exact ⟨ret_bool E.out.symm, rfl⟩

set_option maxHeartbeats 400000 in
theorem funcMayBe_any (n e : Int) (w : World) :
    Calls Tryz.prog 224 #[.int .i64 n, .int .i64 e] w fun r w' => r = .returned (.bool (withB n e)) ∧ w' = w := by
  by_cases h : 0 ≤ n
  · have E : Hid (withB n e = decide (n < e)) := by show _ = _; simp [withB, h]
    go_enter Tryz.func224, Tryz.ntmps224
    go_wp2
    go_ret
    exact ⟨ret_bool E.out.symm, rfl⟩
  · have E : Hid (withB n e = false) := by show _ = _; simp [withB, h]
    have hd : decide (0 ≤ n) = false := by simpa using h
    go_enter Tryz.func224, Tryz.ntmps224
    go_wp2
    go_ret
    exact ⟨ret_bool E.out.symm, rfl⟩

/-- A slice of texts that is only read. -/
def RdT (w : World) (a : Option Addr) (len cap : Nat) (l : List ByteArray) : Prop := RdL 1 (fun _ cs s => cs = [.string s] ∧ s.size ≤ maxLen) w a len cap l
theorem RdT.below {w w' : World} {a : Option Addr} {len cap : Nat} {l : List ByteArray} (h : RdT w a len cap l) (hb : Below w.heap.size w w') : RdT w' a len cap l := RdL.below h hb (fun _ _ h => h)
theorem RdT.at {w : World} {a : Option Addr} {len cap : Nat} {l : List ByteArray} (h : RdT w a len cap l) (i : Nat) (s : ByteArray) (hs : l[i]? = some s) : ∃ b off, a = some ⟨b, off, none⟩ ∧ w.cell? ⟨b, off + i, none⟩ = some (.string s) ∧ s.size ≤ maxLen := by
  obtain ⟨b, off, cs, e, _, hc, rfl, h3⟩ := h.2.2.2 i s hs
  refine ⟨b, off, e, ?_, h3⟩
  have := hc 0 (.string s) rfl
  simpa using this

theorem plc_cons (s x : ByteArray) (r : List ByteArray) : plc s (x :: r) = if eqB x s = true then 0 else plc s r + 1 := rfl
theorem plc_drop (s : ByteArray) : ∀ (l : List ByteArray) (k : Nat), k ≤ l.length → (∀ i, i < k → eqB (l.getD i ByteArray.empty) s = false) → plc s l = k + plc s (l.drop k)
  | l, 0, _, _ => by simp
  | [], k + 1, h, _ => by simp at h
  | x :: r, k + 1, h, hi => by
    have h0 := hi 0 (by omega)
    have ih := plc_drop s r k (by simpa using h) (fun i hik => by simpa using hi (i + 1) (by omega))
    rw [plc_cons, if_neg (by simpa using h0), ih]
    simp only [List.drop_succ_cons]
    omega

set_option maxHeartbeats 1000000 in
set_option maxRecDepth 100000 in
theorem placeOf_any (s : ByteArray) (a : Option Addr) (len cap : Nat) (l : List ByteArray) (w : World) (hr : RdT w a len cap l) :
    Calls Tryz.prog 145 #[.string s, .slice a len cap] w fun e w' => e = .returned (.int .i64 (plc s l)) ∧ w' = w := by
  have HL := hid hr.1
  have hcap := hr.2.1
  have hmax := hr.2.2.1
  unfold maxLen at hmax
  go_enter Tryz.func145, Tryz.ntmps145
  go_wp2
  go_loop [9] (fun i => ∃ j : Nat, i = .int .i64 j ∧ j ≤ len ∧ ∀ i, i < j → eqB (l.getD i ByteArray.empty) s = false) (fun i => len - (intOf i).toNat)
  case atStart => exact ⟨0, rfl, by omega, fun i hi => by omega⟩
  case round =>
    obtain ⟨j, rfl, hj, hno⟩ := hrel
    have HNO := hid hno
    clear hno
    by_cases hjf : j < len
    · obtain ⟨y, hy⟩ : ∃ y, l[j]? = some y := ⟨_, List.getElem?_eq_getElem (by rw [HL.out]; omega)⟩
      obtain ⟨b, off, rfl, d0, _⟩ := hr.at j y hy
      have hyd : l.getD j ByteArray.empty = y := by simp [List.getD, hy]
      have HY := hid hyd
      obtain ⟨q, hq⟩ : ∃ q, q = eqB y s := ⟨_, rfl⟩
      have hqq : (y.toList == s.toList) = q := by rw [hq]; rfl
      have HQ := hid hq
      clear hq hy hyd hr
      cases q with
      | true =>
        have HF : Hid (plc s l = j) := by
          show _ = _
          exact (plc_drop s l j (by rw [HL.out]; omega) HNO.out).trans (by
            rw [List.drop_eq_getElem_cons (show j < l.length by rw [HL.out]; exact hjf)]
            have e2 : l[j]'(by rw [HL.out]; exact hjf) = y := by rw [← HY.out]; simp [List.getD, show j < l.length by rw [HL.out]; exact hjf]
            rw [plc_cons, e2, if_pos HQ.out.symm]; rfl)
        go_wp2
        go_ret
        exact ⟨ret_int (by rw [HF.out]), rfl⟩
      | false =>
        go_wp2
        go_round
        case rel => exact ⟨j + 1, by go_num, by omega, fun i hi => by
          by_cases e : i = j
          · subst e; rw [HY.out]; exact HQ.out.symm
          · exact HNO.out i (by omega)⟩
        case measure => simp [intOf]; omega
    · have hje : j = len := by omega
      have HF : Hid (plc s l = len) := by
        show _ = _
        rw [plc_drop s l j (by rw [HL.out]; omega) HNO.out, List.drop_of_length_le (by rw [HL.out]; omega)]
        simp [plc, hje]
      clear hr hje
      go_wp2
      go_ret
      exact ⟨ret_int (by rw [HF.out]), rfl⟩

set_option maxHeartbeats 1000000 in
set_option maxRecDepth 100000 in
theorem isNewWord_any (s : ByteArray) (a : Option Addr) (len cap : Nat) (l : List ByteArray) (w : World) (hr : RdT w a len cap l) (hs : s.size ≤ maxLen) :
    Calls Tryz.prog 197 #[.string s, .slice a len cap] w fun e w' => e = .returned (.bool (newB s l)) ∧ Below w.heap.size w w' := by
  have HL := hid hr.1
  have hcap := hr.2.1
  have hmax := hr.2.2.1
  unfold maxLen at hmax
  have HW := hid (isWord_any s w hs)
  obtain ⟨q, hq⟩ : ∃ q, q = wordB s := ⟨_, rfl⟩
  have HQ := hid hq
  rw [← hq] at HW
  clear hq
  cases q with
  | false =>
    have HF : Hid (newB s l = false) := by show _ = _; unfold newB; rw [← HQ.out]; rfl
    go_enter Tryz.func197, Tryz.ntmps197
    go_wp2_with fail
    refine HW.out.mono ?_
    rintro e w1 ⟨rfl, hb⟩
    go_wp2
    go_ret
    exact ⟨ret_bool HF.out.symm, hb⟩
  | true =>
    have HF : Hid (newB s l = ((plc s l : Int) == (len : Int))) := by
      show _ = _; unfold newB; rw [← HQ.out, HL.out]
      rw [Bool.eq_iff_iff]
      simp [Int.ofNat_inj]
    go_enter Tryz.func197, Tryz.ntmps197
    go_wp2_with fail
    refine HW.out.mono ?_
    rintro e w1 ⟨rfl, hb⟩
    have HP := hid (placeOf_any s a len cap l w1 (hr.below hb))
    generalize (plc s l : Int) = p at *
    go_wp2_with (go_at_call 145; refine HP.out.mono ?_; rintro e w' ⟨rfl, rfl⟩)
    go_ret
    exact ⟨ret_bool HF.out.symm, hb⟩

theorem sum_take {l : List (Int × Int)} : ∀ (b r : Int) (k : Nat), wfS l b r = true → 0 ≤ r → k < l.length → 0 ≤ sumS (l.take k) ∧ 1 ≤ (l.getD k (0, 0)).2 ∧ sumS (l.take k) + (l.getD k (0, 0)).2 ≤ r ∧ sumS (l.take (k + 1)) = sumS (l.take k) + (l.getD k (0, 0)).2 ∧ isV (l.getD k (0, 0)).1 = true := by
  induction l with
  | nil => intro b r k _ _ h; simp at h
  | cons p t ih =>
    intro b r k h hr hk
    unfold wfS at h
    split at h
    · cases h
    · rename_i h1
      split at h
      · cases h
      · rename_i h2
        have hv : isV p.1 = true := by simpa using fun e => h1 (.inl e)
        cases k with
        | zero => simp [sumS, hv]; omega
        | succ k =>
          have := ih p.1 (r - p.2) k h (by omega) (by simpa using hk)
          simp only [List.take_succ_cons, sumS, List.getD_cons_succ]
          refine ⟨by omega, this.2.1, by omega, by omega, this.2.2.2.2⟩

set_option maxHeartbeats 1000000 in
set_option maxRecDepth 100000 in
theorem pcs_any (a : Option Addr) (len cap : Nat) (l : List (Int × Int)) (w : World) (hr : RdS w a len cap l) (hwf : wfS l (-1) 1000 = true) :
    Calls Tryz.prog 200 #[.slice a len cap] w fun e w' => e = .returned (.int .i64 (sumS l)) ∧ Below w.heap.size w w' := by
  have HL := hid hr.hlen
  have hmax := hr.hmax
  have hcap := hr.hcap
  unfold maxLen at hmax
  go_enter Tryz.func200, Tryz.ntmps200
  go_wp2
  go_loopw [3, 8] (fun n i wr => ∃ k : Nat, i = .int .i64 k ∧ k ≤ len ∧ n = .int .i64 (sumS (l.take k)) ∧ Below w.heap.size w wr) (fun _ i _ => len - (intOf i).toNat)
  case atStart => exact ⟨0, rfl, by omega, rfl, Below.refl _ _⟩
  case round =>
    obtain ⟨k, rfl, hk, rfl, hbel⟩ := hrel
    have hsz := hbel.size
    by_cases hlt : k < len
    · obtain ⟨b0, off, rfl, hc⟩ := (hr.below hbel (Nat.le_refl _)).open (by omega)
      obtain ⟨hc1, hc2⟩ := hc k hlt
      have hb0 := World.block_lt_of_cell? wr _ hc1
      obtain ⟨g1, g2, g3, g4, _⟩ := sum_take (l := l) (-1) 1000 k hwf (by omega) (by rw [HL.out]; exact hlt)
      have G4 := hid g4
      obtain ⟨⟨v, n⟩, hp⟩ : ∃ p, l.getD k (0, 0) = p := ⟨_, rfl⟩
      rw [hp] at hc1 hc2 g2 g3 G4
      simp only at hc1 hc2 hb0 g2 g3
      generalize sumS (l.take k) = q at *
      clear hr hc hp hwf g4
      go_wp2
      go_roundw
      case rel => exact ⟨k + 1, by go_num, by omega, by rw [G4.out], hbel.alloc hsz _⟩
      case measure => simp [intOf]; omega
    · have hk' : k = len := by omega
      subst hk'
      have HF : Hid (sumS (l.take k) = sumS l) := by show _ = _; rw [List.take_of_length_le (by rw [HL.out]; omega)]
      go_wp2
      go_ret
      exact ⟨ret_int HF.out, hbel⟩

theorem mostT_take (l : List (Int × Int)) (k : Nat) (h : k < l.length) : mostT (l.take (k + 1)) = if mostT (l.take k) < (l.getD k (0, 0)).1 then (l.getD k (0, 0)).1 else mostT (l.take k) := by
  unfold mostT
  rw [List.take_succ_eq_append_getElem h, List.foldl_append]
  simp [List.getD, h]

set_option maxHeartbeats 1000000 in
set_option maxRecDepth 100000 in
theorem nodes_any (a : Option Addr) (len cap : Nat) (l : List (Int × Int)) (w : World) (hr : RdS w a len cap l) :
    Calls Tryz.prog 223 #[.slice a len cap] w fun e w' => e = .returned (.int .i64 (mostT l)) ∧ Below w.heap.size w w' := by
  have HL := hid hr.hlen
  have hmax := hr.hmax
  have hcap := hr.hcap
  unfold maxLen at hmax
  go_enter Tryz.func223, Tryz.ntmps223
  go_wp2
  go_loopw [3, 8] (fun n i wr => ∃ k : Nat, i = .int .i64 k ∧ k ≤ len ∧ n = .int .i64 (mostT (l.take k)) ∧ Below w.heap.size w wr) (fun _ i _ => len - (intOf i).toNat)
  case atStart => exact ⟨0, rfl, by omega, rfl, Below.refl _ _⟩
  case round =>
    obtain ⟨k, rfl, hk, rfl, hbel⟩ := hrel
    have hsz := hbel.size
    by_cases hlt : k < len
    · obtain ⟨b0, off, rfl, hc⟩ := (hr.below hbel (Nat.le_refl _)).open (by omega)
      obtain ⟨hc1, hc2⟩ := hc k hlt
      have hb0 := World.block_lt_of_cell? wr _ hc1
      have G4 := hid (mostT_take l k (by rw [HL.out]; exact hlt))
      obtain ⟨⟨v, n⟩, hp⟩ : ∃ p, l.getD k (0, 0) = p := ⟨_, rfl⟩
      rw [hp] at hc1 hc2 G4
      simp only at hc1 hc2 hb0
      generalize mostT (l.take k) = q at *
      clear hr hc hp
      by_cases hq : q < v
      · have HF : Hid (mostT (l.take (k + 1)) = v) := by show _ = _; rw [G4.out]; exact if_pos hq
        go_wp2
        go_roundw
        case rel => exact ⟨k + 1, by go_num, by omega, by rw [HF.out], hbel.alloc hsz _⟩
        case measure => simp [intOf]; omega
      · have HF : Hid (mostT (l.take (k + 1)) = q) := by show _ = _; rw [G4.out]; exact if_neg hq
        have hq' : decide (q < v) = false := by simpa using hq
        go_wp2
        go_roundw
        case rel => exact ⟨k + 1, by go_num, by omega, by rw [HF.out], hbel.alloc hsz _⟩
        case measure => simp [intOf]; omega
    · have hk' : k = len := by omega
      subst hk'
      have HF : Hid (mostT (l.take k) = mostT l) := by show _ = _; rw [List.take_of_length_le (by rw [HL.out]; omega)]
      go_wp2
      go_ret
      exact ⟨ret_int HF.out, hbel⟩

theorem allT_take_succ {l : List (Int × Int)} {k : Nat} (f : Int × Int → Bool) (h : k < l.length) (h0 : (l.take k).all f = true) : (l.take (k + 1)).all f = f (l.getD k (0, 0)) := by
  rw [List.take_succ_eq_append_getElem h, List.all_append, h0]
  simp [List.getD, h]

set_option maxHeartbeats 1000000 in
set_option maxRecDepth 100000 in
theorem linesMayBe_any (a : Option Addr) (len cap : Nat) (l : List (Int × Int)) (room : Int) (w : World) (hr : RdS w a len cap l) (hwf : wfS l (-1) 1000 = true) :
    Calls Tryz.prog 207 #[.slice a len cap, .int .i64 room] w fun e w' => e = .returned (.bool (linesB l room)) ∧ Below w.heap.size w w' := by
  have HL := hid hr.hlen
  have hmax := hr.hmax
  have hcap := hr.hcap
  unfold maxLen at hmax
  go_enter Tryz.func207, Tryz.ntmps207
  go_wp2
  go_loopw [9] (fun i wr => ∃ k : Nat, i = .int .i64 k ∧ k ≤ len ∧ (l.take k).all (fun p => !(p.1 == 0)) = true ∧ Below w.heap.size w wr) (fun i _ => len - (intOf i).toNat)
  case atStart => exact ⟨0, rfl, by omega, rfl, Below.refl _ _⟩
  case round =>
    obtain ⟨k, rfl, hk, hall, hbel⟩ := hrel
    have HA := hid hall
    have hsz := hbel.size
    by_cases hlt : k < len
    · obtain ⟨b0, off, rfl, hc⟩ := (hr.below hbel (Nat.le_refl _)).open (by omega)
      obtain ⟨hc1, hc2⟩ := hc k hlt
      have hb0 := World.block_lt_of_cell? wr _ hc1
      have G4 := hid (allT_take_succ (l := l) (k := k) (fun p => !(p.1 == 0)) (by rw [HL.out]; exact hlt) hall)
      obtain ⟨⟨v, n⟩, hp⟩ : ∃ p, l.getD k (0, 0) = p := ⟨_, rfl⟩
      rw [hp] at hc1 hc2 G4
      simp only at hc1 hc2 hb0
      clear hr hc hp hall hwf
      by_cases hq : v = 0
      · have hv : (v == 0) = true := by simpa using hq
        have HF : Hid (linesB l room = false) := by
          show _ = _
          unfold linesB
          have e1 : l = l.take (k + 1) ++ l.drop (k + 1) := (List.take_append_drop _ _).symm
          have e2 : l.all (fun p => !(p.1 == 0)) = false := by rw [e1, List.all_append, G4.out]; simp [hq]
          rw [e2]; rfl
        clear hq
        go_wp2
        go_ret
        exact ⟨ret_bool HF.out.symm, hbel.alloc hsz _⟩
      · have hv : (v == 0) = false := by simpa using hq
        have HF : Hid ((l.take (k + 1)).all (fun p => !(p.1 == 0)) = true) := by show _ = _; rw [G4.out]; simp [hv]
        clear hq
        go_wp2
        go_roundw
        case rel => exact ⟨k + 1, by go_num, by omega, HF.out, hbel.alloc hsz _⟩
        case measure => simp [intOf]; omega
    · have hk' : k = len := by omega
      subst hk'
      have HF : Hid (linesB l room = decide (sumS l ≤ room)) := by
        show _ = _
        rw [List.take_of_length_le (by rw [HL.out]; omega)] at hall
        unfold linesB
        rw [hall]; rfl
      have HP := hid (pcs_any a k cap l wr (hr.below hbel (Nat.le_refl _)) hwf)
      generalize sumS l = q at *
      clear hall
      go_wp2_with (go_at_call 200; refine HP.out.mono ?_; rintro e w1 ⟨rfl, hb1⟩)
      go_ret
      exact ⟨ret_bool HF.out.symm, hbel.trans (hb1.mono hsz)⟩

set_option maxHeartbeats 1000000 in
set_option maxRecDepth 100000 in
theorem pcMayBe_any (pc before k : Int) (a : Option Addr) (len cap : Nat) (inst : List Int) (w : World) (hr : Rd .i64 w a len cap inst) (hb : -1 ≤ before) :
    Calls Tryz.prog 225 #[.int .i64 pc, .int .i64 before, .int .i64 k, .slice a len cap] w fun e w' => e = .returned (.bool (pcB pc before k inst)) ∧ w' = w := by
  have HL := hid hr.hlen
  have hmax := hr.hmax
  have hcap := hr.hcap
  unfold maxLen at hmax
  by_cases h1 : pc ≤ before
  · have HF : Hid (pcB pc before k inst = false) := by show _ = _; unfold pcB; rw [decide_eq_false (by omega)]; rfl
    go_enter Tryz.func225, Tryz.ntmps225
    go_wp2
    go_ret
    exact ⟨ret_bool HF.out.symm, rfl⟩
  · have h1' : decide (pc ≤ before) = false := by simpa using h1
    by_cases h2 : (len : Int) - 1 ≤ pc
    · have HF : Hid (pcB pc before k inst = false) := by show _ = _; unfold pcB; rw [HL.out, decide_eq_false (by omega)]; rfl
      go_enter Tryz.func225, Tryz.ntmps225
      go_wp2
      go_ret
      exact ⟨ret_bool HF.out.symm, rfl⟩
    · have h2' : decide ((len : Int) - 1 ≤ pc) = false := by simpa using h2
      obtain ⟨n, rfl⟩ := Int.eq_ofNat_of_zero_le (show 0 ≤ pc by omega)
      obtain ⟨b, off, rfl, hc⟩ := hr.open (by omega)
      have c0 := hc n (by omega)
      have c1 := hc (n + 1) (by omega)
      have hn1 : n < len := by omega
      have hn2 : n + 1 < len := by omega
      have HE : Hid (pcB (n : Int) before k inst = (decide (inst.getD n 0 < k) && inst.getD (n + 1) 0 == k)) := by show _ = _; unfold pcB; rw [HL.out, decide_eq_true (by omega)]; simp
      obtain ⟨x, hx⟩ : ∃ x, x = inst.getD n 0 := ⟨_, rfl⟩
      obtain ⟨y, hy⟩ : ∃ y, y = inst.getD (n + 1) 0 := ⟨_, rfl⟩
      rw [← hx] at c0 HE
      rw [← hy] at c1 HE
      clear hc hr hx hy
      by_cases h3 : x < k
      · have HF : Hid (pcB (n : Int) before k inst = (y == k)) := by show _ = _; rw [HE.out, decide_eq_true h3]; rfl
        go_enter Tryz.func225, Tryz.ntmps225
        go_wp2
        go_ret
        exact ⟨ret_bool HF.out.symm, rfl⟩
      · have HF : Hid (pcB (n : Int) before k inst = false) := by show _ = _; rw [HE.out, decide_eq_false h3]; rfl
        have h3' : decide (x < k) = false := by simpa using h3
        go_enter Tryz.func225, Tryz.ntmps225
        go_wp2
        go_ret
        exact ⟨ret_bool HF.out.symm, rfl⟩
end Go.Proofs.YtffnfjkjlmlonaaGreatDoor
namespace Go.Proofs.YtffnfjkjlmlonaaGreatDoor
open Go.RowKit

/-- The reader's box. -/
def rdA (b : Value) (s : RsD) (nv fv : Value) : Array Value := #[b, .int .i64 s.at_, .int .i64 s.to_, .int .i64 s.e, nv, fv, .int .i64 s.room]

/-- Nothing that was there is written but the block rb. -/
structure OnlyR (rb : Nat) (w w' : World) : Prop where
  os : w'.os = w.os
  tape : w'.tape = w.tape
  output : w'.output = w.output
  size : w.heap.size ≤ w'.heap.size
  block : ∀ k, k < w.heap.size → k ≠ rb → w'.heap[k]? = w.heap[k]?
theorem OnlyR.refl (rb : Nat) (w : World) : OnlyR rb w w := ⟨rfl, rfl, rfl, Nat.le_refl _, fun _ _ _ => rfl⟩
theorem OnlyR.trans {rb : Nat} {a b c : World} (h : OnlyR rb a b) (k : OnlyR rb b c) : OnlyR rb a c :=
  ⟨k.os.trans h.os, k.tape.trans h.tape, k.output.trans h.output, Nat.le_trans h.size k.size, fun i hi hn => (k.block i (Nat.lt_of_lt_of_le hi h.size) hn).trans (h.block i hi hn)⟩
theorem OnlyR.below {rb : Nat} {w w' : World} (h : Below w.heap.size w w') : OnlyR rb w w' := ⟨h.os, h.tape, h.output, h.size, fun k hk _ => h.block k hk⟩
theorem OnlyR.drew {rb : Nat} {a w : World} (h : OnlyR rb a w) : OnlyR rb a w.drew := ⟨h.os, h.tape, h.output, h.size, h.block⟩
theorem OnlyR.drewN {rb : Nat} {a w : World} (h : OnlyR rb a w) (n : Nat) : OnlyR rb a (w.drewN n) := h.trans ⟨rfl, rfl, rfl, Nat.le_refl _, fun _ _ _ => rfl⟩
theorem OnlyR.setCell {rb : Nat} {a w : World} (h : OnlyR rb a w) (j : Nat) (u : Value) : OnlyR rb a (w.setCell ⟨rb, j, none⟩ u) :=
  h.trans ⟨rfl, rfl, rfl, by simp [World.setCell], fun k _ hn => Below.heap_setCell _ _ _ _ hn⟩
theorem OnlyR.toBelow {rb B : Nat} {w w' : World} (h : OnlyR rb w w') (hB : B ≤ rb) (hw : rb < w.heap.size) : Below B w w' :=
  ⟨h.os, h.tape, h.output, h.size, fun k hk => h.block k (by omega) (by omega)⟩
theorem OnlyR.cell {rb : Nat} {w w' : World} (h : OnlyR rb w w') {q : Addr} {u : Value} (hq : q.block ≠ rb) (hc : w.cell? q = some u) : w'.cell? q = some u := by
  have hlt := World.block_lt_of_cell? w _ hc
  exact (World.cell?_of_block (w := w) (h.block q.block hlt hq)).trans hc
theorem Rd.only {k : IntKind} {rb : Nat} {w w' : World} {a : Option Addr} {len cap : Nat} {zs : List Int} (h : Rd k w a len cap zs) (ho : OnlyR rb w w') (hn : ∀ q, a = some q → q.block ≠ rb) : Rd k w' a len cap zs := by
  refine ⟨h.hlen, h.hcap, h.hmax, fun i hi => ?_⟩
  obtain ⟨b, off, e, hc⟩ := h.cell i hi
  exact ⟨b, off, e, ho.cell (q := ⟨b, off + i, none⟩) (show b ≠ rb from hn _ e) hc⟩

set_option maxHeartbeats 1000000 in
set_option maxRecDepth 100000 in
theorem take_any (rb : Nat) (b nv fv : Value) (s : RsD) (m : Bool) (w : World) (hk : w.heap[rb]? = some (.cells (rdA b s nv fv) 206 (0, 0))) :
    Calls Tryz.prog 158 #[.pointer (some ⟨rb, 0, none⟩), .bool m] w fun e w' => e = .returned (.tuple #[]) ∧ OnlyR rb w w' ∧ w'.heap[rb]? = some (.cells (rdA b (rTake s m) nv fv) 206 (0, 0)) := by
  unfold rdA at hk
  have c1 : w.cell? ⟨rb, 1, none⟩ = some (.int .i64 s.at_) := by simp [World.cell?, hk]
  have c2 : w.cell? ⟨rb, 2, none⟩ = some (.int .i64 s.to_) := by simp [World.cell?, hk]
  have c3 : w.cell? ⟨rb, 3, none⟩ = some (.int .i64 s.e) := by simp [World.cell?, hk]
  have f1 : w.frozen? ⟨rb, 1, none⟩ = false := by simp [World.frozen?, hk]
  have f3 : w.frozen? ⟨rb, 3, none⟩ = false := by simp [World.frozen?, hk]
  by_cases he : s.e = 0
  · have he' : (s.e != 0) = false := by simpa using he
    cases m with
    | true =>
      have HF : Hid (OnlyR rb w (w.setCell ⟨rb, 1, none⟩ (.int .i64 s.to_)) ∧ (w.setCell ⟨rb, 1, none⟩ (.int .i64 s.to_)).heap[rb]? = some (.cells (rdA b (rTake s true) nv fv) 206 (0, 0))) := by
        refine ⟨(OnlyR.refl _ _).setCell _ _, ?_⟩
        rw [heap_setCell_same w rb 1 _ _ _ hk]
        unfold rTake
        rw [if_neg (by simpa using he)]
        rfl
      clear hk he
      go_enter Tryz.func158, Tryz.ntmps158
      go_wp2
      exact bodyPost_end (v := .tuple #[]) (results_none Tryz.results158 _ _ _) rfl ⟨rfl, HF.out⟩
    | false =>
      have HF : Hid (OnlyR rb w (w.setCell ⟨rb, 3, none⟩ (.int .i64 8)) ∧ (w.setCell ⟨rb, 3, none⟩ (.int .i64 8)).heap[rb]? = some (.cells (rdA b (rTake s false) nv fv) 206 (0, 0))) := by
        refine ⟨(OnlyR.refl _ _).setCell _ _, ?_⟩
        rw [heap_setCell_same w rb 3 _ _ _ hk]
        unfold rTake
        rw [if_neg (by simpa using he)]
        rfl
      clear hk he
      go_enter Tryz.func158, Tryz.ntmps158
      go_wp2
      exact bodyPost_ret (v := .tuple #[]) (by simp [results, Tryz.results158, go_sem]) rfl ⟨rfl, HF.out⟩
  · have he' : (s.e != 0) = true := by simpa using he
    have HF : Hid (w.heap[rb]? = some (.cells (rdA b (rTake s m) nv fv) 206 (0, 0))) := by
      show _ = _
      unfold rTake
      rw [if_pos he]
      exact hk
    clear hk he
    go_enter Tryz.func158, Tryz.ntmps158
    go_wp2
    exact bodyPost_ret (v := .tuple #[]) (by simp [results, Tryz.results158, go_sem]) rfl ⟨rfl, OnlyR.refl _ _, HF.out⟩

set_option maxHeartbeats 1000000 in
set_option maxRecDepth 100000 in
theorem rnumber_any (rb : Nat) (ba : Option Addr) (blen bcap : Nat) (bs : List Int) (nv fv : Value) (s : RsD) (w : World) (hk : w.heap[rb]? = some (.cells (rdA (.slice ba blen bcap) s nv fv) 206 (0, 0))) (hb : Rd .u8 w ba blen bcap bs) (hx : ∀ j, 0 ≤ bs.getD j 0 ∧ bs.getD j 0 ≤ 255) :
    Calls Tryz.prog 157 #[.pointer (some ⟨rb, 0, none⟩)] w fun e w' => e = .returned (.int .i64 (rNum bs s).1) ∧ OnlyR rb w w' ∧ w'.heap[rb]? = some (.cells (rdA (.slice ba blen bcap) (rNum bs s).2 nv fv) 206 (0, 0)) := by
  unfold rdA at hk
  have c0 : w.cell? ⟨rb, 0, none⟩ = some (.slice ba blen bcap) := by simp [World.cell?, hk]
  have c1 : w.cell? ⟨rb, 1, none⟩ = some (.int .i64 s.at_) := by simp [World.cell?, hk]
  have c2 : w.cell? ⟨rb, 2, none⟩ = some (.int .i64 s.to_) := by simp [World.cell?, hk]
  have c3 : w.cell? ⟨rb, 3, none⟩ = some (.int .i64 s.e) := by simp [World.cell?, hk]
  have f2 : w.frozen? ⟨rb, 2, none⟩ = false := by simp [World.frozen?, hk]
  have f3 : w.frozen? ⟨rb, 3, none⟩ = false := by simp [World.frozen?, hk]
  by_cases he : s.e = 0
  · have he' : (s.e != 0) = false := by simpa using he
    have HG := hid (fun (W : World) (h : Rd .u8 W ba blen bcap bs) => get_any ba blen bcap bs s.at_ W h hx)
    have HB := hid (hb.below (Below.refl _ w).drew (Nat.le_refl _))
    obtain ⟨⟨n, to, er⟩, hg⟩ : ∃ p, getN bs s.at_ = p := ⟨_, rfl⟩
    rw [hg] at HG
    have hn : rNum bs s = (n, { s with to_ := to, e := er }) := by unfold rNum; rw [if_neg (by simpa using he), hg]
    rw [hn]
    have k1 := heap_setCell_same w rb 2 _ _ (.int .i64 to) hk
    have k2 := heap_setCell_same _ rb 3 _ _ (.int .i64 er) k1
    have HK := hid k2
    clear hk he hb hg hn k1 k2
    go_enter Tryz.func157, Tryz.ntmps157
    go_wp2
    go_region_with (go_at_call 78; refine (HG.out _ HB.out).mono ?_; rintro e w' ⟨rfl, rfl⟩)
    all_goals
      go_wp2
      go_ret
      exact ⟨rfl, (((OnlyR.refl _ _).drewN _).setCell _ _).setCell _ _, HK.out⟩
  · have he' : (s.e != 0) = true := by simpa using he
    have hn : rNum bs s = (0, s) := by unfold rNum; rw [if_pos he]
    rw [hn]
    have HK := hid hk
    clear hk he hn hb
    go_enter Tryz.func157, Tryz.ntmps157
    go_wp2
    go_ret
    exact ⟨rfl, OnlyR.refl _ _, HK.out⟩

set_option maxHeartbeats 1000000 in
set_option maxRecDepth 100000 in
theorem rtable_any (rb : Nat) (ba : Option Addr) (blen bcap : Nat) (bs : List Int) (nv fv : Value) (s : RsD) (w : World) (hk : w.heap[rb]? = some (.cells (rdA (.slice ba blen bcap) s nv fv) 206 (0, 0))) (hb : Rd .u8 w ba blen bcap bs) (hx : ∀ j, 0 ≤ bs.getD j 0 ∧ bs.getD j 0 ≤ 255) :
    Calls Tryz.prog 206 #[.pointer (some ⟨rb, 0, none⟩)] w fun e w' => ∃ v, e = .returned v ∧ OnlyR rb w w' ∧ w'.heap[rb]? = some (.cells (rdA (.slice ba blen bcap) (rTab bs s).2 nv fv) 206 (0, 0)) ∧ w'.ownsRow w.heap.size 109 2 v (rTab bs s).1.length (flat (rTab bs s).1) := by
  unfold rdA at hk
  have hrb := (Array.getElem?_eq_some_iff.1 hk).1
  have c0 : w.cell? ⟨rb, 0, none⟩ = some (.slice ba blen bcap) := by simp [World.cell?, hk]
  have c1 : w.cell? ⟨rb, 1, none⟩ = some (.int .i64 s.at_) := by simp [World.cell?, hk]
  have c2 : w.cell? ⟨rb, 2, none⟩ = some (.int .i64 s.to_) := by simp [World.cell?, hk]
  have c3 : w.cell? ⟨rb, 3, none⟩ = some (.int .i64 s.e) := by simp [World.cell?, hk]
  by_cases he : s.e = 0
  · have he' : (s.e != 0) = false := by simpa using he
    have HG := hid (tget_any ba blen bcap bs s.at_ w.drew (hb.below (Below.refl _ w).drew (Nat.le_refl _)) hx)
    obtain ⟨⟨l, to, er⟩, hg⟩ : ∃ p, getT bs s.at_ = p := ⟨_, rfl⟩
    rw [hg] at HG
    have hn : rTab bs s = (l, { s with to_ := to, e := er }) := by unfold rTab; rw [if_neg (by simpa using he), hg]
    rw [hn]
    have HK0 := hid hk
    clear hk he hb hg hn
    go_enter Tryz.func206, Tryz.ntmps206
    go_wp2
    go_region_with (go_at_call 84; refine HG.out.mono ?_; rintro e w1 ⟨v, rfl, hown, hbel⟩)
    all_goals
      have hk1 := (hbel.block rb hrb).trans HK0.out
      have d2 : w1.cell? ⟨rb, 2, none⟩ = some (.int .i64 s.to_) := by simp [World.cell?, hk1]
      have d3 : w1.cell? ⟨rb, 3, none⟩ = some (.int .i64 s.e) := by simp [World.cell?, hk1]
      have f2 : w1.frozen? ⟨rb, 2, none⟩ = false := by simp [World.frozen?, hk1]
      have f3 : w1.frozen? ⟨rb, 3, none⟩ = false := by simp [World.frozen?, hk1]
      have hvr : v.ownBlock ≠ some rb := fun e => by have := (hown.lt rb e).1; exact absurd hrb (Nat.not_lt.2 this)
      have k2 := heap_setCell_same _ rb 3 _ _ (.int .i64 er) (heap_setCell_same w1 rb 2 _ _ (.int .i64 to) hk1)
      have HF : Hid (OnlyR rb w ((w1.setCell ⟨rb, 2, none⟩ (.int .i64 to)).setCell ⟨rb, 3, none⟩ (.int .i64 er)) ∧ ((w1.setCell ⟨rb, 2, none⟩ (.int .i64 to)).setCell ⟨rb, 3, none⟩ (.int .i64 er)).heap[rb]? = some (.cells (rdA (.slice ba blen bcap) { s with to_ := to, e := er } nv fv) 206 (0, 0)) ∧ ((w1.setCell ⟨rb, 2, none⟩ (.int .i64 to)).setCell ⟨rb, 3, none⟩ (.int .i64 er)).ownsRow w.heap.size 109 2 v l.length (flat l)) :=
        ⟨((OnlyR.below (w := w) ⟨hbel.os, hbel.tape, hbel.output, hbel.size, hbel.block⟩).setCell _ _).setCell _ _, k2, ownsRow_setCell_other (ownsRow_setCell_other hown hvr _) hvr _⟩
      clear hown hbel hk1 k2 hvr
      go_wp2
      go_ret
      exact ⟨_, rfl, HF.out⟩
  · have he' : (s.e != 0) = true := by simpa using he
    have hn : rTab bs s = ([], s) := by unfold rTab; rw [if_pos he]
    rw [hn]
    have HK := hid hk
    clear hk he hn hb
    go_enter Tryz.func206, Tryz.ntmps206
    go_wp2
    go_ret
    exact ⟨_, rfl, OnlyR.refl _ _, HK.out, World.ownsRow_nil _ _ _ _⟩

set_option maxHeartbeats 1000000 in
set_option maxRecDepth 100000 in
theorem rbytes_any (rb : Nat) (ba : Option Addr) (blen bcap : Nat) (bs : List Int) (nv fv : Value) (s : RsD) (n : Int) (w : World) (hk : w.heap[rb]? = some (.cells (rdA (.slice ba blen bcap) s nv fv) 206 (0, 0))) (hb : Rd .u8 w ba blen bcap bs) (hne : ∀ q, ba = some q → q.block ≠ rb)
    (h0 : 0 ≤ s.at_) (h1 : s.at_ ≤ bs.length) (hn : s.e = 0 → 1 ≤ n ∧ n ≤ 20) :
    Calls Tryz.prog 226 #[.pointer (some ⟨rb, 0, none⟩), .int .i64 n] w fun e w' => e = .returned (.string (rByt bs s n).1) ∧ OnlyR rb w w' ∧ w'.heap[rb]? = some (.cells (rdA (.slice ba blen bcap) (rByt bs s n).2 nv fv) 206 (0, 0)) := by
  unfold rdA at hk
  have HL := hid hb.hlen
  have hmax := hb.hmax
  have hcap := hb.hcap
  unfold maxLen at hmax
  rw [HL.out] at h1
  have c0 : w.cell? ⟨rb, 0, none⟩ = some (.slice ba blen bcap) := by simp [World.cell?, hk]
  have c1 : w.cell? ⟨rb, 1, none⟩ = some (.int .i64 s.at_) := by simp [World.cell?, hk]
  have c2 : w.cell? ⟨rb, 2, none⟩ = some (.int .i64 s.to_) := by simp [World.cell?, hk]
  have c3 : w.cell? ⟨rb, 3, none⟩ = some (.int .i64 s.e) := by simp [World.cell?, hk]
  have f2 : w.frozen? ⟨rb, 2, none⟩ = false := by simp [World.frozen?, hk]
  have f3 : w.frozen? ⟨rb, 3, none⟩ = false := by simp [World.frozen?, hk]
  by_cases he : s.e = 0
  · have he' : (s.e != 0) = false := by simpa using he
    obtain ⟨hn1, hn2⟩ := hn he
    by_cases hl : (blen : Int) - s.at_ < n
    · have hr : rByt bs s n = (ByteArray.empty, { s with e := 2 }) := by unfold rByt; rw [if_neg (by simpa using he), HL.out, if_pos hl]
      rw [hr]
      have HK := hid (heap_setCell_same w rb 3 _ _ (.int .i64 2) hk)
      clear hk he hb hr hn
      go_enter Tryz.func226, Tryz.ntmps226
      go_wp2
      go_region
      all_goals
        go_wp2
        go_ret
        exact ⟨rfl, ((OnlyR.refl _ _).drewN _).setCell _ _, HK.out⟩
    · have hl' : decide ((blen : Int) - s.at_ < n) = false := by simpa using hl
      have hr : rByt bs s n = (strOfNums ((bs.drop s.at_.toNat).take n.toNat), { s with to_ := s.at_ + n }) := by unfold rByt; rw [if_neg (by simpa using he), HL.out, if_neg hl]
      rw [hr]
      obtain ⟨A, hA⟩ := Int.eq_ofNat_of_zero_le h0
      obtain ⟨N, rfl⟩ := Int.eq_ofNat_of_zero_le (show 0 ≤ n by omega)
      rw [hA] at c1 hl hl' h1 hk ⊢
      have hAN : A + N ≤ blen := by omega
      obtain ⟨b, off, rfl, hc⟩ := hb.open (by omega)
      have hbr : b ≠ rb := hne _ rfl
      have k1 := heap_setCell_same w rb 2 _ _ (.int .i64 ((A : Int) + N)) hk
      have HK := hid k1
      have hcell : ∀ i, i < A + N - A → ((w.setCell ⟨rb, 2, none⟩ (.int .i64 ((A : Int) + N))).drew.drew).cell? ⟨b, off + A + i, none⟩ = some (.int .u8 (((bs.drop A).take N).getD i 0)) := by
        intro i hi
        have h2 := hc (A + i) (by omega)
        have h3 := (((OnlyR.refl rb w).setCell 2 (.int .i64 ((A : Int) + N))).drew.drew).cell (q := ⟨b, off + (A + i), none⟩) hbr h2
        rw [show off + A + i = off + (A + i) by omega, h3]
        have : bs.getD (A + i) 0 = ((bs.drop A).take N).getD i 0 := by simp [List.getD, show i < N by omega]
        rw [this]
      have hcv := run_convert_bytes_arg (P := Tryz.prog) ((w.setCell ⟨rb, 2, none⟩ (.int .i64 ((A : Int) + N))).drew.drew) 36 5 Tryz.underlying36 Tryz.underlying5 b (off + A) (A + N - A) (bcap - A) ((bs.drop A).take N) (by rw [List.length_take, List.length_drop, HL.out]; omega) hcell 9 Tryz.underlying9
      have eAN : A + N - A = N := by omega
      have hcv2 := hcv
      rw [eAN] at hcv2
      have eA : ((A : Int)).toNat = A := by omega
      have eN : ((N : Int)).toNat = N := by omega
      rw [eA, eN]
      generalize strOfNums ((bs.drop A).take N) = str at *
      have hcA : ¬ bcap = A := by omega
      clear hk he hb hr hn hc hcell k1 eA eN h0 hA eAN
      go_enter Tryz.func226, Tryz.ntmps226
      go_wp2
      go_region
      all_goals
        go_wp2
        go_region
      all_goals
        go_wp2
        go_ret
        exact ⟨rfl, (((OnlyR.refl _ _).drewN _).setCell _ _).drewN _, HK.out⟩
  · have he' : (s.e != 0) = true := by simpa using he
    have hr : rByt bs s n = (ByteArray.empty, s) := by unfold rByt; rw [if_pos he]
    rw [hr]
    have HK := hid hk
    clear hk he hb hr hn
    go_enter Tryz.func226, Tryz.ntmps226
    go_wp2
    go_ret
    exact ⟨rfl, OnlyR.refl _ _, HK.out⟩
end Go.Proofs.YtffnfjkjlmlonaaGreatDoor
