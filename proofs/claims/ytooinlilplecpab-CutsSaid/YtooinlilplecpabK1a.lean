/- Contracts of the developers' program.isNamed, headMayBe, isLocal, IsValue, argsMayBe: plain functions of what is handed in; nothing that was there is written. -/
import Derived.Test.YtooinlilplecpabBC
import Derived.Test.YtooinlilplecpabK0
namespace Go.Proofs.Ytooinlilplecpab
open Go.RowKit

theorem RdL.take {α : Type} {size : Nat} {R : World → List Value → α → Prop} {w : World} {a : Option Addr} {len cap : Nat} {l : List α} (h : RdL size R w a len cap l) (k : Nat) (hk : k ≤ len) : RdL size R w a k cap (l.take k) := by
  obtain ⟨h1, h2, h3, h4⟩ := h
  refine ⟨by rw [List.length_take]; omega, by omega, h3, fun i x hx => h4 i x ?_⟩
  rw [List.getElem?_take] at hx
  split at hx
  · exact hx
  · cases hx

set_option maxHeartbeats 1000000 in
set_option maxRecDepth 100000 in
theorem isNamed_any (nm : ByteArray) (a : Option Addr) (len cap : Nat) (p : List FnD) (w : World) (hr : RdP w a len cap p) :
    Calls Try.prog 44 #[.string nm, .slice a len cap] w fun e w' => e = .returned (.bool (p.any fun y => eqB y.name nm)) ∧ Below w.heap.size w w' := by
  have HL := hid hr.len
  have hcap := hr.2.1
  have hmax := hr.2.2.1
  unfold maxLen at hmax
  go_enter Try.func44, Try.ntmps44
  go_wp2
  go_loopw [9] (fun i wr => ∃ j : Nat, i = .int .i64 j ∧ j ≤ len ∧ ((p.take j).any fun y => eqB y.name nm) = false ∧ Below w.heap.size w wr) (fun i _ => len - (intOf i).toNat)
  case atStart => exact ⟨0, rfl, by omega, rfl, Below.refl _ _⟩
  case round =>
    obtain ⟨j, rfl, hj, hno, hbel⟩ := hrel
    have HNO := hid hno
    clear hno
    by_cases hjf : j < len
    · obtain ⟨y, hy⟩ : ∃ y, p[j]? = some y := ⟨_, List.getElem?_eq_getElem (by rw [HL.out]; omega)⟩
      obtain ⟨b, off, ba, bcap, rfl, _, d0, d1, d2, d3, d4, _⟩ := (hr.below hbel).at j y hy
      have hst := any_take_succ p j y (fun z => eqB z.name nm) hy
      rw [HNO.out, Bool.false_or] at hst
      obtain ⟨ym, yf, yp, yl, yb⟩ := y
      simp only at d0 d1 d2 d3 d4 hst
      have HST := hid hst
      clear hst hy hr
      generalize yb.length = nb at *
      obtain ⟨q, hq⟩ : ∃ q, q = eqB ym nm := ⟨_, rfl⟩
      rw [← hq] at HST
      have hqq : (ym.toList == nm.toList) = q := by rw [hq]; rfl
      have HQ := hid hqq
      clear hq
      have hsz := hbel.size
      cases q with
      | true =>
        have HF : Hid ((p.any fun y => eqB y.name nm) = true) := by
          show _ = _
          have e1 : p = p.take (j + 1) ++ p.drop (j + 1) := (List.take_append_drop _ _).symm
          rw [e1, List.any_append, HST.out, Bool.true_or]
        go_wp2
        go_ret
        exact ⟨ret_bool HF.out.symm, hbel.alloc hsz _⟩
      | false =>
        go_wp2
        go_roundw
        case rel => exact ⟨j + 1, by go_num, by omega, HST.out, hbel.alloc hsz _⟩
        case measure => simp [intOf]; omega
    · have HF : Hid ((p.any fun y => eqB y.name nm) = false) := by
        show _ = _
        have := HNO.out
        rw [List.take_of_length_le (by rw [HL.out]; omega)] at this
        exact this
      go_wp2
      go_ret
      exact ⟨ret_bool HF.out.symm, hbel⟩

set_option maxHeartbeats 1000000 in
set_option maxRecDepth 100000 in
theorem isLocal_any (nm fl : ByteArray) (pr lo : Int) (ba : Option Addr) (nb bcap : Nat) (n : Int) (w : World) :
    Calls Try.prog 45 #[.agg #[.string nm, .string fl, .int .i64 pr, .int .i64 lo, .slice ba nb bcap], .int .i64 n] w fun r w' => r = .returned (.bool (withB n lo)) ∧ Below w.heap.size w w' := by
  by_cases h : 0 ≤ n
  · have E : Hid (withB n lo = decide (n < lo)) := by show _ = _; simp [withB, h]
    go_enter Try.func45, Try.ntmps45
    go_wp2
    go_ret
    exact ⟨ret_bool E.out.symm, (Below.refl _ _).alloc (Nat.le_refl _) _⟩
  · have E : Hid (withB n lo = false) := by show _ = _; simp [withB, h]
    have hd : decide (0 ≤ n) = false := by simpa using h
    go_enter Try.func45, Try.ntmps45
    go_wp2
    go_ret
    exact ⟨ret_bool E.out.symm, (Below.refl _ _).alloc (Nat.le_refl _) _⟩

set_option maxHeartbeats 1000000 in
theorem pIsValue_any (n : Int) (w : World) :
    Calls Try.prog 35 #[.int .i64 n] w fun r w' => r = .returned (.bool (withB n 1000)) ∧ w' = w := by
  by_cases h : 0 ≤ n
  · have E : Hid (withB n 1000 = decide (n < 1000)) := by show _ = _; simp [withB, h]
    go_enter Try.func35, Try.ntmps35
    go_wp2
    go_ret
    exact ⟨ret_bool E.out.symm, rfl⟩
  · have E : Hid (withB n 1000 = false) := by show _ = _; simp [withB, h]
    have hd : decide (0 ≤ n) = false := by simpa using h
    go_enter Try.func35, Try.ntmps35
    go_wp2
    go_ret
    exact ⟨ret_bool E.out.symm, rfl⟩

set_option maxHeartbeats 2000000 in
set_option maxRecDepth 100000 in
theorem pArgs_any (nm fl : ByteArray) (pr lo : Int) (ba : Option Addr) (nb bcap : Nat) (aa : Option Addr) (na acap : Nat) (args : List Int) (k : Int) (w : World) (hr : Rd .i64 w aa na acap args) :
    Calls Try.prog 46 #[.agg #[.string nm, .string fl, .int .i64 pr, .int .i64 lo, .slice ba nb bcap], .slice aa na acap, .int .i64 k] w fun r w' => r = .returned (.bool (k == (na : Int) && args.all fun n => withB n lo)) ∧ Below w.heap.size w w' := by
  have HL := hid hr.hlen
  have hcap := hr.hcap
  have hmax := hr.hmax
  unfold maxLen at hmax
  by_cases hk : k = (na : Int)
  · have hk' : ((na : Int) != k) = false := by simp; omega
    have HE : Hid ((k == (na : Int) && args.all fun n => withB n lo) = args.all fun n => withB n lo) := by
      show _ = _
      have : (k == (na : Int)) = true := by simpa using hk
      rw [this, Bool.true_and]
    clear hk
    go_enter Try.func46, Try.ntmps46
    go_wp2
    obtain ⟨wb, hwb⟩ : ∃ wb, wb = w.alloc (Obj.cells #[.string nm, .string fl, .int .i64 pr, .int .i64 lo, .slice ba nb bcap] 45) := ⟨_, rfl⟩
    have hbb : Below w.heap.size w wb := by rw [hwb]; exact (Below.refl _ _).alloc (Nat.le_refl _) _
    have hbs : wb.heap.size = w.heap.size + 1 := by rw [hwb]; simp
    have hk0 : wb.heap[w.heap.size]? = some (.cells #[.string nm, .string fl, .int .i64 pr, .int .i64 lo, .slice ba nb bcap] 45 (0, 0)) := by rw [hwb]; exact heap_alloc_new _ _
    have HK := hid hk0
    go_loopw [15] (fun i wr => ∃ j : Nat, i = .int .i64 j ∧ j ≤ na ∧ ((args.take j).all fun n => withB n lo) = true ∧ Below wb.heap.size wb wr) (fun i _ => na - (intOf i).toNat)
    case atStart => exact ⟨0, rfl, by omega, rfl, by rw [hwb]; exact Below.refl _ _⟩
    case round =>
      clear hwb hk0
      obtain ⟨j, rfl, hj, hall, hbel0⟩ := hrel
      have hkr := (hbel0.block w.heap.size (by omega)).trans HK.out
      have q0 : wr.cell? ⟨w.heap.size, 0, none⟩ = some (.string nm) := by simp [World.cell?, hkr]
      have q1 : wr.cell? ⟨w.heap.size, 1, none⟩ = some (.string fl) := by simp [World.cell?, hkr]
      have q2 : wr.cell? ⟨w.heap.size, 2, none⟩ = some (.int .i64 pr) := by simp [World.cell?, hkr]
      have q3 : wr.cell? ⟨w.heap.size, 3, none⟩ = some (.int .i64 lo) := by simp [World.cell?, hkr]
      have q4 : wr.cell? ⟨w.heap.size, 4, none⟩ = some (.slice ba nb bcap) := by simp [World.cell?, hkr]
      have hsz0 := hbel0.size
      clear hkr
      have hbel := hbb.trans (hbel0.mono hbb.size)
      have HA := hid hall
      clear hall
      have hsz := hbel.size
      by_cases hjn : j < na
      · obtain ⟨b, off, rfl, hc⟩ := (hr.below hbel (Nat.le_refl _)).cell j hjn
        have hst := all_take_succ args j (args.getD j 0) (fun n => withB n lo) (by rw [List.getD_eq_getElem?_getD, List.getElem?_eq_getElem (by rw [HL.out]; exact hjn)]; rfl)
        rw [HA.out, Bool.true_and] at hst
        generalize args.getD j 0 = v at hc hst
        have HIS := hid (fun W => isLocal_any nm fl pr lo ba nb bcap v W)
        have HST := hid hst
        clear hst hr
        have hjn' : (j : Int) < (na : Int) := by omega
        obtain ⟨t, ht⟩ : ∃ t, t = withB v lo := ⟨_, rfl⟩
        rw [← ht] at HIS HST
        clear ht
        cases t with
        | true =>
          go_wp2_with fail
          refine (HIS.out _).mono ?_
          rintro e w2 ⟨rfl, hb2⟩
          go_wp2
          go_roundw
          case rel => exact ⟨j + 1, by go_num, by omega, HST.out, hbel0.trans (hb2.mono hsz0)⟩
          case measure => simp [intOf]; omega
        | false =>
          have HF : Hid ((args.all fun n => withB n lo) = false) := by
            show _ = _
            have e1 : args = args.take (j + 1) ++ args.drop (j + 1) := (List.take_append_drop _ _).symm
            rw [e1, List.all_append, HST.out, Bool.false_and]
          go_wp2_with fail
          refine (HIS.out _).mono ?_
          rintro e w2 ⟨rfl, hb2⟩
          go_wp2
          go_ret
          exact ⟨ret_bool (HE.out.trans HF.out).symm, hbel.trans (hb2.mono hsz)⟩
      · have HF : Hid ((args.all fun n => withB n lo) = true) := by
          show _ = _
          have := HA.out
          rw [List.take_of_length_le (by rw [HL.out]; omega)] at this
          exact this
        have hjn' : decide ((j : Int) < (na : Int)) = false := by simp; omega
        go_wp2
        go_ret
        exact ⟨ret_bool (HE.out.trans HF.out).symm, hbel⟩
  · have hk' : ((na : Int) != k) = true := by simp; omega
    have HF : Hid ((k == (na : Int) && args.all fun n => withB n lo) = false) := by
      show _ = _
      have : (k == (na : Int)) = false := by simpa using hk
      rw [this, Bool.false_and]
    clear hk
    go_enter Try.func46, Try.ntmps46
    go_wp2
    go_ret
    exact ⟨ret_bool HF.out.symm, (Below.refl _ _).alloc (Nat.le_refl _) _⟩
end Go.Proofs.Ytooinlilplecpab
