/- Contracts of the developers' program.isNamed, headMayBe, isLocal, IsValue, argsMayBe: plain functions of what is handed in; nothing that was there is written. Frames of the developers' run, how they lie in memory, and contracts of run.goOn, jump, result: plain functions of what is handed in; nothing that was there is written. Contract of the developers' (*run.Run).op: the op at which a frame is. Contract of the developers' (*code.writer).isInlined: is an op a Call that is inlined? -/
import Derived.Test.YtffnfjkjlmlonaaGreatDoorZ4
import Derived.Test.YtffnfjkjlmlonaaGreatDoorZ9
import Derived.Test.YtffnfjkjlmlonaaGreatDoorZ8
import Derived.Deep.RegionHeld
namespace Go.Proofs.YtffnfjkjlmlonaaGreatDoor
open Go.RowKit

theorem RdL.take {α : Type} {size : Nat} {R : World → List Value → α → Prop} {w : World} {a : Option Addr} {len cap : Nat} {l : List α} (h : RdL size R w a len cap l) (k : Nat) (hk : k ≤ len) : RdL size R w a k cap (l.take k) := by
  obtain ⟨h1, h2, h3, h4⟩ := h
  refine ⟨by rw [List.length_take]; omega, by omega, h3, fun i x hx => h4 i x ?_⟩
  rw [List.getElem?_take] at hx
  split at hx
  · exact hx
  · cases hx

set_option maxHeartbeats 1000000 in
set_option maxRecDepth 100000 in
theorem isNamed_any (nm : ByteArray) (a : Option Addr) (len cap : Nat) (p : List FnD) (w : World) (hr : RdP w a len cap p) :
    Calls Tryz.prog 187 #[.string nm, .slice a len cap] w fun e w' => e = .returned (.bool (p.any fun y => eqB y.name nm)) ∧ Below w.heap.size w w' := by
  have HL := hid hr.len
  have hcap := hr.2.1
  have hmax := hr.2.2.1
  unfold maxLen at hmax
  go_enter Tryz.func187, Tryz.ntmps187
  go_wp2
  go_loopw [9] (fun i wr => ∃ j : Nat, i = .int .i64 j ∧ j ≤ len ∧ ((p.take j).any fun y => eqB y.name nm) = false ∧ Below w.heap.size w wr) (fun i _ => len - (intOf i).toNat)
  case atStart => exact ⟨0, rfl, by omega, rfl, Below.refl _ _⟩
  case round =>
    obtain ⟨j, rfl, hj, hno, hbel⟩ := hrel
    have HNO := hid hno
    clear hno
    by_cases hjf : j < len
    · obtain ⟨y, hy⟩ : ∃ y, p[j]? = some y := ⟨_, List.getElem?_eq_getElem (by rw [HL.out]; omega)⟩
      obtain ⟨b, off, ba, bcap, rfl, _, d0, d1, d2, d3, d4, _⟩ := (hr.below hbel).at j y hy
      have hst := any_take_succ p j y (fun z => eqB z.name nm) hy
      rw [HNO.out, Bool.false_or] at hst
      obtain ⟨ym, yf, yp, yl, yb⟩ := y
      simp only at d0 d1 d2 d3 d4 hst
      have HST := hid hst
      clear hst hy hr
      generalize yb.length = nb at *
      obtain ⟨q, hq⟩ : ∃ q, q = eqB ym nm := ⟨_, rfl⟩
      rw [← hq] at HST
      have hqq : (ym.toList == nm.toList) = q := by rw [hq]; rfl
      have HQ := hid hqq
      clear hq
      have hsz := hbel.size
      cases q with
      | true =>
        have HF : Hid ((p.any fun y => eqB y.name nm) = true) := by
          show _ = _
          have e1 : p = p.take (j + 1) ++ p.drop (j + 1) := (List.take_append_drop _ _).symm
          rw [e1, List.any_append, HST.out, Bool.true_or]
        go_wp2
        go_ret
        exact ⟨ret_bool HF.out.symm, hbel.alloc hsz _⟩
      | false =>
        go_wp2
        go_roundw
        case rel => exact ⟨j + 1, by go_num, by omega, HST.out, hbel.alloc hsz _⟩
        case measure => simp [intOf]; omega
    · have HF : Hid ((p.any fun y => eqB y.name nm) = false) := by
        show _ = _
        have := HNO.out
        rw [List.take_of_length_le (by rw [HL.out]; omega)] at this
        exact this
      go_wp2
      go_ret
      exact ⟨ret_bool HF.out.symm, hbel⟩

set_option maxHeartbeats 1000000 in
set_option maxRecDepth 100000 in
theorem isLocal_any (nm fl : ByteArray) (pr lo : Int) (ba : Option Addr) (nb bcap : Nat) (n : Int) (w : World) :
    Calls Tryz.prog 188 #[.agg #[.string nm, .string fl, .int .i64 pr, .int .i64 lo, .slice ba nb bcap], .int .i64 n] w fun r w' => r = .returned (.bool (withB n lo)) ∧ Below w.heap.size w w' := by
  by_cases h : 0 ≤ n
  · have E : Hid (withB n lo = decide (n < lo)) := by show _ = _; simp [withB, h]
    go_enter Tryz.func188, Tryz.ntmps188
    go_wp2
    go_ret
    exact ⟨ret_bool E.out.symm, (Below.refl _ _).alloc (Nat.le_refl _) _⟩
  · have E : Hid (withB n lo = false) := by show _ = _; simp [withB, h]
    have hd : decide (0 ≤ n) = false := by simpa using h
    go_enter Tryz.func188, Tryz.ntmps188
    go_wp2
    go_ret
    exact ⟨ret_bool E.out.symm, (Below.refl _ _).alloc (Nat.le_refl _) _⟩

set_option maxHeartbeats 1000000 in
theorem pIsValue_any (n : Int) (w : World) :
    Calls Tryz.prog 189 #[.int .i64 n] w fun r w' => r = .returned (.bool (withB n 1000)) ∧ w' = w := by
  by_cases h : 0 ≤ n
  · have E : Hid (withB n 1000 = decide (n < 1000)) := by show _ = _; simp [withB, h]
    go_enter Tryz.func189, Tryz.ntmps189
    go_wp2
    go_ret
    exact ⟨ret_bool E.out.symm, rfl⟩
  · have E : Hid (withB n 1000 = false) := by show _ = _; simp [withB, h]
    have hd : decide (0 ≤ n) = false := by simpa using h
    go_enter Tryz.func189, Tryz.ntmps189
    go_wp2
    go_ret
    exact ⟨ret_bool E.out.symm, rfl⟩

set_option maxHeartbeats 2000000 in
set_option maxRecDepth 100000 in
theorem pArgs_any (nm fl : ByteArray) (pr lo : Int) (ba : Option Addr) (nb bcap : Nat) (aa : Option Addr) (na acap : Nat) (args : List Int) (k : Int) (w : World) (hr : Rd .i64 w aa na acap args) :
    Calls Tryz.prog 190 #[.agg #[.string nm, .string fl, .int .i64 pr, .int .i64 lo, .slice ba nb bcap], .slice aa na acap, .int .i64 k] w fun r w' => r = .returned (.bool (k == (na : Int) && args.all fun n => withB n lo)) ∧ Below w.heap.size w w' := by
  have HL := hid hr.hlen
  have hcap := hr.hcap
  have hmax := hr.hmax
  unfold maxLen at hmax
  by_cases hk : k = (na : Int)
  · have hk' : ((na : Int) != k) = false := by simp; omega
    have HE : Hid ((k == (na : Int) && args.all fun n => withB n lo) = args.all fun n => withB n lo) := by
      show _ = _
      have : (k == (na : Int)) = true := by simpa using hk
      rw [this, Bool.true_and]
    clear hk
    go_enter Tryz.func190, Tryz.ntmps190
    go_wp2
    obtain ⟨wb, hwb⟩ : ∃ wb, wb = w.alloc (Obj.cells #[.string nm, .string fl, .int .i64 pr, .int .i64 lo, .slice ba nb bcap] 122) := ⟨_, rfl⟩
    have hbb : Below w.heap.size w wb := by rw [hwb]; exact (Below.refl _ _).alloc (Nat.le_refl _) _
    have hbs : wb.heap.size = w.heap.size + 1 := by rw [hwb]; simp
    have hk0 : wb.heap[w.heap.size]? = some (.cells #[.string nm, .string fl, .int .i64 pr, .int .i64 lo, .slice ba nb bcap] 122 (0, 0)) := by rw [hwb]; exact heap_alloc_new _ _
    have HK := hid hk0
    go_loopw [15] (fun i wr => ∃ j : Nat, i = .int .i64 j ∧ j ≤ na ∧ ((args.take j).all fun n => withB n lo) = true ∧ Below wb.heap.size wb wr) (fun i _ => na - (intOf i).toNat)
    case atStart => exact ⟨0, rfl, by omega, rfl, by rw [hwb]; exact Below.refl _ _⟩
    case round =>
      clear hwb hk0
      obtain ⟨j, rfl, hj, hall, hbel0⟩ := hrel
      have hkr := (hbel0.block w.heap.size (by omega)).trans HK.out
      have q0 : wr.cell? ⟨w.heap.size, 0, none⟩ = some (.string nm) := by simp [World.cell?, hkr]
      have q1 : wr.cell? ⟨w.heap.size, 1, none⟩ = some (.string fl) := by simp [World.cell?, hkr]
      have q2 : wr.cell? ⟨w.heap.size, 2, none⟩ = some (.int .i64 pr) := by simp [World.cell?, hkr]
      have q3 : wr.cell? ⟨w.heap.size, 3, none⟩ = some (.int .i64 lo) := by simp [World.cell?, hkr]
      have q4 : wr.cell? ⟨w.heap.size, 4, none⟩ = some (.slice ba nb bcap) := by simp [World.cell?, hkr]
      have hsz0 := hbel0.size
      clear hkr
      have hbel := hbb.trans (hbel0.mono hbb.size)
      have HA := hid hall
      clear hall
      have hsz := hbel.size
      by_cases hjn : j < na
      · obtain ⟨b, off, rfl, hc⟩ := (hr.below hbel (Nat.le_refl _)).cell j hjn
        have hst := all_take_succ args j (args.getD j 0) (fun n => withB n lo) (by rw [List.getD_eq_getElem?_getD, List.getElem?_eq_getElem (by rw [HL.out]; exact hjn)]; rfl)
        rw [HA.out, Bool.true_and] at hst
        generalize args.getD j 0 = v at hc hst
        have HIS := hid (fun W => isLocal_any nm fl pr lo ba nb bcap v W)
        have HST := hid hst
        clear hst hr
        have hjn' : (j : Int) < (na : Int) := by omega
        obtain ⟨t, ht⟩ : ∃ t, t = withB v lo := ⟨_, rfl⟩
        rw [← ht] at HIS HST
        clear ht
        cases t with
        | true =>
          go_wp2_with fail
          refine (HIS.out _).mono ?_
          rintro e w2 ⟨rfl, hb2⟩
          go_wp2
          go_roundw
          case rel => exact ⟨j + 1, by go_num, by omega, HST.out, hbel0.trans (hb2.mono hsz0)⟩
          case measure => simp [intOf]; omega
        | false =>
          have HF : Hid ((args.all fun n => withB n lo) = false) := by
            show _ = _
            have e1 : args = args.take (j + 1) ++ args.drop (j + 1) := (List.take_append_drop _ _).symm
            rw [e1, List.all_append, HST.out, Bool.false_and]
          go_wp2_with fail
          refine (HIS.out _).mono ?_
          rintro e w2 ⟨rfl, hb2⟩
          go_wp2
          go_ret
          exact ⟨ret_bool (HE.out.trans HF.out).symm, hbel.trans (hb2.mono hsz)⟩
      · have HF : Hid ((args.all fun n => withB n lo) = true) := by
          show _ = _
          have := HA.out
          rw [List.take_of_length_le (by rw [HL.out]; omega)] at this
          exact this
        have hjn' : decide ((j : Int) < (na : Int)) = false := by simp; omega
        go_wp2
        go_ret
        exact ⟨ret_bool (HE.out.trans HF.out).symm, hbel⟩
  · have hk' : ((na : Int) != k) = true := by simp; omega
    have HF : Hid ((k == (na : Int) && args.all fun n => withB n lo) = false) := by
      show _ = _
      have : (k == (na : Int)) = false := by simpa using hk
      rw [this, Bool.false_and]
    clear hk
    go_enter Tryz.func190, Tryz.ntmps190
    go_wp2
    go_ret
    exact ⟨ret_bool HF.out.symm, (Below.refl _ _).alloc (Nat.le_refl _) _⟩
end Go.Proofs.YtffnfjkjlmlonaaGreatDoor
namespace Go.Proofs.YtffnfjkjlmlonaaGreatDoor
open Go.RowKit

/-- Eight locals: those that a frame has, and noughts. -/
def pad8 (l : List Int) : List Int := l ++ List.replicate (8 - l.length) 0
def frmCells (x : LiveD) : List Value := .int .i64 x.fn :: .int .i64 x.next :: (pad8 x.locals).map (Value.int .i64)

theorem pad8_len {l : List Int} (h : l.length ≤ 8) : (pad8 l).length = 8 := by simp [pad8]; omega
theorem pad8_get {l : List Int} {k : Nat} (h : k < l.length) : (pad8 l).getD k 0 = (l[k]?).getD 0 := by
  unfold pad8
  rw [List.getD_eq_getElem?_getD, List.getElem?_append_left h]
theorem pad8_set {l : List Int} {k : Nat} {v : Int} (h : k < l.length) : pad8 (l.set k v) = (pad8 l).set k v := by
  unfold pad8
  rw [List.set_append_left _ _ h, List.length_set]
theorem eight {l : List Int} (h : l.length = 8) : ∃ a b c d e f g i, l = [a, b, c, d, e, f, g, i] := by
  match l, h with
  | [a, b, c, d, e, f, g, i], _ => exact ⟨a, b, c, d, e, f, g, i, rfl⟩

set_option maxHeartbeats 4000000 in
set_option maxRecDepth 100000 in
theorem goOn_any (x : LiveD) (k : Nat) (v : Int) (w : World) (hl : x.locals.length ≤ 8) (hk : k < x.locals.length) (hn : 0 ≤ x.next ∧ x.next ≤ 1000) :
    Calls Tryz.prog 222 #[.agg (frmCells x).toArray, .int .i64 k, .int .i64 v] w fun e w' => e = .returned (.agg (frmCells ⟨x.fn, x.next + 1, x.locals.set k v⟩).toArray) ∧ Below w.heap.size w w' := by
  obtain ⟨fn, nx, l⟩ := x
  simp only at hl hk hn ⊢
  have hps : (pad8 (l.set k v)) = (pad8 l).set k v := pad8_set hk
  have hpl := pad8_len hl
  unfold frmCells
  simp only
  rw [hps]
  generalize pad8 l = q at *
  obtain ⟨a, b, c, d, e, f, g, i, rfl⟩ := eight hpl
  have hk8 : k < 8 := by omega
  obtain ⟨hn1, hn2⟩ := hn
  clear hps hpl hk hl
  have hkk : k = 0 ∨ k = 1 ∨ k = 2 ∨ k = 3 ∨ k = 4 ∨ k = 5 ∨ k = 6 ∨ k = 7 := by omega
  clear hk8
  rcases hkk with rfl | rfl | rfl | rfl | rfl | rfl | rfl | rfl
  all_goals
    go_enter Tryz.func222, Tryz.ntmps222
    go_wp2
    refine bodyPost_ret ?h rfl ⟨rfl, ?b⟩
    case h => simp [results, Tryz.results222, go_sem]
    case b => exact ((Below.refl _ _).alloc (Nat.le_refl _) _).alloc (by simp) _

set_option maxHeartbeats 4000000 in
set_option maxRecDepth 100000 in
theorem jump_any (x : LiveD) (k : Nat) (oc ol ob od : Int) (ov : Value) (w : World) (hl : x.locals.length ≤ 8) (hk : k < x.locals.length) (hn : 0 ≤ x.next ∧ x.next ≤ 1000) (aa : Option Addr) (na acap : Nat) (hov : ov = .slice aa na acap) :
    Calls Tryz.prog 218 #[.agg (frmCells x).toArray, .agg #[.int .i64 oc, .int .i64 ol, .int .i64 k, .int .i64 ob, .int .i64 od, ov]] w fun e w' => e = .returned (.agg (frmCells ⟨x.fn, if locOf x k = 0 then x.next + 1 else ob, x.locals⟩).toArray) ∧ Below w.heap.size w w' := by
  subst hov
  obtain ⟨fn, nx, l⟩ := x
  simp only at hl hk hn ⊢
  have hgt : (pad8 l).getD k 0 = locOf ⟨fn, nx, l⟩ k := by rw [pad8_get hk]; simp [locOf]
  have hpl := pad8_len hl
  unfold frmCells
  simp only
  rw [← hgt]
  generalize pad8 l = q at *
  obtain ⟨a, b, c, d, e, f, g, i, rfl⟩ := eight hpl
  have hkk : k = 0 ∨ k = 1 ∨ k = 2 ∨ k = 3 ∨ k = 4 ∨ k = 5 ∨ k = 6 ∨ k = 7 := by omega
  obtain ⟨hn1, hn2⟩ := hn
  clear hgt hpl hk hl
  obtain ⟨z, hz⟩ : ∃ z, z = [a, b, c, d, e, f, g, i].getD k 0 := ⟨_, rfl⟩
  rw [← hz]
  by_cases hz0 : z = 0
  · rw [if_pos hz0]
    rcases hkk with rfl | rfl | rfl | rfl | rfl | rfl | rfl | rfl
    all_goals
      simp at hz
      rw [hz] at hz0
      subst hz0
      clear hz
      go_enter Tryz.func218, Tryz.ntmps218
      go_wp2
      refine bodyPost_ret ?h rfl ⟨rfl, ?b⟩
      case h => simp [results, Tryz.results218, go_sem]
      case b => exact (((Below.refl _ _).alloc (Nat.le_refl _) _).alloc (by simp) _).alloc (by simp; omega) _
  · rw [if_neg hz0]
    rcases hkk with rfl | rfl | rfl | rfl | rfl | rfl | rfl | rfl
    all_goals
      simp at hz
      subst hz
      have hz' : (z != 0) = true := by simpa using hz0
      go_enter Tryz.func218, Tryz.ntmps218
      go_wp2
      refine bodyPost_ret ?h rfl ⟨rfl, ?b⟩
      case h => simp [results, Tryz.results218, go_sem]
      case b => exact (((Below.refl _ _).alloc (Nat.le_refl _) _).alloc (by simp) _).alloc (by simp; omega) _
end Go.Proofs.YtffnfjkjlmlonaaGreatDoor
namespace Go.Proofs.YtffnfjkjlmlonaaGreatDoor
open Go.RowKit

set_option maxHeartbeats 4000000 in
set_option maxRecDepth 100000 in
theorem op_any (rb : Nat) (p : List FnD) (pa : Option Addr) (pcap : Nat) (x : LiveD) (w : World) (hc : w.cell? ⟨rb, 0, none⟩ = some (.slice pa p.length pcap)) (hp : RdP w pa p.length pcap p) (hx : WfLive p x) (hl : x.locals.length ≤ 8) :
    Calls Tryz.prog 196 #[.pointer (some ⟨rb, 0, none⟩), .agg (frmCells x).toArray] w fun e w' =>
      ∃ oa ocap, e = .returned (.agg #[.int .i64 (opOf p x).code, .int .i64 (opOf p x).line, .int .i64 (opOf p x).a, .int .i64 (opOf p x).b, .int .i64 (opOf p x).c, .slice oa (opOf p x).args.length ocap]) ∧ Rd .i64 w' oa (opOf p x).args.length ocap (opOf p x).args ∧ Below w.heap.size w w' := by
  have hcn := hx.next
  have hcf := hx.fn
  obtain ⟨pb, poff, ba, bcap, rfl, -, -, -, -, -, c4, hrb, -, -⟩ := hp.at x.fn.toNat _ (fnOf_some hx)
  obtain ⟨qb, qoff, oa, ocap, rfl, -, q0, q1, q2, q3, q4, q5, hro⟩ := hrb.opAt x.next.toNat _ (opOf_some hx)
  have hbl1 := hrb.2.1
  have hbl2 := hrb.2.2.1
  have hpc1 := hp.2.1
  have hpc2 := hp.2.2.1
  unfold maxLen at hbl2 hpc2
  have hlr := World.block_lt_of_cell? w _ hc
  have lt1 := World.block_lt_of_cell? w _ c4
  have lt2 := World.block_lt_of_cell? w _ q0
  simp only at hlr lt1 lt2
  obtain ⟨fN, hfN⟩ : ∃ n : Nat, x.fn = n := ⟨x.fn.toNat, by omega⟩
  obtain ⟨sN, hsN⟩ : ∃ n : Nat, x.next = n := ⟨x.next.toNat, by omega⟩
  have hfp : fN < p.length := by omega
  have hsb : sN < (fnOf p x).body.length := by omega
  rw [hfN] at c4
  rw [hsN] at q0 q1 q2 q3 q4 q5
  simp only [Int.toNat_natCast] at c4 q0 q1 q2 q3 q4 q5
  have HRO := hid hro
  generalize opOf p x = o at *
  obtain ⟨oc, ol, oaa, ob, od, args⟩ := o
  simp only at *
  generalize (fnOf p x).body.length = bl at *
  generalize p.length = pl at *
  have hpl8 := pad8_len hl
  unfold frmCells
  rw [hfN, hsN]
  obtain ⟨xf, xn, xl⟩ := x
  simp only at *
  generalize pad8 xl = q at *
  obtain ⟨l0, l1, l2, l3, l4, l5, l6, l7, rfl⟩ := eight hpl8
  obtain ⟨na, hna⟩ : ∃ v, v = args.length := ⟨_, rfl⟩
  rw [← hna] at q5 HRO ⊢
  clear hro hrb hp hx hcn hcf hpl8 hl hfN hsN hna
  simp only [List.map_cons, List.map_nil]
  obtain ⟨wb, hwb⟩ : ∃ wb, wb = (w.alloc (Obj.cells #[.int .i64 fN, .int .i64 sN, .int .i64 l0, .int .i64 l1, .int .i64 l2, .int .i64 l3, .int .i64 l4, .int .i64 l5, .int .i64 l6, .int .i64 l7] 248)).alloc (Obj.cells #[.int .i64 0, .int .i64 0, .int .i64 0, .int .i64 0, .int .i64 0, .slice none 0 0] 183) := ⟨_, rfl⟩
  have hbb : Below w.heap.size w wb := by rw [hwb]; exact ((Below.refl _ _).alloc (Nat.le_refl _) _).alloc (by simp) _
  have hbs : wb.heap.size = w.heap.size + 2 := by rw [hwb]; simp
  have k0 : wb.heap[w.heap.size]? = some (.cells #[.int .i64 fN, .int .i64 sN, .int .i64 l0, .int .i64 l1, .int .i64 l2, .int .i64 l3, .int .i64 l4, .int .i64 l5, .int .i64 l6, .int .i64 l7] 248 (0, 0)) := by rw [hwb]; exact heap_at1 (by simp <;> omega) (heap_new_at (by simp))
  have k1 : wb.heap[w.heap.size + 1]? = some (.cells #[.int .i64 0, .int .i64 0, .int .i64 0, .int .i64 0, .int .i64 0, .slice none 0 0] 183 (0, 0)) := by rw [hwb]; exact heap_new_at (by simp)
  go_enter Tryz.func196, Tryz.ntmps196
  go_wp2
  rw [← hwb]
  clear hwb
  have up : ∀ (q : Addr) (u : Value), w.cell? q = some u → wb.cell? q = some u := fun q u h => (hbb.cell (World.block_lt_of_cell? w _ h)).trans h
  have s0 := up _ _ hc
  have s3 := up _ _ c4
  have p0 := up _ _ q0
  have p1 := up _ _ q1
  have p2 := up _ _ q2
  have p3 := up _ _ q3
  have p4 := up _ _ q4
  have p5 := up _ _ q5
  have s1 : wb.cell? ⟨w.heap.size, 0, none⟩ = some (.int .i64 fN) := by simp [World.cell?, k0]
  have s2 : wb.cell? ⟨w.heap.size, 1, none⟩ = some (.int .i64 sN) := by simp [World.cell?, k0]
  have z0 : wb.cell? ⟨w.heap.size + 1, 0, none⟩ = some (.int .i64 0) := by simp [World.cell?, k1]
  have z1 : wb.cell? ⟨w.heap.size + 1, 1, none⟩ = some (.int .i64 0) := by simp [World.cell?, k1]
  have z2 : wb.cell? ⟨w.heap.size + 1, 2, none⟩ = some (.int .i64 0) := by simp [World.cell?, k1]
  have z3 : wb.cell? ⟨w.heap.size + 1, 3, none⟩ = some (.int .i64 0) := by simp [World.cell?, k1]
  have z4 : wb.cell? ⟨w.heap.size + 1, 4, none⟩ = some (.int .i64 0) := by simp [World.cell?, k1]
  have z5 : wb.cell? ⟨w.heap.size + 1, 5, none⟩ = some (.slice none 0 0) := by simp [World.cell?, k1]
  have f0 : wb.frozen? ⟨w.heap.size + 1, 0, none⟩ = false := by simp [World.frozen?, k1]
  have f1 : wb.frozen? ⟨w.heap.size + 1, 1, none⟩ = false := by simp [World.frozen?, k1]
  have f2 : wb.frozen? ⟨w.heap.size + 1, 2, none⟩ = false := by simp [World.frozen?, k1]
  have f3 : wb.frozen? ⟨w.heap.size + 1, 3, none⟩ = false := by simp [World.frozen?, k1]
  have f4 : wb.frozen? ⟨w.heap.size + 1, 4, none⟩ = false := by simp [World.frozen?, k1]
  have f5 : wb.frozen? ⟨w.heap.size + 1, 5, none⟩ = false := by simp [World.frozen?, k1]
  have HU := hid (fun (W : World) (h : Below (w.heap.size + 1) wb W) (q : Addr) (u : Value) (hq : q.block < w.heap.size + 1) (hc : wb.cell? q = some u) => (h.cell hq).trans hc)
  have KS := hid (fun (W : World) (h : Below (w.heap.size + 1) wb W) => (⟨h, HU.out W h _ _ (by simp; omega) s0, HU.out W h _ _ (by simp) s1, HU.out W h _ _ (by simp) s2, HU.out W h _ _ (by simp; omega) s3, HU.out W h _ _ (by simp; omega) p0, HU.out W h _ _ (by simp; omega) p1, HU.out W h _ _ (by simp; omega) p2, HU.out W h _ _ (by simp; omega) p3, HU.out W h _ _ (by simp; omega) p4, HU.out W h _ _ (by simp; omega) p5⟩ : Below (w.heap.size + 1) wb W ∧ W.cell? ⟨rb, 0, none⟩ = some (.slice (some ⟨pb, poff, none⟩) pl pcap) ∧ W.cell? ⟨w.heap.size, 0, none⟩ = some (.int .i64 fN) ∧ W.cell? ⟨w.heap.size, 1, none⟩ = some (.int .i64 sN) ∧ W.cell? ⟨pb, poff + fN * 5 + 4, none⟩ = some (.slice (some ⟨qb, qoff, none⟩) bl bcap) ∧ W.cell? ⟨qb, qoff + sN * 6, none⟩ = some (.int .i64 oc) ∧ W.cell? ⟨qb, qoff + sN * 6 + 1, none⟩ = some (.int .i64 ol) ∧ W.cell? ⟨qb, qoff + sN * 6 + 2, none⟩ = some (.int .i64 oaa) ∧ W.cell? ⟨qb, qoff + sN * 6 + 3, none⟩ = some (.int .i64 ob) ∧ W.cell? ⟨qb, qoff + sN * 6 + 4, none⟩ = some (.int .i64 od) ∧ W.cell? ⟨qb, qoff + sN * 6 + 5, none⟩ = some (.slice oa na ocap)))
  clear s0 s1 s2 s3 p0 p1 p2 p3 p4 p5 hc c4 q0 q1 q2 q3 q4 q5 up k0 k1
  go_region_held (fun W => Below (w.heap.size + 1) wb W ∧ W.cell? ⟨rb, 0, none⟩ = some (.slice (some ⟨pb, poff, none⟩) pl pcap) ∧ W.cell? ⟨w.heap.size, 0, none⟩ = some (.int .i64 fN) ∧ W.cell? ⟨w.heap.size, 1, none⟩ = some (.int .i64 sN) ∧ W.cell? ⟨pb, poff + fN * 5 + 4, none⟩ = some (.slice (some ⟨qb, qoff, none⟩) bl bcap) ∧ W.cell? ⟨qb, qoff + sN * 6, none⟩ = some (.int .i64 oc) ∧ W.cell? ⟨qb, qoff + sN * 6 + 1, none⟩ = some (.int .i64 ol) ∧ W.cell? ⟨qb, qoff + sN * 6 + 2, none⟩ = some (.int .i64 oaa) ∧ W.cell? ⟨qb, qoff + sN * 6 + 3, none⟩ = some (.int .i64 ob) ∧ W.cell? ⟨qb, qoff + sN * 6 + 4, none⟩ = some (.int .i64 od) ∧ W.cell? ⟨qb, qoff + sN * 6 + 5, none⟩ = some (.slice oa na ocap))
    ((refine KS.out _ ?_; first | with_reducible exact (Below.refl _ _).drew | with_reducible exact (((((((Below.refl _ _).setCell (p := ⟨w.heap.size + 1, 0, none⟩) (Nat.le_refl _) _).setCell (p := ⟨w.heap.size + 1, 1, none⟩) (Nat.le_refl _) _).setCell (p := ⟨w.heap.size + 1, 2, none⟩) (Nat.le_refl _) _).setCell (p := ⟨w.heap.size + 1, 3, none⟩) (Nat.le_refl _) _).setCell (p := ⟨w.heap.size + 1, 4, none⟩) (Nat.le_refl _) _).setCell (p := ⟨w.heap.size + 1, 5, none⟩) (Nat.le_refl _) _).drew))
    (fail)
  have HBE := hid ((((((hbb.setCell (p := ⟨w.heap.size + 1, 0, none⟩) (Nat.le_succ _) (.int .i64 oc)).setCell (p := ⟨w.heap.size + 1, 1, none⟩) (Nat.le_succ _) (.int .i64 ol)).setCell (p := ⟨w.heap.size + 1, 2, none⟩) (Nat.le_succ _) (.int .i64 oaa)).setCell (p := ⟨w.heap.size + 1, 3, none⟩) (Nat.le_succ _) (.int .i64 ob)).setCell (p := ⟨w.heap.size + 1, 4, none⟩) (Nat.le_succ _) (.int .i64 od)).setCell (p := ⟨w.heap.size + 1, 5, none⟩) (Nat.le_succ _) (.slice oa na ocap)).drew
  obtain ⟨w2, hw2⟩ : ∃ w2, w2 = ((((((wb.setCell ⟨w.heap.size + 1, 0, none⟩ (.int .i64 oc)).setCell ⟨w.heap.size + 1, 1, none⟩ (.int .i64 ol)).setCell ⟨w.heap.size + 1, 2, none⟩ (.int .i64 oaa)).setCell ⟨w.heap.size + 1, 3, none⟩ (.int .i64 ob)).setCell ⟨w.heap.size + 1, 4, none⟩ (.int .i64 od)).setCell ⟨w.heap.size + 1, 5, none⟩ (.slice oa na ocap)).drew := ⟨_, rfl⟩
  have y0 : w2.cell? ⟨w.heap.size + 1, 0, none⟩ = some (.int .i64 oc) := by rw [hw2]; simp [go_sem, z0]
  have y1 : w2.cell? ⟨w.heap.size + 1, 1, none⟩ = some (.int .i64 ol) := by rw [hw2]; simp [go_sem, z1]
  have y2 : w2.cell? ⟨w.heap.size + 1, 2, none⟩ = some (.int .i64 oaa) := by rw [hw2]; simp [go_sem, z2]
  have y3 : w2.cell? ⟨w.heap.size + 1, 3, none⟩ = some (.int .i64 ob) := by rw [hw2]; simp [go_sem, z3]
  have y4 : w2.cell? ⟨w.heap.size + 1, 4, none⟩ = some (.int .i64 od) := by rw [hw2]; simp [go_sem, z4]
  have y5 : w2.cell? ⟨w.heap.size + 1, 5, none⟩ = some (.slice oa na ocap) := by rw [hw2]; simp [go_sem, z5]
  rw [← hw2] at HBE ⊢
  clear hw2 KS HU z0 z1 z2 z3 z4 z5 f0 f1 f2 f3 f4 f5
  go_wp2
  exact bodyPost_ret (v := .agg #[.int .i64 oc, .int .i64 ol, .int .i64 oaa, .int .i64 ob, .int .i64 od, .slice oa na ocap]) (by simp [results, Tryz.results196, go_sem, y0, y1, y2, y3, y4, y5]) rfl ⟨oa, ocap, rfl, HRO.out.below HBE.out (Nat.le_refl _), HBE.out⟩
end Go.Proofs.YtffnfjkjlmlonaaGreatDoor
namespace Go.Proofs.YtffnfjkjlmlonaaGreatDoor
open Go.RowKit

def arB (ar : List Int) (i : Nat) : Bool := ar.contains (i : Int)
/-- The functions around an instance, as an array of truths. -/
def arCells (ar : List Int) : List Value := [.bool (arB ar 0), .bool (arB ar 1), .bool (arB ar 2), .bool (arB ar 3), .bool (arB ar 4), .bool (arB ar 5), .bool (arB ar 6), .bool (arB ar 7), .bool (arB ar 8), .bool (arB ar 9), .bool (arB ar 10), .bool (arB ar 11)]
theorem arCells_get (ar : List Int) (i : Nat) (h : i < 12) : (arCells ar)[i]? = some (.bool (arB ar i)) := by
  match i, h with
  | 0, _ => rfl
  | 1, _ => rfl
  | 2, _ => rfl
  | 3, _ => rfl
  | 4, _ => rfl
  | 5, _ => rfl
  | 6, _ => rfl
  | 7, _ => rfl
  | 8, _ => rfl
  | 9, _ => rfl
  | 10, _ => rfl
  | 11, _ => rfl
theorem arB_cons (ar : List Int) (n i : Nat) : arB ((n : Int) :: ar) i = (decide (i = n) || arB ar i) := by
  unfold arB
  rw [List.contains_cons]
  congr 1
  by_cases h : i = n
  · simp [h]
  · simp [h]; omega
theorem arCells_len (ar : List Int) : (arCells ar).length = 12 := rfl
theorem arCells_set (ar : List Int) (n : Nat) : (arCells ar).set n (.bool true) = arCells ((n : Int) :: ar) := by
  refine List.ext_getElem? fun i => ?_
  by_cases hi : i < 12
  · rw [arCells_get _ i hi, List.getElem?_set, arB_cons]
    by_cases hn : n = i
    · subst hn
      rw [if_pos rfl, if_pos (by rw [arCells_len]; exact hi)]
      simp
    · rw [if_neg hn, arCells_get _ i hi]
      have : decide (i = n) = false := by simp; omega
      rw [this]
      simp
  · rw [List.getElem?_eq_none (by rw [List.length_set, arCells_len]; omega), List.getElem?_eq_none (by rw [arCells_len]; omega)]

set_option maxHeartbeats 4000000 in
set_option maxRecDepth 100000 in
theorem isInl_any (wb : Nat) (p : List FnD) (pa : Option Addr) (pcap : Nat) (bud : Int) (ar : List Int) (o : OpD) (oa : Option Addr) (na ocap : Nat) (w : World) (h0 : w.cell? ⟨wb, 0, none⟩ = some (.slice pa p.length pcap)) (h1 : w.cell? ⟨wb, 1, none⟩ = some (.int .i64 bud)) (hp : RdP w pa p.length pcap p) (hl : p.length ≤ 12) (hok : o.code = 5 → 0 ≤ o.b ∧ o.b < p.length) :
    Calls Tryz.prog 228 #[.pointer (some ⟨wb, 0, none⟩), .agg #[.int .i64 o.code, .int .i64 o.line, .int .i64 o.a, .int .i64 o.b, .int .i64 o.c, .slice oa na ocap], .agg (arCells ar).toArray] w fun e w' => e = .returned (.bool (inlB p bud ar o)) ∧ Below w.heap.size w w' := by
  obtain ⟨oc, ol, oA, ob, od, oargs⟩ := o
  dsimp only at hok ⊢
  by_cases hc : oc = 5
  · subst hc
    obtain ⟨hb1, hb2⟩ := hok rfl
    obtain ⟨bN, rfl⟩ : ∃ n : Nat, ob = n := ⟨ob.toNat, by omega⟩
    have hg := arCells_get ar bN (by omega)
    have hb12 : (bN : Int) < 12 := by omega
    by_cases ha : arB ar bN = true
    · have hin : inlB p bud ar ⟨5, ol, oA, bN, od, oargs⟩ = false := by unfold inlB; unfold arB at ha; simp; intro h; exact absurd (List.contains_iff_mem.1 ha) h
      rw [hin]
      rw [ha] at hg
      unfold arCells at hg ⊢
      generalize arB ar 0 = a0 at *
      generalize arB ar 1 = a1 at *
      generalize arB ar 2 = a2 at *
      generalize arB ar 3 = a3 at *
      generalize arB ar 4 = a4 at *
      generalize arB ar 5 = a5 at *
      generalize arB ar 6 = a6 at *
      generalize arB ar 7 = a7 at *
      generalize arB ar 8 = a8 at *
      generalize arB ar 9 = a9 at *
      generalize arB ar 10 = a10 at *
      generalize arB ar 11 = a11 at *
      have hg2 : (#[Value.bool a0, .bool a1, .bool a2, .bool a3, .bool a4, .bool a5, .bool a6, .bool a7, .bool a8, .bool a9, .bool a10, .bool a11] : Array Value)[bN]? = some (.bool true) := by simpa using hg
      clear hin ha hg
      go_enter Tryz.func228, Tryz.ntmps228
      go_wp2
      exact bodyPost_ret (v := .bool false) (by simp [results, Tryz.results228, go_sem]) rfl ⟨rfl, ((Below.refl _ _).alloc (Nat.le_refl _) _).alloc (by simp) _⟩
    · have hfs : p[bN]? = some (fnAt p bN) := by
        have := fnAt_some (p := p) (n := (bN : Int)) ⟨by omega, hb2⟩
        simpa using this
      obtain ⟨pb, poff, ba, bcap, rfl, -, -, -, -, -, c4, hrb, -, -⟩ := hp.at bN _ hfs
      have hbl1 := hrb.2.1
      have hbl2 := hrb.2.2.1
      have hpc1 := hp.2.1
      have hpc2 := hp.2.2.1
      unfold maxLen at hbl2 hpc2
      have lt0 := World.block_lt_of_cell? w _ h0
      have lt1 := World.block_lt_of_cell? w _ c4
      simp only at lt0 lt1
      have hin : inlB p bud ar ⟨5, ol, oA, bN, od, oargs⟩ = decide (((fnAt p bN).body.length : Int) ≤ bud) := by
        unfold inlB
        unfold arB at ha
        have : ar.contains (bN : Int) = false := by simpa using ha
        simp only [this]
        rfl
      rw [hin]
      have ha' : arB ar bN = false := by simpa using ha
      rw [ha'] at hg
      unfold arCells at hg ⊢
      generalize arB ar 0 = a0 at *
      generalize arB ar 1 = a1 at *
      generalize arB ar 2 = a2 at *
      generalize arB ar 3 = a3 at *
      generalize arB ar 4 = a4 at *
      generalize arB ar 5 = a5 at *
      generalize arB ar 6 = a6 at *
      generalize arB ar 7 = a7 at *
      generalize arB ar 8 = a8 at *
      generalize arB ar 9 = a9 at *
      generalize arB ar 10 = a10 at *
      generalize arB ar 11 = a11 at *
      have hg2 : (#[Value.bool a0, .bool a1, .bool a2, .bool a3, .bool a4, .bool a5, .bool a6, .bool a7, .bool a8, .bool a9, .bool a10, .bool a11] : Array Value)[bN]? = some (.bool false) := by simpa using hg
      generalize (fnAt p bN).body.length = bl at *
      have hbp : bN < p.length := by omega
      generalize p.length = pl at *
      obtain ⟨wc, hwc⟩ : ∃ wc, wc = (w.alloc (Obj.cells #[.int .i64 5, .int .i64 ol, .int .i64 oA, .int .i64 bN, .int .i64 od, .slice oa na ocap] 183)).alloc (Obj.cells #[.bool a0, .bool a1, .bool a2, .bool a3, .bool a4, .bool a5, .bool a6, .bool a7, .bool a8, .bool a9, .bool a10, .bool a11] 268) := ⟨_, rfl⟩
      have hbc : Below w.heap.size w wc := by rw [hwc]; exact ((Below.refl _ _).alloc (Nat.le_refl _) _).alloc (by simp) _
      have k0 : wc.heap[w.heap.size]? = some (.cells #[.int .i64 5, .int .i64 ol, .int .i64 oA, .int .i64 bN, .int .i64 od, .slice oa na ocap] 183 (0, 0)) := by rw [hwc]; exact heap_at1 (by simp) (heap_new_at rfl)
      have s0 : wc.cell? ⟨wb, 0, none⟩ = _ := (hbc.cell (p := ⟨wb, 0, none⟩) lt0).trans h0
      have s1 : wc.cell? ⟨wb, 1, none⟩ = _ := (hbc.cell (p := ⟨wb, 1, none⟩) lt0).trans h1
      have s4 : wc.cell? ⟨pb, poff + bN * 5 + 4, none⟩ = _ := (hbc.cell (p := ⟨pb, poff + bN * 5 + 4, none⟩) lt1).trans c4
      have s3 : wc.cell? ⟨w.heap.size, 3, none⟩ = some (.int .i64 bN) := by simp [World.cell?, k0]
      clear hin ha ha' hg hp hrb hfs h0 h1 c4
      go_enter Tryz.func228, Tryz.ntmps228
      go_wp2
      rw [← hwc]
      clear hwc k0
      go_region
      go_wp2
      exact bodyPost_ret (v := .bool (decide ((bl : Int) ≤ bud))) (by simp [results, Tryz.results228, go_sem]) rfl ⟨rfl, hbc.drew⟩
  · have hc' : (oc != 5) = true := by simpa using hc
    have hin : inlB p bud ar ⟨oc, ol, oA, ob, od, oargs⟩ = false := by unfold inlB; simp [hc]
    rw [hin]
    unfold arCells
    clear hin hok
    go_enter Tryz.func228, Tryz.ntmps228
    go_wp2
    exact bodyPost_ret (v := .bool false) (by simp [results, Tryz.results228, go_sem]) rfl ⟨rfl, ((Below.refl _ _).alloc (Nat.le_refl _) _).alloc (by simp) _⟩
end Go.Proofs.YtffnfjkjlmlonaaGreatDoor
