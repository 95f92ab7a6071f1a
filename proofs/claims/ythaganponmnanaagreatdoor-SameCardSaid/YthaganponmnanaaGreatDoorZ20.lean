/- A program whose ops that are no Calls have lost their Args: it is as good, and its runs are the same; nothing is claimed of the program here. Contracts of the developers' program.isNamed, headMayBe, isLocal, IsValue, argsMayBe: plain functions of what is handed in; nothing that was there is written. Frames of the developers' run, how they lie in memory, and contracts of run.goOn, jump, result: plain functions of what is handed in; nothing that was there is written. How a run of the reference lies in memory, and which blocks it lies in; nothing is claimed of the program here. Contract of the developers' (*run.Run).op: the op at which a frame is. -/
import Derived.Test.YthaganponmnanaaGreatDoorZ16
import Derived.Test.YthaganponmnanaaGreatDoorZ15
import Derived.Test.YthaganponmnanaaGreatDoorZ2
import Derived.Deep.RegionHeld
namespace Go.Proofs.YthaganponmnanaaGreatDoor
open Go.RowKit

def stripO (o : OpD) : OpD := if o.code = 5 then o else ⟨o.code, o.line, o.a, o.b, o.c, []⟩
def stripF (x : FnD) : FnD := ⟨x.name, x.file, x.params, x.locals, x.body.map stripO⟩
def strip (p : List FnD) : List FnD := p.map stripF

theorem strip_code (o : OpD) : (stripO o).code = o.code := by unfold stripO; split <;> rfl
theorem strip_line (o : OpD) : (stripO o).line = o.line := by unfold stripO; split <;> rfl
theorem strip_a (o : OpD) : (stripO o).a = o.a := by unfold stripO; split <;> rfl
theorem strip_b (o : OpD) : (stripO o).b = o.b := by unfold stripO; split <;> rfl
theorem strip_c (o : OpD) : (stripO o).c = o.c := by unfold stripO; split <;> rfl
theorem strip_args {o : OpD} (h : o.code = 5) : (stripO o).args = o.args := by unfold stripO; rw [if_pos h]

theorem fnAt_strip (p : List FnD) (n : Int) : fnAt (strip p) n = stripF (fnAt p n) := by
  unfold fnAt strip
  rw [List.getElem?_map]
  cases p[n.toNat]? with
  | none => rfl
  | some x => rfl
theorem fnOf_strip (p : List FnD) (x : LiveD) : fnOf (strip p) x = stripF (fnOf p x) := fnAt_strip p x.fn
theorem opOf_strip (p : List FnD) (x : LiveD) : opOf (strip p) x = stripO (opOf p x) := by
  unfold opOf
  rw [fnOf_strip]
  show ((List.map stripO _)[_]?).getD noOp = _
  rw [List.getElem?_map]
  cases (fnOf p x).body[x.next.toNat]? with
  | none => rfl
  | some o => rfl

theorem stepTop_strip (p : List FnD) (ini : List LiveD) (x : LiveD) : stepTop (strip p) ini x = stepTop p ini x := by
  unfold stepTop
  simp only [opOf_strip, strip_code, strip_a, strip_b, strip_c]
  split
  · next h5 =>
    split
    · rfl
    · unfold calleeD
      rw [fnAt_strip, strip_b, strip_args h5]; rfl
  · rfl
theorem nextD_strip (p : List FnD) (s : StandD) : nextD (strip p) s = nextD p s := by
  unfold nextD
  simp only [stepTop_strip]
theorem runD_strip (p : List FnD) (s : StandD) : ∀ n, runD (strip p) s n = runD p s n
  | 0 => rfl
  | n + 1 => by show nextD _ _ = nextD _ _; rw [runD_strip p s n, nextD_strip]
theorem toldD_strip (p : List FnD) (s : StandD) : toldD (strip p) s = toldD p s := by
  unfold toldD
  simp only [fnOf_strip, opOf_strip, strip_line]; rfl
theorem begunD_strip (p : List FnD) (args : List Int) : begunD (strip p) args = begunD p args := by
  unfold begunD
  rw [fnAt_strip]; rfl

theorem good_strip {p : List FnD} (g : Good p) : Good (strip p) := by
  refine ⟨by simpa [strip] using g.len, fun f x hx => ?_⟩
  unfold strip at hx
  rw [List.getElem?_map] at hx
  obtain ⟨y, hy, rfl⟩ := Option.map_eq_some_iff.1 hx
  have hf := g.fns f y hy
  refine ⟨hf.locals, hf.params, by simpa [stripF] using hf.body, fun s o ho => ?_⟩
  have ho' : (y.body.map stripO)[s]? = some o := ho
  rw [List.getElem?_map] at ho'
  obtain ⟨q, hq, rfl⟩ := Option.map_eq_some_iff.1 ho'
  have hok := hf.ops s q hq
  have hbl : (stripF y).body.length = y.body.length := by simp [stripF]
  have hpl : (strip p).length = p.length := by simp [strip]
  refine ⟨by rw [strip_line]; exact hok.line, by rw [strip_a]; exact hok.a, by rw [strip_code]; exact hok.code, by rw [strip_code, hbl]; exact hok.last, by rw [strip_code, strip_b]; exact hok.set, by rw [strip_code, strip_b, strip_c]; exact hok.three, by rw [strip_code, strip_b, hbl]; exact hok.jump, fun h => ?_⟩
  rw [strip_code] at h
  rw [strip_b, hpl, strip_args h, fnAt_strip]
  exact hok.call h
end Go.Proofs.YthaganponmnanaaGreatDoor
namespace Go.Proofs.YthaganponmnanaaGreatDoor
open Go.RowKit

theorem RdL.take {α : Type} {size : Nat} {R : World → List Value → α → Prop} {w : World} {a : Option Addr} {len cap : Nat} {l : List α} (h : RdL size R w a len cap l) (k : Nat) (hk : k ≤ len) : RdL size R w a k cap (l.take k) := by
  obtain ⟨h1, h2, h3, h4⟩ := h
  refine ⟨by rw [List.length_take]; omega, by omega, h3, fun i x hx => h4 i x ?_⟩
  rw [List.getElem?_take] at hx
  split at hx
  · exact hx
  · cases hx

set_option maxHeartbeats 1000000 in
set_option maxRecDepth 100000 in
theorem isNamed_any (nm : ByteArray) (a : Option Addr) (len cap : Nat) (p : List FnD) (w : World) (hr : RdP w a len cap p) :
    Calls Tryz.prog 81 #[.string nm, .slice a len cap] w fun e w' => e = .returned (.bool (p.any fun y => eqB y.name nm)) ∧ Below w.heap.size w w' := by
  have HL := hid hr.len
  have hcap := hr.2.1
  have hmax := hr.2.2.1
  unfold maxLen at hmax
  go_enter Tryz.func81, Tryz.ntmps81
  go_wp2
  go_loopw [9] (fun i wr => ∃ j : Nat, i = .int .i64 j ∧ j ≤ len ∧ ((p.take j).any fun y => eqB y.name nm) = false ∧ Below w.heap.size w wr) (fun i _ => len - (intOf i).toNat)
  case atStart => exact ⟨0, rfl, by omega, rfl, Below.refl _ _⟩
  case round =>
    obtain ⟨j, rfl, hj, hno, hbel⟩ := hrel
    have HNO := hid hno
    clear hno
    by_cases hjf : j < len
    · obtain ⟨y, hy⟩ : ∃ y, p[j]? = some y := ⟨_, List.getElem?_eq_getElem (by rw [HL.out]; omega)⟩
      obtain ⟨b, off, ba, bcap, rfl, _, d0, d1, d2, d3, d4, _⟩ := (hr.below hbel).at j y hy
      have hst := any_take_succ p j y (fun z => eqB z.name nm) hy
      rw [HNO.out, Bool.false_or] at hst
      obtain ⟨ym, yf, yp, yl, yb⟩ := y
      simp only at d0 d1 d2 d3 d4 hst
      have HST := hid hst
      clear hst hy hr
      generalize yb.length = nb at *
      obtain ⟨q, hq⟩ : ∃ q, q = eqB ym nm := ⟨_, rfl⟩
      rw [← hq] at HST
      have hqq : (ym.toList == nm.toList) = q := by rw [hq]; rfl
      have HQ := hid hqq
      clear hq
      have hsz := hbel.size
      cases q with
      | true =>
        have HF : Hid ((p.any fun y => eqB y.name nm) = true) := by
          show _ = _
          have e1 : p = p.take (j + 1) ++ p.drop (j + 1) := (List.take_append_drop _ _).symm
          rw [e1, List.any_append, HST.out, Bool.true_or]
        go_wp2
        go_ret
        exact ⟨ret_bool HF.out.symm, hbel.alloc hsz _⟩
      | false =>
        go_wp2
        go_roundw
        case rel => exact ⟨j + 1, by go_num, by omega, HST.out, hbel.alloc hsz _⟩
        case measure => simp [intOf]; omega
    · have HF : Hid ((p.any fun y => eqB y.name nm) = false) := by
        show _ = _
        have := HNO.out
        rw [List.take_of_length_le (by rw [HL.out]; omega)] at this
        exact this
      go_wp2
      go_ret
      exact ⟨ret_bool HF.out.symm, hbel⟩

set_option maxHeartbeats 1000000 in
set_option maxRecDepth 100000 in
theorem isLocal_any (nm fl : ByteArray) (pr lo : Int) (ba : Option Addr) (nb bcap : Nat) (n : Int) (w : World) :
    Calls Tryz.prog 82 #[.agg #[.string nm, .string fl, .int .i64 pr, .int .i64 lo, .slice ba nb bcap], .int .i64 n] w fun r w' => r = .returned (.bool (withB n lo)) ∧ Below w.heap.size w w' := by
  by_cases h : 0 ≤ n
  · have E : Hid (withB n lo = decide (n < lo)) := by show _ = _; simp [withB, h]
    go_enter Tryz.func82, Tryz.ntmps82
    go_wp2
    go_ret
    exact ⟨ret_bool E.out.symm, (Below.refl _ _).alloc (Nat.le_refl _) _⟩
  · have E : Hid (withB n lo = false) := by show _ = _; simp [withB, h]
    have hd : decide (0 ≤ n) = false := by simpa using h
    go_enter Tryz.func82, Tryz.ntmps82
    go_wp2
    go_ret
    exact ⟨ret_bool E.out.symm, (Below.refl _ _).alloc (Nat.le_refl _) _⟩

set_option maxHeartbeats 1000000 in
theorem pIsValue_any (n : Int) (w : World) :
    Calls Tryz.prog 57 #[.int .i64 n] w fun r w' => r = .returned (.bool (withB n 1000)) ∧ w' = w := by
  by_cases h : 0 ≤ n
  · have E : Hid (withB n 1000 = decide (n < 1000)) := by show _ = _; simp [withB, h]
    go_enter Tryz.func57, Tryz.ntmps57
    go_wp2
    go_ret
    exact ⟨ret_bool E.out.symm, rfl⟩
  · have E : Hid (withB n 1000 = false) := by show _ = _; simp [withB, h]
    have hd : decide (0 ≤ n) = false := by simpa using h
    go_enter Tryz.func57, Tryz.ntmps57
    go_wp2
    go_ret
    exact ⟨ret_bool E.out.symm, rfl⟩

set_option maxHeartbeats 2000000 in
set_option maxRecDepth 100000 in
theorem pArgs_any (nm fl : ByteArray) (pr lo : Int) (ba : Option Addr) (nb bcap : Nat) (aa : Option Addr) (na acap : Nat) (args : List Int) (k : Int) (w : World) (hr : Rd .i64 w aa na acap args) :
    Calls Tryz.prog 83 #[.agg #[.string nm, .string fl, .int .i64 pr, .int .i64 lo, .slice ba nb bcap], .slice aa na acap, .int .i64 k] w fun r w' => r = .returned (.bool (k == (na : Int) && args.all fun n => withB n lo)) ∧ Below w.heap.size w w' := by
  have HL := hid hr.hlen
  have hcap := hr.hcap
  have hmax := hr.hmax
  unfold maxLen at hmax
  by_cases hk : k = (na : Int)
  · have hk' : ((na : Int) != k) = false := by simp; omega
    have HE : Hid ((k == (na : Int) && args.all fun n => withB n lo) = args.all fun n => withB n lo) := by
      show _ = _
      have : (k == (na : Int)) = true := by simpa using hk
      rw [this, Bool.true_and]
    clear hk
    go_enter Tryz.func83, Tryz.ntmps83
    go_wp2
    obtain ⟨wb, hwb⟩ : ∃ wb, wb = w.alloc (Obj.cells #[.string nm, .string fl, .int .i64 pr, .int .i64 lo, .slice ba nb bcap] 44) := ⟨_, rfl⟩
    have hbb : Below w.heap.size w wb := by rw [hwb]; exact (Below.refl _ _).alloc (Nat.le_refl _) _
    have hbs : wb.heap.size = w.heap.size + 1 := by rw [hwb]; simp
    have hk0 : wb.heap[w.heap.size]? = some (.cells #[.string nm, .string fl, .int .i64 pr, .int .i64 lo, .slice ba nb bcap] 44 (0, 0)) := by rw [hwb]; exact heap_alloc_new _ _
    have HK := hid hk0
    go_loopw [15] (fun i wr => ∃ j : Nat, i = .int .i64 j ∧ j ≤ na ∧ ((args.take j).all fun n => withB n lo) = true ∧ Below wb.heap.size wb wr) (fun i _ => na - (intOf i).toNat)
    case atStart => exact ⟨0, rfl, by omega, rfl, by rw [hwb]; exact Below.refl _ _⟩
    case round =>
      clear hwb hk0
      obtain ⟨j, rfl, hj, hall, hbel0⟩ := hrel
      have hkr := (hbel0.block w.heap.size (by omega)).trans HK.out
      have q0 : wr.cell? ⟨w.heap.size, 0, none⟩ = some (.string nm) := by simp [World.cell?, hkr]
      have q1 : wr.cell? ⟨w.heap.size, 1, none⟩ = some (.string fl) := by simp [World.cell?, hkr]
      have q2 : wr.cell? ⟨w.heap.size, 2, none⟩ = some (.int .i64 pr) := by simp [World.cell?, hkr]
      have q3 : wr.cell? ⟨w.heap.size, 3, none⟩ = some (.int .i64 lo) := by simp [World.cell?, hkr]
      have q4 : wr.cell? ⟨w.heap.size, 4, none⟩ = some (.slice ba nb bcap) := by simp [World.cell?, hkr]
      have hsz0 := hbel0.size
      clear hkr
      have hbel := hbb.trans (hbel0.mono hbb.size)
      have HA := hid hall
      clear hall
      have hsz := hbel.size
      by_cases hjn : j < na
      · obtain ⟨b, off, rfl, hc⟩ := (hr.below hbel (Nat.le_refl _)).cell j hjn
        have hst := all_take_succ args j (args.getD j 0) (fun n => withB n lo) (by rw [List.getD_eq_getElem?_getD, List.getElem?_eq_getElem (by rw [HL.out]; exact hjn)]; rfl)
        rw [HA.out, Bool.true_and] at hst
        generalize args.getD j 0 = v at hc hst
        have HIS := hid (fun W => isLocal_any nm fl pr lo ba nb bcap v W)
        have HST := hid hst
        clear hst hr
        have hjn' : (j : Int) < (na : Int) := by omega
        obtain ⟨t, ht⟩ : ∃ t, t = withB v lo := ⟨_, rfl⟩
        rw [← ht] at HIS HST
        clear ht
        cases t with
        | true =>
          go_wp2_with fail
          refine (HIS.out _).mono ?_
          rintro e w2 ⟨rfl, hb2⟩
          go_wp2
          go_roundw
          case rel => exact ⟨j + 1, by go_num, by omega, HST.out, hbel0.trans (hb2.mono hsz0)⟩
          case measure => simp [intOf]; omega
        | false =>
          have HF : Hid ((args.all fun n => withB n lo) = false) := by
            show _ = _
            have e1 : args = args.take (j + 1) ++ args.drop (j + 1) := (List.take_append_drop _ _).symm
            rw [e1, List.all_append, HST.out, Bool.false_and]
          go_wp2_with fail
          refine (HIS.out _).mono ?_
          rintro e w2 ⟨rfl, hb2⟩
          go_wp2
          go_ret
          exact ⟨ret_bool (HE.out.trans HF.out).symm, hbel.trans (hb2.mono hsz)⟩
      · have HF : Hid ((args.all fun n => withB n lo) = true) := by
          show _ = _
          have := HA.out
          rw [List.take_of_length_le (by rw [HL.out]; omega)] at this
          exact this
        have hjn' : decide ((j : Int) < (na : Int)) = false := by simp; omega
        go_wp2
        go_ret
        exact ⟨ret_bool (HE.out.trans HF.out).symm, hbel⟩
  · have hk' : ((na : Int) != k) = true := by simp; omega
    have HF : Hid ((k == (na : Int) && args.all fun n => withB n lo) = false) := by
      show _ = _
      have : (k == (na : Int)) = false := by simpa using hk
      rw [this, Bool.false_and]
    clear hk
    go_enter Tryz.func83, Tryz.ntmps83
    go_wp2
    go_ret
    exact ⟨ret_bool HF.out.symm, (Below.refl _ _).alloc (Nat.le_refl _) _⟩
end Go.Proofs.YthaganponmnanaaGreatDoor
namespace Go.Proofs.YthaganponmnanaaGreatDoor
open Go.RowKit

/-- Eight locals: those that a frame has, and noughts. -/
def pad8 (l : List Int) : List Int := l ++ List.replicate (8 - l.length) 0
def frmCells (x : LiveD) : List Value := .int .i64 x.fn :: .int .i64 x.next :: (pad8 x.locals).map (Value.int .i64)

theorem pad8_len {l : List Int} (h : l.length ≤ 8) : (pad8 l).length = 8 := by simp [pad8]; omega
theorem pad8_get {l : List Int} {k : Nat} (h : k < l.length) : (pad8 l).getD k 0 = (l[k]?).getD 0 := by
  unfold pad8
  rw [List.getD_eq_getElem?_getD, List.getElem?_append_left h]
theorem pad8_set {l : List Int} {k : Nat} {v : Int} (h : k < l.length) : pad8 (l.set k v) = (pad8 l).set k v := by
  unfold pad8
  rw [List.set_append_left _ _ h, List.length_set]
theorem eight {l : List Int} (h : l.length = 8) : ∃ a b c d e f g i, l = [a, b, c, d, e, f, g, i] := by
  match l, h with
  | [a, b, c, d, e, f, g, i], _ => exact ⟨a, b, c, d, e, f, g, i, rfl⟩

set_option maxHeartbeats 4000000 in
set_option maxRecDepth 100000 in
theorem goOn_any (x : LiveD) (k : Nat) (v : Int) (w : World) (hl : x.locals.length ≤ 8) (hk : k < x.locals.length) (hn : 0 ≤ x.next ∧ x.next ≤ 1000) :
    Calls Tryz.prog 73 #[.agg (frmCells x).toArray, .int .i64 k, .int .i64 v] w fun e w' => e = .returned (.agg (frmCells ⟨x.fn, x.next + 1, x.locals.set k v⟩).toArray) ∧ Below w.heap.size w w' := by
  obtain ⟨fn, nx, l⟩ := x
  simp only at hl hk hn ⊢
  have hps : (pad8 (l.set k v)) = (pad8 l).set k v := pad8_set hk
  have hpl := pad8_len hl
  unfold frmCells
  simp only
  rw [hps]
  generalize pad8 l = q at *
  obtain ⟨a, b, c, d, e, f, g, i, rfl⟩ := eight hpl
  have hk8 : k < 8 := by omega
  obtain ⟨hn1, hn2⟩ := hn
  clear hps hpl hk hl
  have hkk : k = 0 ∨ k = 1 ∨ k = 2 ∨ k = 3 ∨ k = 4 ∨ k = 5 ∨ k = 6 ∨ k = 7 := by omega
  clear hk8
  rcases hkk with rfl | rfl | rfl | rfl | rfl | rfl | rfl | rfl
  all_goals
    go_enter Tryz.func73, Tryz.ntmps73
    go_wp2
    refine bodyPost_ret ?h rfl ⟨rfl, ?b⟩
    case h => simp [results, Tryz.results73, go_sem]
    case b => exact ((Below.refl _ _).alloc (Nat.le_refl _) _).alloc (by simp) _

set_option maxHeartbeats 4000000 in
set_option maxRecDepth 100000 in
theorem jump_any (x : LiveD) (k : Nat) (oc ol ob od : Int) (ov : Value) (w : World) (hl : x.locals.length ≤ 8) (hk : k < x.locals.length) (hn : 0 ≤ x.next ∧ x.next ≤ 1000) (aa : Option Addr) (na acap : Nat) (hov : ov = .slice aa na acap) :
    Calls Tryz.prog 69 #[.agg (frmCells x).toArray, .agg #[.int .i64 oc, .int .i64 ol, .int .i64 k, .int .i64 ob, .int .i64 od, ov]] w fun e w' => e = .returned (.agg (frmCells ⟨x.fn, if locOf x k = 0 then x.next + 1 else ob, x.locals⟩).toArray) ∧ Below w.heap.size w w' := by
  subst hov
  obtain ⟨fn, nx, l⟩ := x
  simp only at hl hk hn ⊢
  have hgt : (pad8 l).getD k 0 = locOf ⟨fn, nx, l⟩ k := by rw [pad8_get hk]; simp [locOf]
  have hpl := pad8_len hl
  unfold frmCells
  simp only
  rw [← hgt]
  generalize pad8 l = q at *
  obtain ⟨a, b, c, d, e, f, g, i, rfl⟩ := eight hpl
  have hkk : k = 0 ∨ k = 1 ∨ k = 2 ∨ k = 3 ∨ k = 4 ∨ k = 5 ∨ k = 6 ∨ k = 7 := by omega
  obtain ⟨hn1, hn2⟩ := hn
  clear hgt hpl hk hl
  obtain ⟨z, hz⟩ : ∃ z, z = [a, b, c, d, e, f, g, i].getD k 0 := ⟨_, rfl⟩
  rw [← hz]
  by_cases hz0 : z = 0
  · rw [if_pos hz0]
    rcases hkk with rfl | rfl | rfl | rfl | rfl | rfl | rfl | rfl
    all_goals
      simp at hz
      rw [hz] at hz0
      subst hz0
      clear hz
      go_enter Tryz.func69, Tryz.ntmps69
      go_wp2
      refine bodyPost_ret ?h rfl ⟨rfl, ?b⟩
      case h => simp [results, Tryz.results69, go_sem]
      case b => exact (((Below.refl _ _).alloc (Nat.le_refl _) _).alloc (by simp) _).alloc (by simp; omega) _
  · rw [if_neg hz0]
    rcases hkk with rfl | rfl | rfl | rfl | rfl | rfl | rfl | rfl
    all_goals
      simp at hz
      subst hz
      have hz' : (z != 0) = true := by simpa using hz0
      go_enter Tryz.func69, Tryz.ntmps69
      go_wp2
      refine bodyPost_ret ?h rfl ⟨rfl, ?b⟩
      case h => simp [results, Tryz.results69, go_sem]
      case b => exact (((Below.refl _ _).alloc (Nat.le_refl _) _).alloc (by simp) _).alloc (by simp; omega) _
end Go.Proofs.YthaganponmnanaaGreatDoor
namespace Go.Proofs.YthaganponmnanaaGreatDoor
open Go.RowKit

theorem heap_new_at {w : World} {a : Array Value} {t : TypeId} {n : Nat} (h : w.heap.size = n) : (w.alloc (.cells a t)).heap[n]? = some (.cells a t (0, 0)) := by subst h; exact heap_alloc_new _ _
theorem heap_at1 {w : World} {o : Obj} {n : Nat} {v : Option Obj} (h : n < w.heap.size) (e : w.heap[n]? = v) : (w.alloc o).heap[n]? = v := (heap_alloc_old _ _ h).trans e

theorem lt_alloc_drew (w : World) (o : Obj) : w.heap.size < (w.alloc o).drew.heap.size := by
  have h : (w.alloc o).heap.size = w.heap.size + 1 := by simp
  show w.heap.size < (w.alloc o).heap.size
  rw [h]
  exact Nat.lt_succ_self _
theorem alloc_drew_new (w : World) (a : Array Value) (t : TypeId) : (w.alloc (.cells a t)).drew.heap[w.heap.size]? = some (.cells a t (0, 0)) := heap_new_at (w := w) rfl

theorem ownsRow_below {w w' : World} {base : Nat} {e : TypeId} {size : Nat} {v : Value} {n : Nat} {xs : List Value} (h : w.ownsRow base e size v n xs) (hb : Below w.heap.size w w') : w'.ownsRow base e size v n xs := by
  refine ⟨h.1, ?_⟩
  rcases h.2 with h2 | ⟨g, cap, cur, h1, h2, h3, h4⟩
  · exact .inl h2
  · exact .inr ⟨g, cap, cur, h1, h2, (hb.block g (Array.getElem?_eq_some_iff.1 h3).1).trans h3, h4⟩

/-- A fact that is found out on the way: one goal for all orders of evaluation. -/
structure Kept (P : Prop) : Prop where
  out : P
theorem cutB {P G : Prop} (h : P) (k : Kept P → G) : G := k ⟨h⟩

/-- Blocks of the one kind, or new ones. -/
def OrNew (U : Nat → Prop) (n : Nat) (b : Nat) : Prop := U b ∨ n ≤ b
def InU (U : Nat → Prop) (a : Option Addr) (n : Nat) : Prop := 0 < n → ∀ q, a = some q → U q.block
/-- The worlds agree on the blocks of U that the first one has. -/
def Keeps (U : Nat → Prop) (w w' : World) : Prop := ∀ b, U b → b < w.heap.size → w'.heap[b]? = w.heap[b]?

theorem Keeps.below {U : Nat → Prop} {w w' : World} (h : Below w.heap.size w w') : Keeps U w w' := fun b _ hb => h.block b hb
theorem Keeps.setCell {U : Nat → Prop} {w : World} {p : Addr} (h : ¬ U p.block) (v : Value) : Keeps U w (w.setCell p v) := fun b hb _ => Below.heap_setCell _ _ _ _ (by rintro rfl; exact h hb)

theorem keeps_cell {U : Nat → Prop} {w w' : World} (h : Keeps U w w') {p : Addr} (hU : U p.block) {v : Value} (hc : w.cell? p = some v) : w'.cell? p = some v := by
  have hb := World.block_lt_of_cell? w _ hc
  rw [← hc]
  unfold World.cell?
  rw [h p.block hU hb]

theorem Rd.keeps {k : IntKind} {U : Nat → Prop} {w w' : World} {a : Option Addr} {len cap : Nat} {l : List Int} (h : Rd k w a len cap l) (hU : InU U a len) (hk : Keeps U w w') : Rd k w' a len cap l := by
  refine ⟨h.hlen, h.hcap, h.hmax, fun i hi => ?_⟩
  obtain ⟨b, off, rfl, hc⟩ := h.cell i hi
  exact ⟨b, off, rfl, keeps_cell hk (p := ⟨b, off + i, none⟩) (hU (by omega) ⟨b, off, none⟩ rfl) hc⟩
theorem RdL.keeps {α : Type} {size : Nat} {R R' : World → List Value → α → Prop} {U : Nat → Prop} {w w' : World} {a : Option Addr} {len cap : Nat} {l : List α} (h : RdL size R w a len cap l) (hU : InU U a len) (hk : Keeps U w w')
    (hR : ∀ cs x, R w cs x → R' w' cs x) : RdL size R' w' a len cap l := by
  obtain ⟨h1, h2, h3, h4⟩ := h
  refine ⟨h1, h2, h3, fun i x hx => ?_⟩
  obtain ⟨b, off, cs, e, hl, hc, hr⟩ := h4 i x hx
  refine ⟨b, off, cs, e, hl, fun j v hj => keeps_cell hk (p := ⟨b, off + i * size + j, none⟩) (hU (by have := (List.getElem?_eq_some_iff.1 hx).1; omega) ⟨b, off, none⟩ e) (hc j v hj), hR cs x hr⟩

def RdLiveU (U : Nat → Prop) (w : World) (cs : List Value) (x : LiveD) : Prop :=
  ∃ a cap, cs = [.int .i64 x.fn, .int .i64 x.next, .slice a x.locals.length cap] ∧ Rd .i64 w a x.locals.length cap x.locals ∧ InU U a x.locals.length
def RdStandU (U : Nat → Prop) (w : World) (cs : List Value) (s : StandD) : Prop :=
  ∃ a cap, cs = [.int .i64 s.status, .int .i64 s.value, .slice a s.live.length cap] ∧ RdL 3 (RdLiveU U) w a s.live.length cap s.live ∧ InU U a s.live.length

theorem RdLiveU.shape {U : Nat → Prop} {w : World} (cs : List Value) (x : LiveD) (h : RdLiveU U w cs x) : ∃ la lcap, cs = [.int .i64 x.fn, .int .i64 x.next, .slice la x.locals.length lcap] := by
  obtain ⟨a, cap, e, _⟩ := h
  exact ⟨a, cap, e⟩
theorem RdLiveU.keeps {U V : Nat → Prop} {w w' : World} {cs : List Value} {x : LiveD} (h : RdLiveU U w cs x) (hk : Keeps U w w') (hV : ∀ b, U b → V b) : RdLiveU V w' cs x := by
  obtain ⟨a, cap, e, hr, hU⟩ := h
  exact ⟨a, cap, e, hr.keeps hU hk, fun h0 q hq => hV _ (hU h0 q hq)⟩
theorem RdStandU.keeps {U V : Nat → Prop} {w w' : World} {cs : List Value} {s : StandD} (h : RdStandU U w cs s) (hk : Keeps U w w') (hV : ∀ b, U b → V b) : RdStandU V w' cs s := by
  obtain ⟨a, cap, e, hr, hU⟩ := h
  exact ⟨a, cap, e, hr.keeps hU hk (fun _ _ h => h.keeps hk hV), fun h0 q hq => hV _ (hU h0 q hq)⟩
theorem RdStandU.below {U : Nat → Prop} {w w' : World} {cs : List Value} {s : StandD} (h : RdStandU U w cs s) (hb : Below w.heap.size w w') : RdStandU U w' cs s := h.keeps (Keeps.below hb) (fun _ h => h)
theorem RdLiveU.below {U : Nat → Prop} {w w' : World} {cs : List Value} {x : LiveD} (h : RdLiveU U w cs x) (hb : Below w.heap.size w w') : RdLiveU U w' cs x := h.keeps (Keeps.below hb) (fun _ h => h)

/-- What lies there lies in blocks that are there. -/
def Old (U : Nat → Prop) (w : World) (b : Nat) : Prop := U b ∧ b < w.heap.size
theorem RdLiveU.old {U : Nat → Prop} {w : World} {cs : List Value} {x : LiveD} (h : RdLiveU U w cs x) : RdLiveU (Old U w) w cs x := by
  obtain ⟨a, cap, e, hr, hU⟩ := h
  refine ⟨a, cap, e, hr, fun h0 q hq => ⟨hU h0 q hq, ?_⟩⟩
  obtain ⟨b, off, e2, hc⟩ := hr.cell 0 h0
  rw [hq] at e2
  cases e2
  exact World.block_lt_of_cell? w _ hc
theorem rdL_old {U : Nat → Prop} {w : World} {a : Option Addr} {n cap : Nat} {l : List LiveD} (h : RdL 3 (RdLiveU U) w a n cap l) (hU : InU U a n) : RdL 3 (RdLiveU (Old U w)) w a n cap l ∧ InU (Old U w) a n := by
  refine ⟨⟨h.1, h.2.1, h.2.2.1, fun i x hx => ?_⟩, fun h0 q hq => ⟨hU h0 q hq, ?_⟩⟩
  · obtain ⟨b, off, cs, e, hl, hc, hr⟩ := h.2.2.2 i x hx
    exact ⟨b, off, cs, e, hl, hc, hr.old⟩
  · obtain ⟨x, hx⟩ : ∃ x, l[0]? = some x := ⟨_, List.getElem?_eq_getElem (by rw [h.1]; exact h0)⟩
    obtain ⟨b, off, cs, e, hl, hc, hr⟩ := h.2.2.2 0 x hx
    rw [hq] at e
    cases e
    have hc0 := hc 0 _ (List.getElem?_eq_getElem (by omega))
    exact World.block_lt_of_cell? w _ hc0

theorem rdI_of_owns {w : World} {base n : Nat} {v : Value} {l : List Int} (h : w.ownsRow base 3 1 v n (ints l)) (hl : l.length = n) : ∃ a cap, v = .slice a n cap ∧ Rd .i64 w a n cap l := by
  have hc := fun g hg => h.cells (g := g) hg
  rcases h.2 with ⟨rfl, rfl⟩ | ⟨g, cap, cur, rfl, _, hh, h1, h2, _⟩
  · exact ⟨none, 0, rfl, hl, Nat.le_refl _, by unfold maxLen; omega, fun i hi => by omega⟩
  · refine ⟨_, cap, rfl, hl, h1, h2, fun i hi => ⟨g, 0, rfl, ?_⟩⟩
    have := hc g rfl i (.int .i64 (l.getD i 0)) (by simp [ints, List.getD, hl, hi])
    rw [add0'] at this
    exact this

/-- A frame that was made anew. -/
theorem liveU_new {w : World} {B : Nat} {cs : List Value} {x : LiveD} (h : RdLive w cs x) (hn : ∃ g n c, B ≤ g ∧ cs[2]? = some (.slice (some ⟨g, 0, none⟩) n c)) : RdLiveU (fun b => B ≤ b) w cs x := by
  obtain ⟨a, cap, rfl, hr⟩ := h
  obtain ⟨g, n, c, hg, e⟩ := hn
  simp at e
  obtain ⟨rfl, _, _⟩ := e
  exact ⟨_, cap, rfl, hr, fun _ q hq => by cases hq; exact hg⟩

/-- A run that is laid into the box of a result. -/
theorem stand_boxed {U : Nat → Prop} {w w3 : World} {n2 bx : Nat} {cs : List Value} {s : StandD} (h : RdStandU (OrNew (Old U w) n2) w3 cs s) (h1 : w.heap.size ≤ bx) (h2 : bx < n2) (u0 u1 u2 : Value) :
    RdStandU (OrNew U w.heap.size) (((w3.setCell ⟨bx, 0, none⟩ u0).setCell ⟨bx, 1, none⟩ u1).setCell ⟨bx, 2, none⟩ u2) cs s := by
  have hnb : ∀ j : Nat, ¬ OrNew (Old U w) n2 (⟨bx, j, none⟩ : Addr).block := fun j h => by
    rcases h with h | h
    · have h' : bx < w.heap.size := h.2
      omega
    · have h' : n2 ≤ bx := h
      omega
  exact ((h.keeps (Keeps.setCell (hnb 0) _) (fun _ h => h)).keeps (Keeps.setCell (hnb 1) _) (fun _ h => h)).keeps (Keeps.setCell (hnb 2) _) (fun b h => by
    rcases h with h | h
    · exact .inl h.1
    · exact .inr (by omega))
theorem below_boxed {w w3 : World} {B bx : Nat} (h : Below B w w3) (h1 : B ≤ bx) (u0 u1 u2 : Value) : Below B w (((w3.setCell ⟨bx, 0, none⟩ u0).setCell ⟨bx, 1, none⟩ u1).setCell ⟨bx, 2, none⟩ u2) :=
  ((h.setCell (p := ⟨bx, 0, none⟩) h1 u0).setCell (p := ⟨bx, 1, none⟩) h1 u1).setCell (p := ⟨bx, 2, none⟩) h1 u2
end Go.Proofs.YthaganponmnanaaGreatDoor
namespace Go.Proofs.YthaganponmnanaaGreatDoor
open Go.RowKit

set_option maxHeartbeats 4000000 in
set_option maxRecDepth 100000 in
theorem op_any (rb : Nat) (p : List FnD) (pa : Option Addr) (pcap : Nat) (x : LiveD) (w : World) (hc : w.cell? ⟨rb, 0, none⟩ = some (.slice pa p.length pcap)) (hp : RdP w pa p.length pcap p) (hx : WfLive p x) (hl : x.locals.length ≤ 8) :
    Calls Tryz.prog 60 #[.pointer (some ⟨rb, 0, none⟩), .agg (frmCells x).toArray] w fun e w' =>
      ∃ oa ocap, e = .returned (.agg #[.int .i64 (opOf p x).code, .int .i64 (opOf p x).line, .int .i64 (opOf p x).a, .int .i64 (opOf p x).b, .int .i64 (opOf p x).c, .slice oa (opOf p x).args.length ocap]) ∧ Rd .i64 w' oa (opOf p x).args.length ocap (opOf p x).args ∧ Below w.heap.size w w' := by
  have hcn := hx.next
  have hcf := hx.fn
  obtain ⟨pb, poff, ba, bcap, rfl, -, -, -, -, -, c4, hrb, -, -⟩ := hp.at x.fn.toNat _ (fnOf_some hx)
  obtain ⟨qb, qoff, oa, ocap, rfl, -, q0, q1, q2, q3, q4, q5, hro⟩ := hrb.opAt x.next.toNat _ (opOf_some hx)
  have hbl1 := hrb.2.1
  have hbl2 := hrb.2.2.1
  have hpc1 := hp.2.1
  have hpc2 := hp.2.2.1
  unfold maxLen at hbl2 hpc2
  have hlr := World.block_lt_of_cell? w _ hc
  have lt1 := World.block_lt_of_cell? w _ c4
  have lt2 := World.block_lt_of_cell? w _ q0
  simp only at hlr lt1 lt2
  obtain ⟨fN, hfN⟩ : ∃ n : Nat, x.fn = n := ⟨x.fn.toNat, by omega⟩
  obtain ⟨sN, hsN⟩ : ∃ n : Nat, x.next = n := ⟨x.next.toNat, by omega⟩
  have hfp : fN < p.length := by omega
  have hsb : sN < (fnOf p x).body.length := by omega
  rw [hfN] at c4
  rw [hsN] at q0 q1 q2 q3 q4 q5
  simp only [Int.toNat_natCast] at c4 q0 q1 q2 q3 q4 q5
  have HRO := hid hro
  generalize opOf p x = o at *
  obtain ⟨oc, ol, oaa, ob, od, args⟩ := o
  simp only at *
  generalize (fnOf p x).body.length = bl at *
  generalize p.length = pl at *
  have hpl8 := pad8_len hl
  unfold frmCells
  rw [hfN, hsN]
  obtain ⟨xf, xn, xl⟩ := x
  simp only at *
  generalize pad8 xl = q at *
  obtain ⟨l0, l1, l2, l3, l4, l5, l6, l7, rfl⟩ := eight hpl8
  obtain ⟨na, hna⟩ : ∃ v, v = args.length := ⟨_, rfl⟩
  rw [← hna] at q5 HRO ⊢
  clear hro hrb hp hx hcn hcf hpl8 hl hfN hsN hna
  simp only [List.map_cons, List.map_nil]
  obtain ⟨wb, hwb⟩ : ∃ wb, wb = (w.alloc (Obj.cells #[.int .i64 fN, .int .i64 sN, .int .i64 l0, .int .i64 l1, .int .i64 l2, .int .i64 l3, .int .i64 l4, .int .i64 l5, .int .i64 l6, .int .i64 l7] 98)).alloc (Obj.cells #[.int .i64 0, .int .i64 0, .int .i64 0, .int .i64 0, .int .i64 0, .slice none 0 0] 70) := ⟨_, rfl⟩
  have hbb : Below w.heap.size w wb := by rw [hwb]; exact ((Below.refl _ _).alloc (Nat.le_refl _) _).alloc (by simp) _
  have hbs : wb.heap.size = w.heap.size + 2 := by rw [hwb]; simp
  have k0 : wb.heap[w.heap.size]? = some (.cells #[.int .i64 fN, .int .i64 sN, .int .i64 l0, .int .i64 l1, .int .i64 l2, .int .i64 l3, .int .i64 l4, .int .i64 l5, .int .i64 l6, .int .i64 l7] 98 (0, 0)) := by rw [hwb]; exact heap_at1 (by simp <;> omega) (heap_new_at (by simp))
  have k1 : wb.heap[w.heap.size + 1]? = some (.cells #[.int .i64 0, .int .i64 0, .int .i64 0, .int .i64 0, .int .i64 0, .slice none 0 0] 70 (0, 0)) := by rw [hwb]; exact heap_new_at (by simp)
  go_enter Tryz.func60, Tryz.ntmps60
  go_wp2
  rw [← hwb]
  clear hwb
  have up : ∀ (q : Addr) (u : Value), w.cell? q = some u → wb.cell? q = some u := fun q u h => (hbb.cell (World.block_lt_of_cell? w _ h)).trans h
  have s0 := up _ _ hc
  have s3 := up _ _ c4
  have p0 := up _ _ q0
  have p1 := up _ _ q1
  have p2 := up _ _ q2
  have p3 := up _ _ q3
  have p4 := up _ _ q4
  have p5 := up _ _ q5
  have s1 : wb.cell? ⟨w.heap.size, 0, none⟩ = some (.int .i64 fN) := by simp [World.cell?, k0]
  have s2 : wb.cell? ⟨w.heap.size, 1, none⟩ = some (.int .i64 sN) := by simp [World.cell?, k0]
  have z0 : wb.cell? ⟨w.heap.size + 1, 0, none⟩ = some (.int .i64 0) := by simp [World.cell?, k1]
  have z1 : wb.cell? ⟨w.heap.size + 1, 1, none⟩ = some (.int .i64 0) := by simp [World.cell?, k1]
  have z2 : wb.cell? ⟨w.heap.size + 1, 2, none⟩ = some (.int .i64 0) := by simp [World.cell?, k1]
  have z3 : wb.cell? ⟨w.heap.size + 1, 3, none⟩ = some (.int .i64 0) := by simp [World.cell?, k1]
  have z4 : wb.cell? ⟨w.heap.size + 1, 4, none⟩ = some (.int .i64 0) := by simp [World.cell?, k1]
  have z5 : wb.cell? ⟨w.heap.size + 1, 5, none⟩ = some (.slice none 0 0) := by simp [World.cell?, k1]
  have f0 : wb.frozen? ⟨w.heap.size + 1, 0, none⟩ = false := by simp [World.frozen?, k1]
  have f1 : wb.frozen? ⟨w.heap.size + 1, 1, none⟩ = false := by simp [World.frozen?, k1]
  have f2 : wb.frozen? ⟨w.heap.size + 1, 2, none⟩ = false := by simp [World.frozen?, k1]
  have f3 : wb.frozen? ⟨w.heap.size + 1, 3, none⟩ = false := by simp [World.frozen?, k1]
  have f4 : wb.frozen? ⟨w.heap.size + 1, 4, none⟩ = false := by simp [World.frozen?, k1]
  have f5 : wb.frozen? ⟨w.heap.size + 1, 5, none⟩ = false := by simp [World.frozen?, k1]
  have HU := hid (fun (W : World) (h : Below (w.heap.size + 1) wb W) (q : Addr) (u : Value) (hq : q.block < w.heap.size + 1) (hc : wb.cell? q = some u) => (h.cell hq).trans hc)
  have KS := hid (fun (W : World) (h : Below (w.heap.size + 1) wb W) => (⟨h, HU.out W h _ _ (by simp; omega) s0, HU.out W h _ _ (by simp) s1, HU.out W h _ _ (by simp) s2, HU.out W h _ _ (by simp; omega) s3, HU.out W h _ _ (by simp; omega) p0, HU.out W h _ _ (by simp; omega) p1, HU.out W h _ _ (by simp; omega) p2, HU.out W h _ _ (by simp; omega) p3, HU.out W h _ _ (by simp; omega) p4, HU.out W h _ _ (by simp; omega) p5⟩ : Below (w.heap.size + 1) wb W ∧ W.cell? ⟨rb, 0, none⟩ = some (.slice (some ⟨pb, poff, none⟩) pl pcap) ∧ W.cell? ⟨w.heap.size, 0, none⟩ = some (.int .i64 fN) ∧ W.cell? ⟨w.heap.size, 1, none⟩ = some (.int .i64 sN) ∧ W.cell? ⟨pb, poff + fN * 5 + 4, none⟩ = some (.slice (some ⟨qb, qoff, none⟩) bl bcap) ∧ W.cell? ⟨qb, qoff + sN * 6, none⟩ = some (.int .i64 oc) ∧ W.cell? ⟨qb, qoff + sN * 6 + 1, none⟩ = some (.int .i64 ol) ∧ W.cell? ⟨qb, qoff + sN * 6 + 2, none⟩ = some (.int .i64 oaa) ∧ W.cell? ⟨qb, qoff + sN * 6 + 3, none⟩ = some (.int .i64 ob) ∧ W.cell? ⟨qb, qoff + sN * 6 + 4, none⟩ = some (.int .i64 od) ∧ W.cell? ⟨qb, qoff + sN * 6 + 5, none⟩ = some (.slice oa na ocap)))
  clear s0 s1 s2 s3 p0 p1 p2 p3 p4 p5 hc c4 q0 q1 q2 q3 q4 q5 up k0 k1
  go_region_held (fun W => Below (w.heap.size + 1) wb W ∧ W.cell? ⟨rb, 0, none⟩ = some (.slice (some ⟨pb, poff, none⟩) pl pcap) ∧ W.cell? ⟨w.heap.size, 0, none⟩ = some (.int .i64 fN) ∧ W.cell? ⟨w.heap.size, 1, none⟩ = some (.int .i64 sN) ∧ W.cell? ⟨pb, poff + fN * 5 + 4, none⟩ = some (.slice (some ⟨qb, qoff, none⟩) bl bcap) ∧ W.cell? ⟨qb, qoff + sN * 6, none⟩ = some (.int .i64 oc) ∧ W.cell? ⟨qb, qoff + sN * 6 + 1, none⟩ = some (.int .i64 ol) ∧ W.cell? ⟨qb, qoff + sN * 6 + 2, none⟩ = some (.int .i64 oaa) ∧ W.cell? ⟨qb, qoff + sN * 6 + 3, none⟩ = some (.int .i64 ob) ∧ W.cell? ⟨qb, qoff + sN * 6 + 4, none⟩ = some (.int .i64 od) ∧ W.cell? ⟨qb, qoff + sN * 6 + 5, none⟩ = some (.slice oa na ocap))
    ((refine KS.out _ ?_; first | with_reducible exact (Below.refl _ _).drew | with_reducible exact (((((((Below.refl _ _).setCell (p := ⟨w.heap.size + 1, 0, none⟩) (Nat.le_refl _) _).setCell (p := ⟨w.heap.size + 1, 1, none⟩) (Nat.le_refl _) _).setCell (p := ⟨w.heap.size + 1, 2, none⟩) (Nat.le_refl _) _).setCell (p := ⟨w.heap.size + 1, 3, none⟩) (Nat.le_refl _) _).setCell (p := ⟨w.heap.size + 1, 4, none⟩) (Nat.le_refl _) _).setCell (p := ⟨w.heap.size + 1, 5, none⟩) (Nat.le_refl _) _).drew))
    (fail)
  have HBE := hid ((((((hbb.setCell (p := ⟨w.heap.size + 1, 0, none⟩) (Nat.le_succ _) (.int .i64 oc)).setCell (p := ⟨w.heap.size + 1, 1, none⟩) (Nat.le_succ _) (.int .i64 ol)).setCell (p := ⟨w.heap.size + 1, 2, none⟩) (Nat.le_succ _) (.int .i64 oaa)).setCell (p := ⟨w.heap.size + 1, 3, none⟩) (Nat.le_succ _) (.int .i64 ob)).setCell (p := ⟨w.heap.size + 1, 4, none⟩) (Nat.le_succ _) (.int .i64 od)).setCell (p := ⟨w.heap.size + 1, 5, none⟩) (Nat.le_succ _) (.slice oa na ocap)).drew
  obtain ⟨w2, hw2⟩ : ∃ w2, w2 = ((((((wb.setCell ⟨w.heap.size + 1, 0, none⟩ (.int .i64 oc)).setCell ⟨w.heap.size + 1, 1, none⟩ (.int .i64 ol)).setCell ⟨w.heap.size + 1, 2, none⟩ (.int .i64 oaa)).setCell ⟨w.heap.size + 1, 3, none⟩ (.int .i64 ob)).setCell ⟨w.heap.size + 1, 4, none⟩ (.int .i64 od)).setCell ⟨w.heap.size + 1, 5, none⟩ (.slice oa na ocap)).drew := ⟨_, rfl⟩
  have y0 : w2.cell? ⟨w.heap.size + 1, 0, none⟩ = some (.int .i64 oc) := by rw [hw2]; simp [go_sem, z0]
  have y1 : w2.cell? ⟨w.heap.size + 1, 1, none⟩ = some (.int .i64 ol) := by rw [hw2]; simp [go_sem, z1]
  have y2 : w2.cell? ⟨w.heap.size + 1, 2, none⟩ = some (.int .i64 oaa) := by rw [hw2]; simp [go_sem, z2]
  have y3 : w2.cell? ⟨w.heap.size + 1, 3, none⟩ = some (.int .i64 ob) := by rw [hw2]; simp [go_sem, z3]
  have y4 : w2.cell? ⟨w.heap.size + 1, 4, none⟩ = some (.int .i64 od) := by rw [hw2]; simp [go_sem, z4]
  have y5 : w2.cell? ⟨w.heap.size + 1, 5, none⟩ = some (.slice oa na ocap) := by rw [hw2]; simp [go_sem, z5]
  rw [← hw2] at HBE ⊢
  clear hw2 KS HU z0 z1 z2 z3 z4 z5 f0 f1 f2 f3 f4 f5
  go_wp2
  exact bodyPost_ret (v := .agg #[.int .i64 oc, .int .i64 ol, .int .i64 oaa, .int .i64 ob, .int .i64 od, .slice oa na ocap]) (by simp [results, Tryz.results60, go_sem, y0, y1, y2, y3, y4, y5]) rfl ⟨oa, ocap, rfl, HRO.out.below HBE.out (Nat.le_refl _), HBE.out⟩
end Go.Proofs.YthaganponmnanaaGreatDoor
