/- Contracts of the statement's own functions sameOp and sameFunc: at two readings of one op, of one function, they return true; nothing that was there is written. Contract of the statement's own sameFrames. A run of a program as plain data: one step, what holds behind each step, and that a step keeps it; nothing is claimed of the program here. The code of functions, with Calls inlined, as plain data (laid as the developers lay it); nothing is claimed of the program here. -/
import Derived.Test.YtffnfjkjlmlonaaGreatDoorH3
import Derived.Deep.RegionWith
import Derived.Test.YtffnfjkjlmlonaaGreatDoorZ5
namespace Go.Proofs.YtffnfjkjlmlonaaGreatDoor
open Go.RowKit

set_option maxHeartbeats 1000000 in
set_option maxRecDepth 100000 in
theorem sameOp_any (o : OpD) (a : Option Addr) (cap : Nat) (a2 : Option Addr) (cap2 : Nat) (w : World) (hr : Rd .i64 w a o.args.length cap o.args) (hr2 : Rd .i64 w a2 o.args.length cap2 o.args) :
    Calls Tryz.prog 191 #[.agg #[.int .i64 o.code, .int .i64 o.line, .int .i64 o.a, .int .i64 o.b, .int .i64 o.c, .slice a o.args.length cap], .agg #[.int .i64 o.code, .int .i64 o.line, .int .i64 o.a, .int .i64 o.b, .int .i64 o.c, .slice a2 o.args.length cap2]] w
      fun e w' => e = .returned (.bool true) ∧ Below w.heap.size w w' := by
  obtain ⟨oc, ol, oa, ob, od, l⟩ := o
  simp only at hr hr2 ⊢
  obtain ⟨wb, hwb⟩ : ∃ wb, wb = (w.alloc (Obj.cells #[.int .i64 oc, .int .i64 ol, .int .i64 oa, .int .i64 ob, .int .i64 od, .slice a l.length cap] 183)).alloc (Obj.cells #[.int .i64 oc, .int .i64 ol, .int .i64 oa, .int .i64 ob, .int .i64 od, .slice a2 l.length cap2] 183) := ⟨_, rfl⟩
  have hbb : Below w.heap.size w wb := by rw [hwb]; exact ((Below.refl _ _).alloc (Nat.le_refl _) _).alloc (by simp) _
  have hbs : wb.heap.size = w.heap.size + 2 := by rw [hwb]; simp
  have hk1 : wb.heap[w.heap.size]? = some (.cells #[.int .i64 oc, .int .i64 ol, .int .i64 oa, .int .i64 ob, .int .i64 od, .slice a l.length cap] 183 (0, 0)) := by
    rw [hwb, Below.heap_alloc _ _ _ (by simp)]; exact heap_alloc_new _ _
  have hk2 : wb.heap[w.heap.size + 1]? = some (.cells #[.int .i64 oc, .int .i64 ol, .int .i64 oa, .int .i64 ob, .int .i64 od, .slice a2 l.length cap2] 183 (0, 0)) := by
    rw [hwb]
    have := heap_alloc_new (w.alloc (Obj.cells #[.int .i64 oc, .int .i64 ol, .int .i64 oa, .int .i64 ob, .int .i64 od, .slice a l.length cap] 183)) (Obj.cells #[.int .i64 oc, .int .i64 ol, .int .i64 oa, .int .i64 ob, .int .i64 od, .slice a2 l.length cap2] 183)
    simpa using this
  have HS := hid (sameInts_any a l.length cap l a2 cap2 wb (hr.below hbb (Nat.le_refl _)) (hr2.below hbb (Nat.le_refl _)))
  clear hr hr2
  go_enter Tryz.func191, Tryz.ntmps191
  go_wp2_with fail
  rw [← hwb]
  clear hwb
  refine HS.out.mono ?_
  rintro e w1 ⟨rfl, hb1⟩
  have m1 := (hb1.block w.heap.size (by omega)).trans hk1
  have m2 := (hb1.block (w.heap.size + 1) (by omega)).trans hk2
  have p0 : w1.cell? ⟨w.heap.size, 0, none⟩ = some (.int .i64 oc) := by simp [World.cell?, m1]
  have p1 : w1.cell? ⟨w.heap.size, 1, none⟩ = some (.int .i64 ol) := by simp [World.cell?, m1]
  have p2 : w1.cell? ⟨w.heap.size, 2, none⟩ = some (.int .i64 oa) := by simp [World.cell?, m1]
  have p3 : w1.cell? ⟨w.heap.size, 3, none⟩ = some (.int .i64 ob) := by simp [World.cell?, m1]
  have p4 : w1.cell? ⟨w.heap.size, 4, none⟩ = some (.int .i64 od) := by simp [World.cell?, m1]
  have q0 : w1.cell? ⟨w.heap.size + 1, 0, none⟩ = some (.int .i64 oc) := by simp [World.cell?, m2]
  have q1 : w1.cell? ⟨w.heap.size + 1, 1, none⟩ = some (.int .i64 ol) := by simp [World.cell?, m2]
  have q2 : w1.cell? ⟨w.heap.size + 1, 2, none⟩ = some (.int .i64 oa) := by simp [World.cell?, m2]
  have q3 : w1.cell? ⟨w.heap.size + 1, 3, none⟩ = some (.int .i64 ob) := by simp [World.cell?, m2]
  have q4 : w1.cell? ⟨w.heap.size + 1, 4, none⟩ = some (.int .i64 od) := by simp [World.cell?, m2]
  have hbe := hbb.trans (hb1.mono hbb.size)
  clear m1 m2 hk1 hk2 HS hb1 hbb
  go_wp2
  go_ret
  exact ⟨rfl, hbe⟩

set_option maxHeartbeats 2000000 in
set_option maxRecDepth 100000 in
theorem sameFunc_any (f : FnD) (a : Option Addr) (cap : Nat) (a2 : Option Addr) (cap2 : Nat) (w : World) (hr : RdL 6 RdOp w a f.body.length cap f.body) (hr2 : RdL 6 RdOp w a2 f.body.length cap2 f.body) :
    Calls Tryz.prog 138 #[.agg #[.string f.name, .string f.file, .int .i64 f.params, .int .i64 f.locals, .slice a f.body.length cap], .agg #[.string f.name, .string f.file, .int .i64 f.params, .int .i64 f.locals, .slice a2 f.body.length cap2]] w
      fun e w' => e = .returned (.bool true) ∧ Below w.heap.size w w' := by
  obtain ⟨nm, fl, pr, lo, l⟩ := f
  simp only at hr hr2 ⊢
  obtain ⟨n, hn⟩ : ∃ n, n = l.length := ⟨_, rfl⟩
  rw [← hn] at hr hr2 ⊢
  have HN := hid hn
  clear hn
  have hc1 := hr.2.1
  have hc2 := hr.2.2.1
  unfold maxLen at hc2
  have hd1 := hr2.2.1
  have hd2 := hr2.2.2.1
  unfold maxLen at hd2
  obtain ⟨wb, hwb⟩ : ∃ wb, wb = (w.alloc (Obj.cells #[.string nm, .string fl, .int .i64 pr, .int .i64 lo, .slice a n cap] 122)).alloc (Obj.cells #[.string nm, .string fl, .int .i64 pr, .int .i64 lo, .slice a2 n cap2] 122) := ⟨_, rfl⟩
  have hbb : Below w.heap.size w wb := by rw [hwb]; exact ((Below.refl _ _).alloc (Nat.le_refl _) _).alloc (by simp) _
  have hbs : wb.heap.size = w.heap.size + 2 := by rw [hwb]; simp
  have hk1 : wb.heap[w.heap.size]? = some (.cells #[.string nm, .string fl, .int .i64 pr, .int .i64 lo, .slice a n cap] 122 (0, 0)) := by
    rw [hwb, Below.heap_alloc _ _ _ (by simp)]; exact heap_alloc_new _ _
  have hk2 : wb.heap[w.heap.size + 1]? = some (.cells #[.string nm, .string fl, .int .i64 pr, .int .i64 lo, .slice a2 n cap2] 122 (0, 0)) := by
    rw [hwb]
    have := heap_alloc_new (w.alloc (Obj.cells #[.string nm, .string fl, .int .i64 pr, .int .i64 lo, .slice a n cap] 122)) (Obj.cells #[.string nm, .string fl, .int .i64 pr, .int .i64 lo, .slice a2 n cap2] 122)
    simpa using this
  have HK1 := hid hk1
  have HK2 := hid hk2
  clear hk1 hk2
  go_enter Tryz.func138, Tryz.ntmps138
  go_wp2
  rw [← hwb]
  clear hwb
  go_loopw [5, 6] (fun i _ wr => ∃ j : Nat, i = .int .i64 j ∧ j ≤ n ∧ Below wb.heap.size wb wr) (fun i _ _ => n - (intOf i).toNat)
  case atStart => exact ⟨0, rfl, by omega, Below.refl _ _⟩
  case round =>
    obtain ⟨j, rfl, hj, hbel⟩ := hrel
    have hsz := hbel.size
    have hbe := hbb.trans (hbel.mono hbb.size)
    have m1 := (hbel.block w.heap.size (by omega)).trans HK1.out
    have m2 := (hbel.block (w.heap.size + 1) (by omega)).trans HK2.out
    have p4 : wr.cell? ⟨w.heap.size, 4, none⟩ = some (.slice a n cap) := by simp [World.cell?, m1]
    have q4 : wr.cell? ⟨w.heap.size + 1, 4, none⟩ = some (.slice a2 n cap2) := by simp [World.cell?, m2]
    clear m1 m2
    by_cases hlt : j < n
    · obtain ⟨o, ho⟩ : ∃ o, l[j]? = some o := ⟨_, List.getElem?_eq_getElem (by rw [← HN.out]; exact hlt)⟩
      obtain ⟨b, off, aa, acap, rfl, hb, d0, d1', d2', d3, d4, d5, hra⟩ := (hr.below hbe (fun _ _ h => h.below hbe)).opAt j o ho
      obtain ⟨b2, off2, aa2, acap2, rfl, hb2, e0, e1, e2, e3, e4, e5, hra2⟩ := (hr2.below hbe (fun _ _ h => h.below hbe)).opAt j o ho
      have HSO := hid (fun (W : World) (hW : Below wr.heap.size wr W) => sameOp_any o aa acap aa2 acap2 W (hra.below hW (Nat.le_refl _)) (hra2.below hW (Nat.le_refl _)))
      clear hr hr2 ho hra hra2
      go_wp2
      go_region_with (go_at_call 191; refine (HSO.out _ ?_).mono ?_; exact (Below.refl _ _).drew; rintro e w2 ⟨rfl, hb2⟩)
      all_goals
        go_wp2
        go_roundw
        case rel => exact ⟨j + 1, by go_num, by omega, hbel.trans (((Below.refl _ _).drew.trans hb2).mono hsz)⟩
        case measure => simp [intOf]; omega
    · go_wp2
      go_ret
      exact ⟨rfl, hbe⟩
end Go.Proofs.YtffnfjkjlmlonaaGreatDoor
namespace Go.Proofs.YtffnfjkjlmlonaaGreatDoor
open Go.RowKit

/-- A frame that is told. -/
structure FrameD where
  func : ByteArray
  file : ByteArray
  line : Int
def frCells (x : FrameD) : List Value := [.string x.func, .string x.file, .int .i64 x.line]
def RdFrame (_ : World) (cs : List Value) (x : FrameD) : Prop := cs = frCells x

theorem RdL.frameAt {w : World} {a : Option Addr} {n cap : Nat} {l : List FrameD} (h : RdL 3 RdFrame w a n cap l) (i : Nat) (x : FrameD) (hx : l[i]? = some x) :
    ∃ b off, a = some ⟨b, off, none⟩ ∧ w.cell? ⟨b, off + i * 3, none⟩ = some (.string x.func) ∧ w.cell? ⟨b, off + i * 3 + 1, none⟩ = some (.string x.file) ∧ w.cell? ⟨b, off + i * 3 + 2, none⟩ = some (.int .i64 x.line) := by
  obtain ⟨b, off, cs, e, _, hc, rfl⟩ := h.2.2.2 i x hx
  exact ⟨b, off, e, hc 0 _ rfl, hc 1 _ rfl, hc 2 _ rfl⟩

set_option maxHeartbeats 2000000 in
set_option maxRecDepth 100000 in
theorem sameFrames_any (a : Option Addr) (n cap : Nat) (l : List FrameD) (a2 : Option Addr) (cap2 : Nat) (w : World) (hr : RdL 3 RdFrame w a n cap l) (hr2 : RdL 3 RdFrame w a2 n cap2 l) :
    Calls Tryz.prog 47 #[.slice a n cap, .slice a2 n cap2] w fun e w' => e = .returned (.bool true) ∧ Below w.heap.size w w' := by
  have HL := hid hr.1
  have h1 := hr.2.1
  have h2 := hr.2.2.1
  have h3 := hr2.2.1
  have h4 := hr2.2.2.1
  unfold maxLen at h2 h4
  have HR := hid hr
  have HR2 := hid hr2
  clear hr hr2
  go_enter Tryz.func47, Tryz.ntmps47
  go_wp2
  go_loopw [5] (fun i wr => ∃ j : Nat, i = .int .i64 j ∧ j ≤ n ∧ Below w.heap.size w wr) (fun i _ => n - (intOf i).toNat)
  case atStart => exact ⟨0, rfl, by omega, Below.refl _ _⟩
  case round =>
    obtain ⟨j, rfl, hj, hb2⟩ := hrel
    by_cases hlt2 : j < n
    · obtain ⟨x, hx⟩ : ∃ x, l[j]? = some x := ⟨_, List.getElem?_eq_getElem (by rw [HL.out]; exact hlt2)⟩
      obtain ⟨xb, xoff, rfl, c0, c1, c2⟩ := (HR.out.below hb2 (fun _ _ h => h)).frameAt j x hx
      obtain ⟨yb, yoff, rfl, d0, d1, d2⟩ := (HR2.out.below hb2 (fun _ _ h => h)).frameAt j x hx
      have hjn : (j : Int) < (n : Int) := by omega
      clear hx
      obtain ⟨s1, s2, i3⟩ := x
      simp only at c0 c1 c2 d0 d1 d2
      go_wp2
      go_quiet (fail)
      go_wp2
      go_roundw
      case rel => exact ⟨j + 1, by go_num, by omega, below_drawn hb2 nq⟩
      case measure => simp [intOf]; omega
    · go_wp2
      go_ret
      exact ⟨rfl, hb2⟩
end Go.Proofs.YtffnfjkjlmlonaaGreatDoor
namespace Go.Proofs.YtffnfjkjlmlonaaGreatDoor
open Go.RowKit

def noFn : FnD := ⟨⟨#[]⟩, ⟨#[]⟩, 0, 0, []⟩
def noOp : OpD := ⟨0, 0, 0, 0, 0, []⟩
def fnAt (p : List FnD) (n : Int) : FnD := (p[n.toNat]?).getD noFn
def fnOf (p : List FnD) (x : LiveD) : FnD := fnAt p x.fn
def opOf (p : List FnD) (x : LiveD) : OpD := ((fnOf p x).body[x.next.toNat]?).getD noOp
def locOf (x : LiveD) (k : Int) : Int := (x.locals[k.toNat]?).getD 0
def setL (x : LiveD) (k v next : Int) : LiveD := ⟨x.fn, next, x.locals.set k.toNat v⟩
def calleeD (p : List FnD) (x : LiveD) (o : OpD) : LiveD := ⟨o.b, 0, fillI (o.args.map (locOf x)) (fnAt p o.b).locals.toNat o.args.length⟩

/-- The next op of the innermost frame x, behind the others. -/
def stepTop (p : List FnD) (ini : List LiveD) (x : LiveD) : StandD :=
  if (opOf p x).code = 5 then
    if ini.length + 1 = 20 then ⟨3, 0, ini ++ [x]⟩ else ⟨0, 0, ini ++ [x] ++ [calleeD p x (opOf p x)]⟩
  else if (opOf p x).code = 6 then
    match ini.getLast? with
    | none => ⟨1, locOf x (opOf p x).a, []⟩
    | some c => ⟨0, 0, ini.dropLast ++ [setL c (opOf p c).a (locOf x (opOf p x).a) (c.next + 1)]⟩
  else if (opOf p x).code = 4 then ⟨0, 0, ini ++ [⟨x.fn, if locOf x (opOf p x).a = 0 then x.next + 1 else (opOf p x).b, x.locals⟩]⟩
  else if (opOf p x).code = 0 then ⟨0, 0, ini ++ [setL x (opOf p x).a (opOf p x).b (x.next + 1)]⟩
  else if (opOf p x).code = 3 ∧ locOf x (opOf p x).c = 0 then ⟨2, 0, ini ++ [x]⟩
  else ⟨0, 0, ini ++ [setL x (opOf p x).a (cnt (opOf p x).code (locOf x (opOf p x).b) (locOf x (opOf p x).c)) (x.next + 1)]⟩

def nextD (p : List FnD) (s : StandD) : StandD :=
  if s.status ≠ 0 then s else match s.live.getLast? with
    | none => s
    | some x => stepTop p s.live.dropLast x
def runD (p : List FnD) (s : StandD) : Nat → StandD
  | 0 => s
  | n + 1 => nextD p (runD p s n)
def begunD (p : List FnD) (args : List Int) : StandD := ⟨0, 0, [⟨0, 0, fillI args (fnAt p 0).locals.toNat args.length⟩]⟩
def toldD (p : List FnD) (s : StandD) : List FrameD := s.live.reverse.map fun x => ⟨(fnOf p x).name, (fnOf p x).file, (opOf p x).line⟩

/-- What Check asks of an op, said one by one. -/
structure OpOk (p : List FnD) (x : FnD) (s : Nat) (o : OpD) : Prop where
  line : 1 ≤ o.line ∧ o.line ≤ 9999
  a : 0 ≤ o.a ∧ o.a < x.locals
  code : 0 ≤ o.code ∧ o.code ≤ 6
  last : o.code ≠ 6 → s + 1 < x.body.length
  set : o.code = 0 → 0 ≤ o.b ∧ o.b < 1000
  three : o.code = 1 ∨ o.code = 2 ∨ o.code = 3 → (0 ≤ o.b ∧ o.b < x.locals) ∧ (0 ≤ o.c ∧ o.c < x.locals)
  jump : o.code = 4 → 0 ≤ o.b ∧ o.b < x.body.length
  call : o.code = 5 → 0 ≤ o.b ∧ o.b < p.length ∧ (fnAt p o.b).params = o.args.length ∧ ∀ n ∈ o.args, 0 ≤ n ∧ n < x.locals
structure FnOk (p : List FnD) (x : FnD) : Prop where
  locals : 1 ≤ x.locals ∧ x.locals ≤ 8
  params : 0 ≤ x.params ∧ x.params ≤ x.locals
  body : 1 ≤ x.body.length ∧ x.body.length ≤ 30
  ops : ∀ (s : Nat) (o : OpD), x.body[s]? = some o → OpOk p x s o
structure Good (p : List FnD) : Prop where
  len : 1 ≤ p.length ∧ p.length ≤ 12
  fns : ∀ (f : Nat) (x : FnD), p[f]? = some x → FnOk p x

theorem andB {a b : Bool} : (a && b) = true ↔ a = true ∧ b = true := by simp
theorem withB_true {n e : Int} (h : withB n e = true) : 0 ≤ n ∧ n < e := by simpa [withB] using h

theorem opOk_of {p : List FnD} {x : FnD} {s : Nat} {o : OpD} (hs : s < x.body.length) (h : opB p x s o = true) : OpOk p x s o := by
  unfold opB at h
  split at h
  · cases h
  · next h1 =>
    have h2 : (1 ≤ o.line ∧ o.line ≤ 9999) ∧ withB o.a x.locals = true := by
      simp only [Bool.or_eq_true, Bool.not_eq_true', not_or, decide_eq_false_iff_not, Bool.not_eq_false] at h1
      exact ⟨Decidable.not_not.1 h1.1, h1.2⟩
    obtain ⟨hl, ha⟩ := h2
    have ha := withB_true ha
    split at h
    · next h6 => exact ⟨hl, ha, by omega, fun h => absurd h6 h, by omega, by omega, by omega, by omega⟩
    · next h6 =>
      split at h
      · cases h
      · next hlast =>
        have hlt : s + 1 < x.body.length := by omega
        split at h
        · next k0 => exact ⟨hl, ha, by omega, fun _ => hlt, fun _ => withB_true h, by omega, by omega, by omega⟩
        · split at h
          · next k1 =>
            have h := andB.1 h
            exact ⟨hl, ha, by omega, fun _ => hlt, by omega, fun _ => ⟨withB_true h.1, withB_true h.2⟩, by omega, by omega⟩
          · split at h
            · next k4 => exact ⟨hl, ha, by omega, fun _ => hlt, by omega, by omega, fun _ => withB_true h, by omega⟩
            · split at h
              · next k5 =>
                refine ⟨hl, ha, by omega, fun _ => hlt, by omega, by omega, by omega, fun _ => ?_⟩
                unfold callB at h
                obtain ⟨hb, h2⟩ := andB.1 h
                obtain ⟨hp, hargs⟩ := andB.1 h2
                have hb := withB_true hb
                refine ⟨hb.1, hb.2, ?_, fun n hn => withB_true (List.all_eq_true.1 hargs n hn)⟩
                obtain ⟨y, hy⟩ : ∃ y, p[o.b.toNat]? = some y := ⟨_, List.getElem?_eq_getElem (by omega)⟩
                rw [hy] at hp
                simp only [fnAt, hy, Option.getD_some]
                simpa using hp
              · cases h

theorem chkB_none {p : List FnD} {x : FnD} {f : Nat} : ∀ {l : List OpD} {s : Nat}, chkB p x f l s = none → ∀ (i : Nat) (o : OpD), l[i]? = some o → opB p x (s + i) o = true
  | [], _, _, i, o, h => by simp at h
  | o' :: r, s, hn, i, o, h => by
    unfold chkB at hn
    split at hn
    · next h1 =>
      match i, h with
      | 0, h => simp at h; subst h; exact h1
      | i + 1, h =>
        have := chkB_none hn i o (by simpa using h)
        rw [show s + (i + 1) = s + 1 + i by omega]
        exact this
    · cases hn

theorem chkF_ok {p : List FnD} : ∀ {l : List FnD} {f : Nat}, chkF p l f = (0, 0, 0) → ∀ (i : Nat) (x : FnD), l[i]? = some x → headB p (f + i) x = true ∧ chkB p x (f + i) x.body 0 = none
  | [], _, _, i, x, h => by simp at h
  | x' :: r, f, hn, i, x, h => by
    unfold chkF at hn
    split at hn
    · next h1 =>
      split at hn
      · next e he =>
        exfalso
        have : ∀ (l : List OpD) (s : Nat) e, chkB p x' f l s = some e → e.1 = 7 := by
          intro l
          induction l with
          | nil => intro s e h; simp [chkB] at h
          | cons o r ih =>
            intro s e h
            unfold chkB at h
            split at h
            · exact ih _ _ h
            · cases h; rfl
        have := this _ _ _ he
        rw [hn] at this
        simp at this
      · next he =>
        match i, h with
        | 0, h => simp at h; subst h; exact ⟨h1, he⟩
        | i + 1, h =>
          have := chkF_ok hn i x (by simpa using h)
          rw [show f + (i + 1) = f + 1 + i by omega]
          exact this
    · simp at hn

theorem good_of {p : List FnD} (h : chk p = (0, 0, 0)) : Good p := by
  unfold chk at h
  split at h
  · simp at h
  · refine ⟨by omega, fun f x hx => ?_⟩
    obtain ⟨hh, hb⟩ := chkF_ok h f x hx
    unfold headB at hh
    simp only [Bool.and_eq_true, decide_eq_true_eq] at hh
    obtain ⟨_, ⟨h1, h2, h3, h4⟩, _, h5, h6⟩ := hh
    refine ⟨⟨h1, h2⟩, ⟨h3, h4⟩, ⟨h5, h6⟩, fun s o ho => ?_⟩
    have := chkB_none hb s o ho
    rw [Nat.zero_add] at this
    exact opOk_of (List.getElem?_eq_some_iff.1 ho).1 this

/-- A frame that a run may have. -/
structure WfLive (p : List FnD) (x : LiveD) : Prop where
  fn : 0 ≤ x.fn ∧ x.fn < p.length
  next : 0 ≤ x.next ∧ x.next < (fnOf p x).body.length
  locals : (x.locals.length : Int) = (fnOf p x).locals
  vals : ∀ v ∈ x.locals, 0 ≤ v ∧ v < 1000
structure Wf (p : List FnD) (s : StandD) : Prop where
  len : s.live.length ≤ 20
  runs : s.status = 0 → s.live ≠ [] ∧ s.value = 0
  live : ∀ x ∈ s.live, WfLive p x
  calls : ∀ x ∈ s.live.dropLast, (opOf p x).code = 5

theorem fnAt_some {p : List FnD} {n : Int} (h : 0 ≤ n ∧ n < p.length) : p[n.toNat]? = some (fnAt p n) := by
  obtain ⟨y, hy⟩ : ∃ y, p[n.toNat]? = some y := ⟨_, List.getElem?_eq_getElem (by omega)⟩
  rw [fnAt, hy]; rfl
theorem opOf_some {p : List FnD} {x : LiveD} (h : WfLive p x) : (fnOf p x).body[x.next.toNat]? = some (opOf p x) := by
  have := h.next
  obtain ⟨y, hy⟩ : ∃ y, (fnOf p x).body[x.next.toNat]? = some y := ⟨_, List.getElem?_eq_getElem (by omega)⟩
  rw [opOf, hy]; rfl
theorem fnOf_some {p : List FnD} {x : LiveD} (h : WfLive p x) : p[x.fn.toNat]? = some (fnOf p x) := fnAt_some h.fn
theorem WfLive.fnOk {p : List FnD} {x : LiveD} (g : Good p) (h : WfLive p x) : FnOk p (fnOf p x) := g.fns _ _ (fnOf_some h)
theorem WfLive.opOk {p : List FnD} {x : LiveD} (g : Good p) (h : WfLive p x) : OpOk p (fnOf p x) x.next.toNat (opOf p x) := (h.fnOk g).ops _ _ (opOf_some h)
theorem WfLive.loc {p : List FnD} {x : LiveD} (h : WfLive p x) {k : Int} (hk : 0 ≤ k ∧ k < (fnOf p x).locals) : x.locals[k.toNat]? = some (locOf x k) := by
  have := h.locals
  obtain ⟨y, hy⟩ : ∃ y, x.locals[k.toNat]? = some y := ⟨_, List.getElem?_eq_getElem (by omega)⟩
  rw [locOf, hy]; rfl
theorem WfLive.val {p : List FnD} {x : LiveD} (h : WfLive p x) {k : Int} (hk : 0 ≤ k ∧ k < (fnOf p x).locals) : 0 ≤ locOf x k ∧ locOf x k < 1000 :=
  h.vals _ (List.mem_of_getElem? (h.loc hk))

theorem WfLive.setL {p : List FnD} {x : LiveD} (h : WfLive p x) {k v next : Int} (hn : 0 ≤ next ∧ next < (fnOf p x).body.length) (hv : 0 ≤ v ∧ v < 1000) : WfLive p (setL x k v next) := by
  refine ⟨h.fn, hn, by show ((x.locals.set _ _).length : Int) = _; rw [List.length_set]; exact h.locals, fun u hu => ?_⟩
  rcases List.mem_or_eq_of_mem_set hu with h1 | h1
  · exact h.vals u h1
  · subst h1; exact hv

theorem cnt_range {code x y : Int} (hx : 0 ≤ x ∧ x < 1000) (hy : 0 ≤ y ∧ y < 1000) (hd : code = 3 → y ≠ 0) : 0 ≤ cnt code x y ∧ cnt code x y < 1000 := by
  unfold cnt
  split
  · next h =>
    have := hd h
    exact ⟨Int.ediv_nonneg hx.1 hy.1, by have := Int.ediv_le_self y hx.1; omega⟩
  · split <;> omega

theorem mem_fillI {args : List Int} {n j : Nat} {v : Int} (h : v ∈ fillI args n j) : v ∈ args ∨ v = 0 := by
  unfold fillI at h
  rcases List.mem_append.1 h with h | h
  · exact .inl (List.mem_of_mem_take h)
  · exact .inr (List.mem_replicate.1 h).2

theorem wf_begun {p : List FnD} {args : List Int} (g : Good p) (hl : (args.length : Int) = (fnAt p 0).params) (hv : ∀ v ∈ args, 0 ≤ v ∧ v < 1000) : Wf p (begunD p args) := by
  have hlen := g.len
  have h0 : (0 : Int) ≤ 0 ∧ (0 : Int) < p.length := by omega
  have hf := g.fns _ _ (fnAt_some h0)
  have h1 := hf.locals
  have h2 := hf.params
  have h3 := hf.body
  refine ⟨by simp [begunD], fun _ => ⟨by simp [begunD], rfl⟩, fun x hx => ?_, fun x hx => by simp [begunD] at hx⟩
  simp [begunD] at hx
  subst hx
  refine ⟨h0, ⟨Int.le_refl _, by show (0 : Int) < ((fnAt p 0).body.length : Int); omega⟩, ?_, fun v hv' => ?_⟩
  · show ((fillI _ _ _).length : Int) = (fnAt p 0).locals
    rw [fillI_len _ _ _ (Nat.le_refl _) (by omega)]; omega
  · rcases mem_fillI hv' with h | h
    · exact hv v h
    · subst h; omega

theorem wf_callee {p : List FnD} {x : LiveD} (g : Good p) (h : WfLive p x) (hc : (opOf p x).code = 5) : WfLive p (calleeD p x (opOf p x)) := by
  have ho := (h.opOk g).call hc
  have hf := g.fns _ _ (fnAt_some ⟨ho.1, ho.2.1⟩)
  have h1 := hf.locals
  have h2 := hf.params
  have h3 := hf.body
  have h4 := ho.2.2.1
  refine ⟨⟨ho.1, ho.2.1⟩, ⟨Int.le_refl _, by show (0 : Int) < ((fnAt p (opOf p x).b).body.length : Int); omega⟩, ?_, fun v hv => ?_⟩
  · show ((fillI _ _ _).length : Int) = (fnAt p (opOf p x).b).locals
    rw [fillI_len _ _ _ (by simp) (by simp; omega)]; omega
  · rcases mem_fillI hv with hm | hm
    · obtain ⟨k, hk, rfl⟩ := List.mem_map.1 hm
      exact h.val (ho.2.2.2 k hk)
    · subst hm; omega

theorem dropLast_getLast {α : Type} {l : List α} {x : α} (h : l.getLast? = some x) : l = l.dropLast ++ [x] := by
  obtain ⟨ys, rfl⟩ := List.getLast?_eq_some_iff.1 h
  simp

theorem wf_stepTop {p : List FnD} {ini : List LiveD} {x : LiveD} (g : Good p) (hlen : ini.length + 1 ≤ 20) (hini : ∀ y ∈ ini, WfLive p y) (hx : WfLive p x) (hc : ∀ y ∈ ini, (opOf p y).code = 5) : Wf p (stepTop p ini x) := by
  have ho := hx.opOk g
  have hnx := hx.next
  have snoc : ∀ y, WfLive p y → Wf p ⟨0, 0, ini ++ [y]⟩ := fun y hy => by
    refine ⟨by simpa using hlen, fun _ => ⟨by simp, rfl⟩, fun z hz => ?_, fun z hz => hc z (by simpa using hz)⟩
    rcases List.mem_append.1 hz with h | h
    · exact hini z h
    · rw [List.mem_singleton.1 h]; exact hy
  unfold stepTop
  split
  · next h5 =>
    split
    · refine ⟨by simpa using hlen, fun h => by simp at h, fun z hz => ?_, fun z hz => hc z (by simpa using hz)⟩
      rcases List.mem_append.1 hz with h | h
      · exact hini z h
      · rw [List.mem_singleton.1 h]; exact hx
    · refine ⟨by simp; omega, fun _ => ⟨by simp, rfl⟩, fun z hz => ?_, fun z hz => ?_⟩
      · rcases List.mem_append.1 hz with h | h
        · rcases List.mem_append.1 h with h | h
          · exact hini z h
          · rw [List.mem_singleton.1 h]; exact hx
        · rw [List.mem_singleton.1 h]; exact wf_callee g hx h5
      · have hz' : z ∈ ini ++ [x] := by
          have hz2 : z ∈ ((ini ++ [x]) ++ [calleeD p x (opOf p x)]).dropLast := hz
          rw [List.dropLast_concat] at hz2
          exact hz2
        rcases List.mem_append.1 hz' with h | h
        · exact hc z h
        · rw [List.mem_singleton.1 h]; exact h5
  · next h5 =>
    split
    · split
      · exact ⟨by simp, fun h => by simp at h, fun z hz => by simp at hz, fun z hz => by simp at hz⟩
      · next c hlast =>
        have hci : c ∈ ini := List.mem_of_getLast? hlast
        have hwc := hini c hci
        have hc5 := hc c hci
        have hoc := hwc.opOk g
        have hlt := hoc.last (by omega)
        have hcn := hwc.next
        have hd : ∀ z ∈ ini.dropLast, z ∈ ini := fun z hz => List.dropLast_subset _ hz
        refine ⟨?_, fun _ => ⟨by simp, rfl⟩, fun z hz => ?_, fun z hz => ?_⟩
        · simp; omega
        · rcases List.mem_append.1 hz with h | h
          · exact hini z (hd z h)
          · rw [List.mem_singleton.1 h]
            exact hwc.setL (by omega) (hx.val ho.a)
        · have hz2 : z ∈ (ini.dropLast ++ [setL c (opOf p c).a (locOf x (opOf p x).a) (c.next + 1)]).dropLast := hz
          rw [List.dropLast_concat] at hz2
          exact hc z (hd z hz2)
    · next h6 =>
      have hlt := ho.last h6
      split
      · next h4 =>
        apply snoc
        refine ⟨hx.fn, ?_, hx.locals, hx.vals⟩
        have hj := ho.jump h4
        show 0 ≤ (if locOf x (opOf p x).a = 0 then x.next + 1 else (opOf p x).b) ∧ (if locOf x (opOf p x).a = 0 then x.next + 1 else (opOf p x).b) < ((fnOf p x).body.length : Int)
        split <;> omega
      · split
        · next h0 => exact snoc _ (hx.setL (by omega) (ho.set h0))
        · split
          · refine ⟨by simpa using hlen, fun h => by simp at h, fun z hz => ?_, fun z hz => hc z (by simpa using hz)⟩
            rcases List.mem_append.1 hz with h | h
            · exact hini z h
            · rw [List.mem_singleton.1 h]; exact hx
          · next h4 h0 h3 =>
            have hcode := ho.code
            have hth := ho.three (by omega)
            exact snoc _ (hx.setL (by omega) (cnt_range (hx.val hth.1) (hx.val hth.2) (fun h hz => h3 ⟨h, hz⟩)))

theorem wf_next {p : List FnD} {s : StandD} (g : Good p) (h : Wf p s) : Wf p (nextD p s) := by
  unfold nextD
  split
  · exact h
  · split
    · exact h
    · next x hl =>
      have e := dropLast_getLast hl
      have hlen := h.len
      have hmem : ∀ z ∈ s.live.dropLast, z ∈ s.live := fun z hz => List.dropLast_subset _ hz
      refine wf_stepTop g ?_ (fun y hy => h.live y (hmem y hy)) (h.live x (List.mem_of_getLast? hl)) h.calls
      have : s.live.length = s.live.dropLast.length + 1 := by rw [e]; simp
      omega
theorem wf_run {p : List FnD} {s : StandD} (g : Good p) (h : Wf p s) : ∀ n, Wf p (runD p s n)
  | 0 => h
  | n + 1 => wf_next g (wf_run g h n)
end Go.Proofs.YtffnfjkjlmlonaaGreatDoor
namespace Go.Proofs.YtffnfjkjlmlonaaGreatDoor
open Go.RowKit

structure PlD where
  fn : Int
  op : Int
  inst : Int
structure LyD where
  room : Int
  places : List PlD
  tree : List (Int × Int)
structure CodeD where
  first : Int
  places : List PlD
  tree : List (Int × Int)

/-- Is an op a Call that is inlined, within these functions? -/
def inlB (p : List FnD) (bud : Int) (ar : List Int) (o : OpD) : Bool := o.code == 5 && (!(ar.contains o.b) && decide (((fnAt p o.b).body.length : Int) ≤ bud))

def layB (rec : Int → List Int → LyD → LyD) (p : List FnD) (bud fn : Int) (ar : List Int) (k : Int) : List OpD → Nat → LyD → LyD
  | [], _, s => s
  | o :: r, i, s =>
    if s.room - 1 < 0 then ⟨s.room - 1, s.places, s.tree⟩ else
    if inlB p bud ar o = true then layB rec p bud fn ar k r (i + 1) (rec o.b ar ⟨s.room - 1, s.places ++ [⟨fn, i, k⟩], s.tree ++ [(o.b, (s.places.length : Int))]⟩)
    else layB rec p bud fn ar k r (i + 1) ⟨s.room - 1, s.places ++ [⟨fn, i, k⟩], s.tree⟩
/-- An instance of a function, laid behind what is laid. -/
def layI (p : List FnD) (bud : Int) : Nat → Int → List Int → LyD → LyD
  | 0, _, _, s => s
  | f + 1, fn, ar, s => layB (layI p bud f) p bud fn (fn :: ar) s.tree.length (fnAt p fn).body 0 s

def layAll (p : List FnD) (bud : Int) : Nat → Nat → Int → List CodeD → Option (List CodeD)
  | 0, _, _, l => some l
  | n + 1, fn, room, l => if (layI p bud 12 fn [] ⟨room, [], []⟩).room < 0 then none else layAll p bud n (fn + 1) (layI p bud 12 fn [] ⟨room, [], []⟩).room (l ++ [⟨1000 - room, (layI p bud 12 fn [] ⟨room, [], []⟩).places, (layI p bud 12 fn [] ⟨room, [], []⟩).tree⟩])
def codesD (p : List FnD) (bud : Int) : Option (List CodeD) := layAll p bud p.length 0 1000 []
/-- What is wrong with a program and a budget. -/
def layE (p : List FnD) (bud : Int) : Int := if (chk p).1 ≠ 0 then (chk p).1 else if 0 ≤ bud ∧ bud ≤ 30 then (if (codesD p bud).isSome = true then 0 else 11) else 1

/-- How many functions are not among these. -/
def freeN (ar : List Int) : Nat → Nat
  | 0 => 0
  | n + 1 => freeN ar n + if (n : Int) ∈ ar then 0 else 1
theorem freeN_ge {ar : List Int} {x : Int} : ∀ n : Nat, (n : Int) ≤ x → freeN (x :: ar) n = freeN ar n
  | 0, _ => rfl
  | n + 1, h => by
    have ih := freeN_ge (ar := ar) (x := x) n (by omega)
    have hne : (n : Int) ≠ x := by omega
    simp only [freeN, ih, List.mem_cons, hne, false_or]
theorem freeN_cons {ar : List Int} {x : Int} (hx : x ∉ ar) (h0 : 0 ≤ x) : ∀ n : Nat, x < n → freeN (x :: ar) n + 1 = freeN ar n
  | 0, h => by omega
  | n + 1, h => by
    by_cases he : (n : Int) = x
    · have ih := freeN_ge (ar := ar) (x := x) n (by omega)
      have hm : (n : Int) ∈ x :: ar := by rw [he]; simp
      have hm' : ¬ (n : Int) ∈ ar := by rw [he]; exact hx
      simp only [freeN, ih, if_pos hm, if_neg hm']
    · have ih := freeN_cons hx h0 n (by omega)
      simp only [freeN, List.mem_cons, he, false_or]
      omega
theorem freeN_le (ar : List Int) : ∀ n, freeN ar n ≤ n
  | 0 => Nat.le_refl _
  | n + 1 => by have := freeN_le ar n; simp only [freeN]; split <;> omega

theorem layI_zero {p : List FnD} {bud : Int} {f : Nat} {fn : Int} {ar : List Int} {s : LyD} : layI p bud (f + 1) fn ar s = layB (layI p bud f) p bud fn (fn :: ar) s.tree.length (fnAt p fn).body 0 s := rfl
end Go.Proofs.YtffnfjkjlmlonaaGreatDoor
