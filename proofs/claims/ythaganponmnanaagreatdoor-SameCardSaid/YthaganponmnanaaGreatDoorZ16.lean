/- A run of a program as plain data: one step, what holds behind each step, and that a step keeps it; nothing is claimed of the program here. The code of functions, with Calls inlined, as plain data (laid as the developers lay it); nothing is claimed of the program here. How many places a code has: the developers' way of counting and the reference's come to the same; nothing is claimed of the program here. -/
import Derived.Test.YthaganponmnanaaGreatDoorZ15
namespace Go.Proofs.YthaganponmnanaaGreatDoor
open Go.RowKit

def noFn : FnD := ⟨⟨#[]⟩, ⟨#[]⟩, 0, 0, []⟩
def noOp : OpD := ⟨0, 0, 0, 0, 0, []⟩
def fnAt (p : List FnD) (n : Int) : FnD := (p[n.toNat]?).getD noFn
def fnOf (p : List FnD) (x : LiveD) : FnD := fnAt p x.fn
def opOf (p : List FnD) (x : LiveD) : OpD := ((fnOf p x).body[x.next.toNat]?).getD noOp
def locOf (x : LiveD) (k : Int) : Int := (x.locals[k.toNat]?).getD 0
def setL (x : LiveD) (k v next : Int) : LiveD := ⟨x.fn, next, x.locals.set k.toNat v⟩
def calleeD (p : List FnD) (x : LiveD) (o : OpD) : LiveD := ⟨o.b, 0, fillI (o.args.map (locOf x)) (fnAt p o.b).locals.toNat o.args.length⟩

/-- The next op of the innermost frame x, behind the others. -/
def stepTop (p : List FnD) (ini : List LiveD) (x : LiveD) : StandD :=
  if (opOf p x).code = 5 then
    if ini.length + 1 = 20 then ⟨3, 0, ini ++ [x]⟩ else ⟨0, 0, ini ++ [x] ++ [calleeD p x (opOf p x)]⟩
  else if (opOf p x).code = 6 then
    match ini.getLast? with
    | none => ⟨1, locOf x (opOf p x).a, []⟩
    | some c => ⟨0, 0, ini.dropLast ++ [setL c (opOf p c).a (locOf x (opOf p x).a) (c.next + 1)]⟩
  else if (opOf p x).code = 4 then ⟨0, 0, ini ++ [⟨x.fn, if locOf x (opOf p x).a = 0 then x.next + 1 else (opOf p x).b, x.locals⟩]⟩
  else if (opOf p x).code = 0 then ⟨0, 0, ini ++ [setL x (opOf p x).a (opOf p x).b (x.next + 1)]⟩
  else if (opOf p x).code = 3 ∧ locOf x (opOf p x).c = 0 then ⟨2, 0, ini ++ [x]⟩
  else ⟨0, 0, ini ++ [setL x (opOf p x).a (cnt (opOf p x).code (locOf x (opOf p x).b) (locOf x (opOf p x).c)) (x.next + 1)]⟩

def nextD (p : List FnD) (s : StandD) : StandD :=
  if s.status ≠ 0 then s else match s.live.getLast? with
    | none => s
    | some x => stepTop p s.live.dropLast x
def runD (p : List FnD) (s : StandD) : Nat → StandD
  | 0 => s
  | n + 1 => nextD p (runD p s n)
def begunD (p : List FnD) (args : List Int) : StandD := ⟨0, 0, [⟨0, 0, fillI args (fnAt p 0).locals.toNat args.length⟩]⟩
def toldD (p : List FnD) (s : StandD) : List FrameD := s.live.reverse.map fun x => ⟨(fnOf p x).name, (fnOf p x).file, (opOf p x).line⟩

/-- What Check asks of an op, said one by one. -/
structure OpOk (p : List FnD) (x : FnD) (s : Nat) (o : OpD) : Prop where
  line : 1 ≤ o.line ∧ o.line ≤ 9999
  a : 0 ≤ o.a ∧ o.a < x.locals
  code : 0 ≤ o.code ∧ o.code ≤ 6
  last : o.code ≠ 6 → s + 1 < x.body.length
  set : o.code = 0 → 0 ≤ o.b ∧ o.b < 1000
  three : o.code = 1 ∨ o.code = 2 ∨ o.code = 3 → (0 ≤ o.b ∧ o.b < x.locals) ∧ (0 ≤ o.c ∧ o.c < x.locals)
  jump : o.code = 4 → 0 ≤ o.b ∧ o.b < x.body.length
  call : o.code = 5 → 0 ≤ o.b ∧ o.b < p.length ∧ (fnAt p o.b).params = o.args.length ∧ ∀ n ∈ o.args, 0 ≤ n ∧ n < x.locals
structure FnOk (p : List FnD) (x : FnD) : Prop where
  locals : 1 ≤ x.locals ∧ x.locals ≤ 8
  params : 0 ≤ x.params ∧ x.params ≤ x.locals
  body : 1 ≤ x.body.length ∧ x.body.length ≤ 30
  ops : ∀ (s : Nat) (o : OpD), x.body[s]? = some o → OpOk p x s o
structure Good (p : List FnD) : Prop where
  len : 1 ≤ p.length ∧ p.length ≤ 12
  fns : ∀ (f : Nat) (x : FnD), p[f]? = some x → FnOk p x

theorem andB {a b : Bool} : (a && b) = true ↔ a = true ∧ b = true := by simp
theorem withB_true {n e : Int} (h : withB n e = true) : 0 ≤ n ∧ n < e := by simpa [withB] using h

theorem opOk_of {p : List FnD} {x : FnD} {s : Nat} {o : OpD} (hs : s < x.body.length) (h : opB p x s o = true) : OpOk p x s o := by
  unfold opB at h
  split at h
  · cases h
  · next h1 =>
    have h2 : (1 ≤ o.line ∧ o.line ≤ 9999) ∧ withB o.a x.locals = true := by
      simp only [Bool.or_eq_true, Bool.not_eq_true', not_or, decide_eq_false_iff_not, Bool.not_eq_false] at h1
      exact ⟨Decidable.not_not.1 h1.1, h1.2⟩
    obtain ⟨hl, ha⟩ := h2
    have ha := withB_true ha
    split at h
    · next h6 => exact ⟨hl, ha, by omega, fun h => absurd h6 h, by omega, by omega, by omega, by omega⟩
    · next h6 =>
      split at h
      · cases h
      · next hlast =>
        have hlt : s + 1 < x.body.length := by omega
        split at h
        · next k0 => exact ⟨hl, ha, by omega, fun _ => hlt, fun _ => withB_true h, by omega, by omega, by omega⟩
        · split at h
          · next k1 =>
            have h := andB.1 h
            exact ⟨hl, ha, by omega, fun _ => hlt, by omega, fun _ => ⟨withB_true h.1, withB_true h.2⟩, by omega, by omega⟩
          · split at h
            · next k4 => exact ⟨hl, ha, by omega, fun _ => hlt, by omega, by omega, fun _ => withB_true h, by omega⟩
            · split at h
              · next k5 =>
                refine ⟨hl, ha, by omega, fun _ => hlt, by omega, by omega, by omega, fun _ => ?_⟩
                unfold callB at h
                obtain ⟨hb, h2⟩ := andB.1 h
                obtain ⟨hp, hargs⟩ := andB.1 h2
                have hb := withB_true hb
                refine ⟨hb.1, hb.2, ?_, fun n hn => withB_true (List.all_eq_true.1 hargs n hn)⟩
                obtain ⟨y, hy⟩ : ∃ y, p[o.b.toNat]? = some y := ⟨_, List.getElem?_eq_getElem (by omega)⟩
                rw [hy] at hp
                simp only [fnAt, hy, Option.getD_some]
                simpa using hp
              · cases h

theorem chkB_none {p : List FnD} {x : FnD} {f : Nat} : ∀ {l : List OpD} {s : Nat}, chkB p x f l s = none → ∀ (i : Nat) (o : OpD), l[i]? = some o → opB p x (s + i) o = true
  | [], _, _, i, o, h => by simp at h
  | o' :: r, s, hn, i, o, h => by
    unfold chkB at hn
    split at hn
    · next h1 =>
      match i, h with
      | 0, h => simp at h; subst h; exact h1
      | i + 1, h =>
        have := chkB_none hn i o (by simpa using h)
        rw [show s + (i + 1) = s + 1 + i by omega]
        exact this
    · cases hn

theorem chkF_ok {p : List FnD} : ∀ {l : List FnD} {f : Nat}, chkF p l f = (0, 0, 0) → ∀ (i : Nat) (x : FnD), l[i]? = some x → headB p (f + i) x = true ∧ chkB p x (f + i) x.body 0 = none
  | [], _, _, i, x, h => by simp at h
  | x' :: r, f, hn, i, x, h => by
    unfold chkF at hn
    split at hn
    · next h1 =>
      split at hn
      · next e he =>
        exfalso
        have : ∀ (l : List OpD) (s : Nat) e, chkB p x' f l s = some e → e.1 = 7 := by
          intro l
          induction l with
          | nil => intro s e h; simp [chkB] at h
          | cons o r ih =>
            intro s e h
            unfold chkB at h
            split at h
            · exact ih _ _ h
            · cases h; rfl
        have := this _ _ _ he
        rw [hn] at this
        simp at this
      · next he =>
        match i, h with
        | 0, h => simp at h; subst h; exact ⟨h1, he⟩
        | i + 1, h =>
          have := chkF_ok hn i x (by simpa using h)
          rw [show f + (i + 1) = f + 1 + i by omega]
          exact this
    · simp at hn

theorem good_of {p : List FnD} (h : chk p = (0, 0, 0)) : Good p := by
  unfold chk at h
  split at h
  · simp at h
  · refine ⟨by omega, fun f x hx => ?_⟩
    obtain ⟨hh, hb⟩ := chkF_ok h f x hx
    unfold headB at hh
    simp only [Bool.and_eq_true, decide_eq_true_eq] at hh
    obtain ⟨_, ⟨h1, h2, h3, h4⟩, _, h5, h6⟩ := hh
    refine ⟨⟨h1, h2⟩, ⟨h3, h4⟩, ⟨h5, h6⟩, fun s o ho => ?_⟩
    have := chkB_none hb s o ho
    rw [Nat.zero_add] at this
    exact opOk_of (List.getElem?_eq_some_iff.1 ho).1 this

/-- A frame that a run may have. -/
structure WfLive (p : List FnD) (x : LiveD) : Prop where
  fn : 0 ≤ x.fn ∧ x.fn < p.length
  next : 0 ≤ x.next ∧ x.next < (fnOf p x).body.length
  locals : (x.locals.length : Int) = (fnOf p x).locals
  vals : ∀ v ∈ x.locals, 0 ≤ v ∧ v < 1000
structure Wf (p : List FnD) (s : StandD) : Prop where
  len : s.live.length ≤ 20
  runs : s.status = 0 → s.live ≠ [] ∧ s.value = 0
  live : ∀ x ∈ s.live, WfLive p x
  calls : ∀ x ∈ s.live.dropLast, (opOf p x).code = 5

theorem fnAt_some {p : List FnD} {n : Int} (h : 0 ≤ n ∧ n < p.length) : p[n.toNat]? = some (fnAt p n) := by
  obtain ⟨y, hy⟩ : ∃ y, p[n.toNat]? = some y := ⟨_, List.getElem?_eq_getElem (by omega)⟩
  rw [fnAt, hy]; rfl
theorem opOf_some {p : List FnD} {x : LiveD} (h : WfLive p x) : (fnOf p x).body[x.next.toNat]? = some (opOf p x) := by
  have := h.next
  obtain ⟨y, hy⟩ : ∃ y, (fnOf p x).body[x.next.toNat]? = some y := ⟨_, List.getElem?_eq_getElem (by omega)⟩
  rw [opOf, hy]; rfl
theorem fnOf_some {p : List FnD} {x : LiveD} (h : WfLive p x) : p[x.fn.toNat]? = some (fnOf p x) := fnAt_some h.fn
theorem WfLive.fnOk {p : List FnD} {x : LiveD} (g : Good p) (h : WfLive p x) : FnOk p (fnOf p x) := g.fns _ _ (fnOf_some h)
theorem WfLive.opOk {p : List FnD} {x : LiveD} (g : Good p) (h : WfLive p x) : OpOk p (fnOf p x) x.next.toNat (opOf p x) := (h.fnOk g).ops _ _ (opOf_some h)
theorem WfLive.loc {p : List FnD} {x : LiveD} (h : WfLive p x) {k : Int} (hk : 0 ≤ k ∧ k < (fnOf p x).locals) : x.locals[k.toNat]? = some (locOf x k) := by
  have := h.locals
  obtain ⟨y, hy⟩ : ∃ y, x.locals[k.toNat]? = some y := ⟨_, List.getElem?_eq_getElem (by omega)⟩
  rw [locOf, hy]; rfl
theorem WfLive.val {p : List FnD} {x : LiveD} (h : WfLive p x) {k : Int} (hk : 0 ≤ k ∧ k < (fnOf p x).locals) : 0 ≤ locOf x k ∧ locOf x k < 1000 :=
  h.vals _ (List.mem_of_getElem? (h.loc hk))

theorem WfLive.setL {p : List FnD} {x : LiveD} (h : WfLive p x) {k v next : Int} (hn : 0 ≤ next ∧ next < (fnOf p x).body.length) (hv : 0 ≤ v ∧ v < 1000) : WfLive p (setL x k v next) := by
  refine ⟨h.fn, hn, by show ((x.locals.set _ _).length : Int) = _; rw [List.length_set]; exact h.locals, fun u hu => ?_⟩
  rcases List.mem_or_eq_of_mem_set hu with h1 | h1
  · exact h.vals u h1
  · subst h1; exact hv

theorem cnt_range {code x y : Int} (hx : 0 ≤ x ∧ x < 1000) (hy : 0 ≤ y ∧ y < 1000) (hd : code = 3 → y ≠ 0) : 0 ≤ cnt code x y ∧ cnt code x y < 1000 := by
  unfold cnt
  split
  · next h =>
    have := hd h
    exact ⟨Int.ediv_nonneg hx.1 hy.1, by have := Int.ediv_le_self y hx.1; omega⟩
  · split <;> omega

theorem mem_fillI {args : List Int} {n j : Nat} {v : Int} (h : v ∈ fillI args n j) : v ∈ args ∨ v = 0 := by
  unfold fillI at h
  rcases List.mem_append.1 h with h | h
  · exact .inl (List.mem_of_mem_take h)
  · exact .inr (List.mem_replicate.1 h).2

theorem wf_begun {p : List FnD} {args : List Int} (g : Good p) (hl : (args.length : Int) = (fnAt p 0).params) (hv : ∀ v ∈ args, 0 ≤ v ∧ v < 1000) : Wf p (begunD p args) := by
  have hlen := g.len
  have h0 : (0 : Int) ≤ 0 ∧ (0 : Int) < p.length := by omega
  have hf := g.fns _ _ (fnAt_some h0)
  have h1 := hf.locals
  have h2 := hf.params
  have h3 := hf.body
  refine ⟨by simp [begunD], fun _ => ⟨by simp [begunD], rfl⟩, fun x hx => ?_, fun x hx => by simp [begunD] at hx⟩
  simp [begunD] at hx
  subst hx
  refine ⟨h0, ⟨Int.le_refl _, by show (0 : Int) < ((fnAt p 0).body.length : Int); omega⟩, ?_, fun v hv' => ?_⟩
  · show ((fillI _ _ _).length : Int) = (fnAt p 0).locals
    rw [fillI_len _ _ _ (Nat.le_refl _) (by omega)]; omega
  · rcases mem_fillI hv' with h | h
    · exact hv v h
    · subst h; omega

theorem wf_callee {p : List FnD} {x : LiveD} (g : Good p) (h : WfLive p x) (hc : (opOf p x).code = 5) : WfLive p (calleeD p x (opOf p x)) := by
  have ho := (h.opOk g).call hc
  have hf := g.fns _ _ (fnAt_some ⟨ho.1, ho.2.1⟩)
  have h1 := hf.locals
  have h2 := hf.params
  have h3 := hf.body
  have h4 := ho.2.2.1
  refine ⟨⟨ho.1, ho.2.1⟩, ⟨Int.le_refl _, by show (0 : Int) < ((fnAt p (opOf p x).b).body.length : Int); omega⟩, ?_, fun v hv => ?_⟩
  · show ((fillI _ _ _).length : Int) = (fnAt p (opOf p x).b).locals
    rw [fillI_len _ _ _ (by simp) (by simp; omega)]; omega
  · rcases mem_fillI hv with hm | hm
    · obtain ⟨k, hk, rfl⟩ := List.mem_map.1 hm
      exact h.val (ho.2.2.2 k hk)
    · subst hm; omega

theorem dropLast_getLast {α : Type} {l : List α} {x : α} (h : l.getLast? = some x) : l = l.dropLast ++ [x] := by
  obtain ⟨ys, rfl⟩ := List.getLast?_eq_some_iff.1 h
  simp

theorem wf_stepTop {p : List FnD} {ini : List LiveD} {x : LiveD} (g : Good p) (hlen : ini.length + 1 ≤ 20) (hini : ∀ y ∈ ini, WfLive p y) (hx : WfLive p x) (hc : ∀ y ∈ ini, (opOf p y).code = 5) : Wf p (stepTop p ini x) := by
  have ho := hx.opOk g
  have hnx := hx.next
  have snoc : ∀ y, WfLive p y → Wf p ⟨0, 0, ini ++ [y]⟩ := fun y hy => by
    refine ⟨by simpa using hlen, fun _ => ⟨by simp, rfl⟩, fun z hz => ?_, fun z hz => hc z (by simpa using hz)⟩
    rcases List.mem_append.1 hz with h | h
    · exact hini z h
    · rw [List.mem_singleton.1 h]; exact hy
  unfold stepTop
  split
  · next h5 =>
    split
    · refine ⟨by simpa using hlen, fun h => by simp at h, fun z hz => ?_, fun z hz => hc z (by simpa using hz)⟩
      rcases List.mem_append.1 hz with h | h
      · exact hini z h
      · rw [List.mem_singleton.1 h]; exact hx
    · refine ⟨by simp; omega, fun _ => ⟨by simp, rfl⟩, fun z hz => ?_, fun z hz => ?_⟩
      · rcases List.mem_append.1 hz with h | h
        · rcases List.mem_append.1 h with h | h
          · exact hini z h
          · rw [List.mem_singleton.1 h]; exact hx
        · rw [List.mem_singleton.1 h]; exact wf_callee g hx h5
      · have hz' : z ∈ ini ++ [x] := by
          have hz2 : z ∈ ((ini ++ [x]) ++ [calleeD p x (opOf p x)]).dropLast := hz
          rw [List.dropLast_concat] at hz2
          exact hz2
        rcases List.mem_append.1 hz' with h | h
        · exact hc z h
        · rw [List.mem_singleton.1 h]; exact h5
  · next h5 =>
    split
    · split
      · exact ⟨by simp, fun h => by simp at h, fun z hz => by simp at hz, fun z hz => by simp at hz⟩
      · next c hlast =>
        have hci : c ∈ ini := List.mem_of_getLast? hlast
        have hwc := hini c hci
        have hc5 := hc c hci
        have hoc := hwc.opOk g
        have hlt := hoc.last (by omega)
        have hcn := hwc.next
        have hd : ∀ z ∈ ini.dropLast, z ∈ ini := fun z hz => List.dropLast_subset _ hz
        refine ⟨?_, fun _ => ⟨by simp, rfl⟩, fun z hz => ?_, fun z hz => ?_⟩
        · simp; omega
        · rcases List.mem_append.1 hz with h | h
          · exact hini z (hd z h)
          · rw [List.mem_singleton.1 h]
            exact hwc.setL (by omega) (hx.val ho.a)
        · have hz2 : z ∈ (ini.dropLast ++ [setL c (opOf p c).a (locOf x (opOf p x).a) (c.next + 1)]).dropLast := hz
          rw [List.dropLast_concat] at hz2
          exact hc z (hd z hz2)
    · next h6 =>
      have hlt := ho.last h6
      split
      · next h4 =>
        apply snoc
        refine ⟨hx.fn, ?_, hx.locals, hx.vals⟩
        have hj := ho.jump h4
        show 0 ≤ (if locOf x (opOf p x).a = 0 then x.next + 1 else (opOf p x).b) ∧ (if locOf x (opOf p x).a = 0 then x.next + 1 else (opOf p x).b) < ((fnOf p x).body.length : Int)
        split <;> omega
      · split
        · next h0 => exact snoc _ (hx.setL (by omega) (ho.set h0))
        · split
          · refine ⟨by simpa using hlen, fun h => by simp at h, fun z hz => ?_, fun z hz => hc z (by simpa using hz)⟩
            rcases List.mem_append.1 hz with h | h
            · exact hini z h
            · rw [List.mem_singleton.1 h]; exact hx
          · next h4 h0 h3 =>
            have hcode := ho.code
            have hth := ho.three (by omega)
            exact snoc _ (hx.setL (by omega) (cnt_range (hx.val hth.1) (hx.val hth.2) (fun h hz => h3 ⟨h, hz⟩)))

theorem wf_next {p : List FnD} {s : StandD} (g : Good p) (h : Wf p s) : Wf p (nextD p s) := by
  unfold nextD
  split
  · exact h
  · split
    · exact h
    · next x hl =>
      have e := dropLast_getLast hl
      have hlen := h.len
      have hmem : ∀ z ∈ s.live.dropLast, z ∈ s.live := fun z hz => List.dropLast_subset _ hz
      refine wf_stepTop g ?_ (fun y hy => h.live y (hmem y hy)) (h.live x (List.mem_of_getLast? hl)) h.calls
      have : s.live.length = s.live.dropLast.length + 1 := by rw [e]; simp
      omega
theorem wf_run {p : List FnD} {s : StandD} (g : Good p) (h : Wf p s) : ∀ n, Wf p (runD p s n)
  | 0 => h
  | n + 1 => wf_next g (wf_run g h n)
end Go.Proofs.YthaganponmnanaaGreatDoor
namespace Go.Proofs.YthaganponmnanaaGreatDoor
open Go.RowKit

structure PlD where
  fn : Int
  op : Int
  inst : Int
structure LyD where
  room : Int
  places : List PlD
  tree : List (Int × Int)
structure CodeD where
  first : Int
  places : List PlD
  tree : List (Int × Int)

/-- Is an op a Call that is inlined, within these functions? -/
def inlB (p : List FnD) (bud : Int) (ar : List Int) (o : OpD) : Bool := o.code == 5 && (!(ar.contains o.b) && decide (((fnAt p o.b).body.length : Int) ≤ bud))

def layB (rec : Int → List Int → LyD → LyD) (p : List FnD) (bud fn : Int) (ar : List Int) (k : Int) : List OpD → Nat → LyD → LyD
  | [], _, s => s
  | o :: r, i, s =>
    if s.room - 1 < 0 then ⟨s.room - 1, s.places, s.tree⟩ else
    if inlB p bud ar o = true then layB rec p bud fn ar k r (i + 1) (rec o.b ar ⟨s.room - 1, s.places ++ [⟨fn, i, k⟩], s.tree ++ [(o.b, (s.places.length : Int))]⟩)
    else layB rec p bud fn ar k r (i + 1) ⟨s.room - 1, s.places ++ [⟨fn, i, k⟩], s.tree⟩
/-- An instance of a function, laid behind what is laid. -/
def layI (p : List FnD) (bud : Int) : Nat → Int → List Int → LyD → LyD
  | 0, _, _, s => s
  | f + 1, fn, ar, s => layB (layI p bud f) p bud fn (fn :: ar) s.tree.length (fnAt p fn).body 0 s

def layAll (p : List FnD) (bud : Int) : Nat → Nat → Int → List CodeD → Option (List CodeD)
  | 0, _, _, l => some l
  | n + 1, fn, room, l => if (layI p bud 12 fn [] ⟨room, [], []⟩).room < 0 then none else layAll p bud n (fn + 1) (layI p bud 12 fn [] ⟨room, [], []⟩).room (l ++ [⟨1000 - room, (layI p bud 12 fn [] ⟨room, [], []⟩).places, (layI p bud 12 fn [] ⟨room, [], []⟩).tree⟩])
def codesD (p : List FnD) (bud : Int) : Option (List CodeD) := layAll p bud p.length 0 1000 []
/-- What is wrong with a program and a budget. -/
def layE (p : List FnD) (bud : Int) : Int := if (chk p).1 ≠ 0 then (chk p).1 else if 0 ≤ bud ∧ bud ≤ 30 then (if (codesD p bud).isSome = true then 0 else 11) else 1

/-- How many functions are not among these. -/
def freeN (ar : List Int) : Nat → Nat
  | 0 => 0
  | n + 1 => freeN ar n + if (n : Int) ∈ ar then 0 else 1
theorem freeN_ge {ar : List Int} {x : Int} : ∀ n : Nat, (n : Int) ≤ x → freeN (x :: ar) n = freeN ar n
  | 0, _ => rfl
  | n + 1, h => by
    have ih := freeN_ge (ar := ar) (x := x) n (by omega)
    have hne : (n : Int) ≠ x := by omega
    simp only [freeN, ih, List.mem_cons, hne, false_or]
theorem freeN_cons {ar : List Int} {x : Int} (hx : x ∉ ar) (h0 : 0 ≤ x) : ∀ n : Nat, x < n → freeN (x :: ar) n + 1 = freeN ar n
  | 0, h => by omega
  | n + 1, h => by
    by_cases he : (n : Int) = x
    · have ih := freeN_ge (ar := ar) (x := x) n (by omega)
      have hm : (n : Int) ∈ x :: ar := by rw [he]; simp
      have hm' : ¬ (n : Int) ∈ ar := by rw [he]; exact hx
      simp only [freeN, ih, if_pos hm, if_neg hm']
    · have ih := freeN_cons hx h0 n (by omega)
      simp only [freeN, List.mem_cons, he, false_or]
      omega
theorem freeN_le (ar : List Int) : ∀ n, freeN ar n ≤ n
  | 0 => Nat.le_refl _
  | n + 1 => by have := freeN_le ar n; simp only [freeN]; split <;> omega

theorem layI_zero {p : List FnD} {bud : Int} {f : Nat} {fn : Int} {ar : List Int} {s : LyD} : layI p bud (f + 1) fn ar s = layB (layI p bud f) p bud fn (fn :: ar) s.tree.length (fnAt p fn).body 0 s := rfl
end Go.Proofs.YthaganponmnanaaGreatDoor
namespace Go.Proofs.YthaganponmnanaaGreatDoor
open Go.RowKit

/-- So many places, however many they are. -/
def sizB (rec : Int → List Int → Nat) (p : List FnD) (bud : Int) (ar : List Int) : List OpD → Nat
  | [] => 0
  | o :: r => 1 + (if inlB p bud ar o = true then rec o.b ar else 0) + sizB rec p bud ar r
def sizI (p : List FnD) (bud : Int) : Nat → Int → List Int → Nat
  | 0, _, _ => 0
  | f + 1, fn, ar => sizB (sizI p bud f) p bud (fn :: ar) (fnAt p fn).body

/-- The reference's count: how many there are, and whether there are too many. -/
def rlB (rec : Int → List Int → Nat × Bool → Nat × Bool) (p : List FnD) (bud : Int) (ar : List Int) : List OpD → Nat × Bool → Nat × Bool
  | [], s => s
  | o :: r, s => if s.1 = 1000 ∨ s.2 = true then (s.1, true) else if inlB p bud ar o = true then rlB rec p bud ar r (rec o.b ar (s.1 + 1, false)) else rlB rec p bud ar r (s.1 + 1, false)
def rlI (p : List FnD) (bud : Int) : Nat → Int → List Int → Nat × Bool → Nat × Bool
  | 0, _, _, s => s
  | f + 1, fn, ar, s => rlB (rlI p bud f) p bud (fn :: ar) (fnAt p fn).body s
def rlAll (p : List FnD) (bud : Int) : Nat → Nat → Nat → Bool
  | 0, _, _ => true
  | n + 1, fn, all => if (rlI p bud 12 fn [] (0, false)).2 = true ∨ 1000 < all + (rlI p bud 12 fn [] (0, false)).1 then false else rlAll p bud n (fn + 1) (all + (rlI p bud 12 fn [] (0, false)).1)

theorem layB_neg {rec : Int → List Int → LyD → LyD} {p : List FnD} {bud fn : Int} {ar : List Int} {k : Int} : ∀ (l : List OpD) (i : Nat) (s : LyD), s.room < 0 → (layB rec p bud fn ar k l i s).room < 0
  | [], _, _, h => h
  | o :: r, i, s, h => by
    unfold layB
    rw [if_pos (by omega)]
    show s.room - 1 < 0
    omega

def RoomOk (rec : Int → List Int → LyD → LyD) (siz : Int → List Int → Nat) : Prop := ∀ fn ar s, 0 ≤ s.room → ((siz fn ar : Int) ≤ s.room → (rec fn ar s).room = s.room - siz fn ar ∧ (rec fn ar s).places.length = s.places.length + siz fn ar) ∧ (s.room < siz fn ar → (rec fn ar s).room < 0)

theorem layB_room {rec : Int → List Int → LyD → LyD} {siz : Int → List Int → Nat} (hr : RoomOk rec siz) {p : List FnD} {bud fn : Int} {ar : List Int} {k : Int} : ∀ (l : List OpD) (i : Nat) (s : LyD), 0 ≤ s.room →
    ((sizB siz p bud ar l : Int) ≤ s.room → (layB rec p bud fn ar k l i s).room = s.room - sizB siz p bud ar l ∧ (layB rec p bud fn ar k l i s).places.length = s.places.length + sizB siz p bud ar l) ∧ (s.room < sizB siz p bud ar l → (layB rec p bud fn ar k l i s).room < 0)
  | [], _, s, h => by
    refine ⟨fun _ => ⟨?_, ?_⟩, fun h2 => ?_⟩
    · show s.room = s.room - ((0 : Nat) : Int); omega
    · show s.places.length = s.places.length + 0; omega
    · have : s.room < ((0 : Nat) : Int) := h2
      omega
  | o :: r, i, s, h => by
    unfold layB sizB
    by_cases h0 : s.room - 1 < 0
    · rw [if_pos h0]
      refine ⟨fun h2 => ?_, fun _ => h0⟩
      split at h2 <;> omega
    · rw [if_neg h0]
      by_cases hi : inlB p bud ar o = true
      · rw [if_pos hi, if_pos hi]
        obtain ⟨h1, h2⟩ := hr o.b ar ⟨s.room - 1, s.places ++ [⟨fn, i, k⟩], s.tree ++ [(o.b, (s.places.length : Int))]⟩ (by show 0 ≤ s.room - 1; omega)
        generalize rec o.b ar ⟨s.room - 1, s.places ++ [⟨fn, i, k⟩], s.tree ++ [(o.b, (s.places.length : Int))]⟩ = t at *
        dsimp only at h1 h2
        simp only [List.length_append, List.length_cons, List.length_nil] at h1
        by_cases hle : (siz o.b ar : Int) ≤ s.room - 1
        · obtain ⟨e1, e2⟩ := h1 hle
          obtain ⟨g1, g2⟩ := layB_room hr (p := p) (bud := bud) (fn := fn) (ar := ar) (k := k) r (i + 1) t (by omega)
          refine ⟨fun h3 => ?_, fun h3 => g2 (by omega)⟩
          obtain ⟨a1, a2⟩ := g1 (by omega)
          rw [a1, a2]
          constructor <;> omega
        · refine ⟨fun h3 => by omega, fun _ => layB_neg r (i + 1) t (h2 (by omega))⟩
      · rw [if_neg hi, if_neg hi]
        obtain ⟨g1, g2⟩ := layB_room hr (p := p) (bud := bud) (fn := fn) (ar := ar) (k := k) r (i + 1) ⟨s.room - 1, s.places ++ [⟨fn, i, k⟩], s.tree⟩ (by show 0 ≤ s.room - 1; omega)
        dsimp only at g1 g2
        simp only [List.length_append, List.length_cons, List.length_nil] at g1
        refine ⟨fun h3 => ?_, fun h3 => g2 (by omega)⟩
        obtain ⟨a1, a2⟩ := g1 (by omega)
        rw [a1, a2]
        constructor <;> omega

theorem layI_room (p : List FnD) (bud : Int) : ∀ f, RoomOk (layI p bud f) (sizI p bud f)
  | 0 => fun fn ar s h => ⟨fun _ => ⟨by show s.room = s.room - ((0 : Nat) : Int); omega, by show s.places.length = s.places.length + 0; omega⟩, fun h2 => by have : s.room < ((0 : Nat) : Int) := h2; omega⟩
  | f + 1 => fun fn ar s h => layB_room (layI_room p bud f) _ _ _ h

def CntOk (rec : Int → List Int → Nat × Bool → Nat × Bool) (siz : Int → List Int → Nat) : Prop := ∀ fn ar n, n ≤ 1000 → (n + siz fn ar ≤ 1000 → rec fn ar (n, false) = (n + siz fn ar, false)) ∧ (1000 < n + siz fn ar → (rec fn ar (n, false)).2 = true ∧ (rec fn ar (n, false)).1 ≤ 1000)

theorem rlB_true {rec : Int → List Int → Nat × Bool → Nat × Bool} {p : List FnD} {bud : Int} {ar : List Int} : ∀ (l : List OpD) (s : Nat × Bool), s.2 = true → s.1 ≤ 1000 → (rlB rec p bud ar l s).2 = true ∧ (rlB rec p bud ar l s).1 ≤ 1000
  | [], _, h, h1 => ⟨h, h1⟩
  | o :: r, s, h, h1 => by
    unfold rlB
    rw [if_pos (.inr h)]
    exact ⟨rfl, h1⟩

theorem rlB_cnt {rec : Int → List Int → Nat × Bool → Nat × Bool} {siz : Int → List Int → Nat} (hr : CntOk rec siz) {p : List FnD} {bud : Int} {ar : List Int} : ∀ (l : List OpD) (n : Nat), n ≤ 1000 →
    (n + sizB siz p bud ar l ≤ 1000 → rlB rec p bud ar l (n, false) = (n + sizB siz p bud ar l, false)) ∧ (1000 < n + sizB siz p bud ar l → (rlB rec p bud ar l (n, false)).2 = true ∧ (rlB rec p bud ar l (n, false)).1 ≤ 1000)
  | [], n, h => ⟨fun _ => rfl, fun h2 => by have : 1000 < n + 0 := h2; omega⟩
  | o :: r, n, h => by
    have es : sizB siz p bud ar (o :: r) = 1 + (if inlB p bud ar o = true then siz o.b ar else 0) + sizB siz p bud ar r := rfl
    rw [es]
    by_cases h0 : n = 1000
    · have e : rlB rec p bud ar (o :: r) (n, false) = (n, true) := by unfold rlB; exact if_pos (Or.inl h0)
      rw [e]
      exact ⟨fun h2 => by omega, fun _ => ⟨rfl, h⟩⟩
    · by_cases hi : inlB p bud ar o = true
      · have e : rlB rec p bud ar (o :: r) (n, false) = rlB rec p bud ar r (rec o.b ar (n + 1, false)) := by
          conv => lhs; unfold rlB
          rw [if_neg (by rintro (h1 | h1); exact h0 h1; cases h1), if_pos hi]
        rw [e, if_pos hi]
        obtain ⟨h1, h2⟩ := hr o.b ar (n + 1) (by omega)
        by_cases hle : n + 1 + siz o.b ar ≤ 1000
        · rw [h1 hle]
          obtain ⟨g1, g2⟩ := rlB_cnt hr (p := p) (bud := bud) (ar := ar) r (n + 1 + siz o.b ar) hle
          refine ⟨fun h3 => ?_, fun h3 => g2 (by omega)⟩
          rw [g1 (by omega)]
          congr 1
          omega
        · refine ⟨fun h3 => by omega, fun _ => rlB_true r _ (h2 (by omega)).1 (h2 (by omega)).2⟩
      · have e : rlB rec p bud ar (o :: r) (n, false) = rlB rec p bud ar r (n + 1, false) := by
          conv => lhs; unfold rlB
          rw [if_neg (by rintro (h1 | h1); exact h0 h1; cases h1), if_neg hi]
        rw [e, if_neg hi]
        obtain ⟨g1, g2⟩ := rlB_cnt hr (p := p) (bud := bud) (ar := ar) r (n + 1) (by omega)
        refine ⟨fun h3 => ?_, fun h3 => g2 (by omega)⟩
        rw [g1 (by omega)]
        congr 1
        omega

theorem rlI_cnt (p : List FnD) (bud : Int) : ∀ f, CntOk (rlI p bud f) (sizI p bud f)
  | 0 => fun fn ar n h => ⟨fun _ => rfl, fun h2 => by have : 1000 < n + 0 := h2; omega⟩
  | f + 1 => fun fn ar n h => rlB_cnt (rlI_cnt p bud f) _ _ h

theorem layAll_fits (p : List FnD) (bud : Int) : ∀ (n fn : Nat) (room : Int) (l : List CodeD), 0 ≤ room → room ≤ 1000 → (layAll p bud n fn room l).isSome = rlAll p bud n fn (1000 - room).toNat
  | 0, _, _, _, _, _ => rfl
  | n + 1, fn, room, l, h0, h1 => by
    unfold layAll rlAll
    obtain ⟨a1, a2⟩ := layI_room p bud 12 fn [] ⟨room, [], []⟩ h0
    obtain ⟨b1, b2⟩ := rlI_cnt p bud 12 fn [] 0 (by omega)
    dsimp only at a1 a2
    by_cases hle : (sizI p bud 12 fn [] : Int) ≤ room
    · obtain ⟨e1, -⟩ := a1 hle
      rw [e1, b1 (by omega), if_neg (by omega), if_neg (by simp; omega)]
      rw [layAll_fits p bud n (fn + 1) _ _ (by omega) (by omega)]
      congr 1
      simp
      omega
    · rw [if_pos (a2 (by omega))]
      by_cases hb : 1000 < 0 + sizI p bud 12 fn []
      · rw [if_pos (.inl (b2 hb).1)]; rfl
      · rw [b1 (by omega), if_pos (.inr (by simp; omega))]; rfl

theorem codesD_fits (p : List FnD) (bud : Int) : (codesD p bud).isSome = rlAll p bud p.length 0 0 := layAll_fits p bud p.length 0 1000 [] (by decide) (by decide)
end Go.Proofs.YthaganponmnanaaGreatDoor
