/- The frames of a run: each was called by the one before it; where no function calls back, all is inlined, and there is one pc; by no budget there are as many pcs as frames. Nothing is claimed of the program here. Programs of at most three functions, of at most eight ops, whose Calls are of later functions alone: by the greatest budget their code is not too much; their pcs. Nothing is claimed of the program here. -/
import Derived.Test.YtebjndcokkefhaaDoorZ44
import Derived.Test.YtebjndcokkefhaaDoorZ32
namespace Go.Proofs.YtebjndcokkefhaaDoor
open Go.RowKit

/-- The outermost frame is of function 0; each other was called by the one before it. -/
structure Chn (p : List FnD) (l : List LiveD) : Prop where
  head : ∀ x, l[0]? = some x → x.fn = 0
  call : ∀ (i : Nat) (x y : LiveD), l[i]? = some x → l[i + 1]? = some y → (opOf p x).code = 5 ∧ (opOf p x).b = y.fn

theorem Chn.init {p : List FnD} {l : List LiveD} {x : LiveD} (h : Chn p (l ++ [x])) : Chn p l where
  head := fun y hy => h.head y (getElem?_old hy _)
  call := fun i y z hy hz => h.call i y z (getElem?_old hy _) (getElem?_old hz _)
theorem Chn.swap {p : List FnD} {l : List LiveD} {x x' : LiveD} (h : Chn p (l ++ [x])) (hf : x'.fn = x.fn) : Chn p (l ++ [x']) where
  head := fun y hy => by
    rcases getElem?_snoc hy with h1 | ⟨h1, h2⟩
    · exact h.head y (getElem?_old h1 _)
    · rw [h2, hf]
      exact h.head x (by rw [h1]; simp)
  call := fun i y z hy hz => by
    rcases getElem?_snoc hz with h1 | ⟨h1, h2⟩
    · rcases getElem?_snoc hy with h3 | ⟨h3, -⟩
      · exact h.call i y z (getElem?_old h3 _) (getElem?_old h1 _)
      · have := (List.getElem?_eq_some_iff.1 h1).1
        omega
    · rcases getElem?_snoc hy with h3 | ⟨h3, -⟩
      · rw [h2, hf]
        exact h.call i y x (getElem?_old h3 _) (by rw [h1]; simp)
      · omega
theorem Chn.add {p : List FnD} {l : List LiveD} {x c : LiveD} (h : Chn p (l ++ [x])) (h5 : (opOf p x).code = 5) (hb : (opOf p x).b = c.fn) : Chn p (l ++ [x] ++ [c]) where
  head := fun y hy => by
    rcases getElem?_snoc hy with h1 | ⟨h1, -⟩
    · exact h.head y h1
    · simp at h1
  call := fun i y z hy hz => by
    rcases getElem?_snoc hz with h1 | ⟨h1, h2⟩
    · rcases getElem?_snoc hy with h3 | ⟨h3, -⟩
      · exact h.call i y z h3 h1
      · have := (List.getElem?_eq_some_iff.1 h1).1
        omega
    · rcases getElem?_snoc hy with h3 | ⟨h3, -⟩
      · have hi : i = l.length := by simp at h1; omega
        subst hi
        simp at h3
        subst h3 h2
        exact ⟨h5, hb⟩
      · omega
theorem chn_stepTop {p : List FnD} {ini : List LiveD} {x : LiveD} (h : Chn p (ini ++ [x])) : Chn p (stepTop p ini x).live := by
  unfold stepTop
  split
  · next h5 =>
    split
    · exact h
    · exact h.add h5 rfl
  · split
    · cases hl : ini.getLast? with
      | none => exact ⟨fun y hy => by simp at hy, fun i y z hy => by simp at hy⟩
      | some c =>
        dsimp only
        have he : ini = ini.dropLast ++ [c] := by
          obtain ⟨ys, rfl⟩ := List.getLast?_eq_some_iff.1 hl
          simp
        have h1 := h.init
        rw [he] at h1
        exact h1.swap rfl
    · split
      · exact h.swap rfl
      · split
        · exact h.swap rfl
        · split
          · exact h
          · exact h.swap rfl
theorem chn_next {p : List FnD} {s : StandD} (h : Chn p s.live) : Chn p (nextD p s).live := by
  unfold nextD
  split
  · exact h
  · cases hl : s.live.getLast? with
    | none => exact h
    | some x =>
      dsimp only
      have he : s.live = s.live.dropLast ++ [x] := by
        obtain ⟨ys, hy⟩ := List.getLast?_eq_some_iff.1 hl
        rw [hy]; simp
      rw [he] at h
      exact chn_stepTop h
theorem chn_run {p : List FnD} {s : StandD} (h : Chn p s.live) : ∀ n, Chn p (runD p s n).live
  | 0 => h
  | n + 1 => chn_next (chn_run h n)
theorem chn_begun (p : List FnD) (args : List Int) : Chn p (begunD p args).live where
  head := fun x hx => by simp [begunD] at hx; subst hx; rfl
  call := fun i x y _ hy => by simp [begunD] at hy

/-- Every Call of a code has its node. -/
def AllIn (p : List FnD) (s : LyD) : Prop := ∀ (i : Nat) (a : PlD), s.places[i]? = some a → (opAt p a).code = 5 → ∃ (t : Nat) (nd : Int × Int), s.tree[t]? = some nd ∧ nd.2 = (i : Int)
/-- Calls are of later functions alone. -/
def Ahead (p : List FnD) : Prop := ∀ fn : Int, 0 ≤ fn → ∀ o ∈ (fnAt p fn).body, o.code = 5 → fn < o.b
theorem layB_all {p : List FnD} {bud fn : Int} {ar : List Int} {k : Int} {rec : Int → List Int → LyD → LyD} (hr : ∀ b s, fn < b → AllIn p s → AllIn p (rec b ar s)) (hi : ∀ o ∈ (fnAt p fn).body, o.code = 5 → inlB p bud ar o = true) (hb : ∀ o ∈ (fnAt p fn).body, o.code = 5 → fn < o.b) :
    ∀ (l : List OpD) (i : Nat) (s : LyD), (fnAt p fn).body.drop i = l → AllIn p s → AllIn p (layB rec p bud fn ar k l i s)
  | [], _, _, _, hs => hs
  | o :: r, i, s, hd, hs => by
    have hio : (fnAt p fn).body[i]? = some o := by
      have h : ((fnAt p fn).body.drop i)[0]? = some o := by rw [hd]; rfl
      simpa using h
    have hm : o ∈ (fnAt p fn).body := List.mem_of_getElem? hio
    have hd' : (fnAt p fn).body.drop (i + 1) = r := by
      have := congrArg List.tail hd
      simpa using this
    have hop : opAt p ⟨fn, i, k⟩ = o := by
      unfold opAt
      simp [hio]
    unfold layB
    split
    · exact hs
    · split
      · next hin =>
        refine layB_all hr hi hb r (i + 1) _ hd' (hr _ _ (hb o hm (inlB_true hin).1) ?_)
        intro j a hj hc
        rcases getElem?_snoc hj with h1 | ⟨h1, -⟩
        · obtain ⟨t, nd, h2, h3⟩ := hs j a h1 hc
          exact ⟨t, nd, getElem?_old h2 _, h3⟩
        · exact ⟨s.tree.length, (o.b, (s.places.length : Int)), by simp, by rw [h1]⟩
      · next hin =>
        refine layB_all hr hi hb r (i + 1) _ hd' ?_
        intro j a hj hc
        rcases getElem?_snoc hj with h1 | ⟨-, h2⟩
        · exact hs j a h1 hc
        · rw [h2, hop] at hc
          exact absurd (hi o hm hc) hin
theorem layI_all {p : List FnD} {bud : Int} (ha : Ahead p) (hb : ∀ fn : Int, ((fnAt p fn).body.length : Int) ≤ bud) : ∀ (f : Nat) (fn : Int) (ar : List Int) (s : LyD), 0 ≤ fn → (∀ a ∈ ar, a ≤ fn) → AllIn p s → AllIn p (layI p bud f fn ar s)
  | 0, _, _, _, _, _, hs => hs
  | f + 1, fn, ar, s, h0, har, hs => by
    rw [layI_zero]
    have hb2 : ∀ o ∈ (fnAt p fn).body, o.code = 5 → fn < o.b := ha fn h0
    refine layB_all (fun b t hlt ht => ?_) (fun o ho hc => ?_) hb2 _ 0 s rfl hs
    · exact layI_all ha hb f b (fn :: ar) t (by omega) (fun a h => by
        rcases List.mem_cons.1 h with rfl | h
        · omega
        · have := har a h; omega) ht
    · have h1 := hb2 o ho hc
      have hne : (fn :: ar).contains o.b = false := by
        cases hcc : (fn :: ar).contains o.b with
        | false => rfl
        | true =>
          have hm : o.b ∈ fn :: ar := by simpa using hcc
          rcases List.mem_cons.1 hm with h | h
          · omega
          · have := har _ h; omega
      unfold inlB
      rw [hne, hc, decide_eq_true (hb o.b)]
      rfl
theorem layAll_all {p : List FnD} {bud : Int} (ha : Ahead p) (hb : ∀ fn : Int, ((fnAt p fn).body.length : Int) ≤ bud) : ∀ (n fn : Nat) (room : Int) (l cs : List CodeD), layAll p bud n fn room l = some cs → (∀ c ∈ l, AllIn p ⟨0, c.places, c.tree⟩) → ∀ c ∈ cs, AllIn p ⟨0, c.places, c.tree⟩
  | 0, _, _, l, cs, h, hl => by rw [← (Option.some.inj h : l = cs)]; exact hl
  | n + 1, fn, room, l, cs, h, hl => by
    unfold layAll at h
    split at h
    · cases h
    · refine layAll_all ha hb n (fn + 1) _ _ cs h (fun c hc => ?_)
      rcases List.mem_append.1 hc with h1 | h1
      · exact hl c h1
      · rw [List.mem_singleton.1 h1]
        exact layI_all ha hb 12 fn [] ⟨room, [], []⟩ (by omega) (fun a h => by cases h) (fun i a hi => by simp at hi)

theorem placeOf_at (inst op : Int) : ∀ (l : List PlD), (∃ a ∈ l, a.inst = inst ∧ a.op = op) → ∃ a, l[placeOf inst op l]? = some a ∧ a.inst = inst ∧ a.op = op
  | [], h => by obtain ⟨a, ha, _⟩ := h; cases ha
  | x :: r, h => by
    unfold placeOf
    by_cases hx : x.inst = inst ∧ x.op = op
    · rw [if_pos hx]; exact ⟨x, rfl, hx⟩
    · rw [if_neg hx]
      obtain ⟨a, h1, h2⟩ := placeOf_at inst op r (by
        obtain ⟨a, ha, hh⟩ := h
        rcases List.mem_cons.1 ha with rfl | ha
        · exact absurd hh hx
        · exact ⟨a, ha, hh⟩)
      exact ⟨a, by simpa using h1, h2⟩
theorem begunAt_at (pc : Int) : ∀ (t : List (Int × Int)) (k : Nat), (∃ nd ∈ t, nd.2 = pc) → ∃ j nd, begunAt pc t k = k + j + 1 ∧ t[j]? = some nd ∧ nd.2 = pc
  | [], _, h => by obtain ⟨a, ha, _⟩ := h; cases ha
  | x :: r, k, h => by
    unfold begunAt
    by_cases hx : x.2 = pc
    · rw [if_pos hx]; exact ⟨0, x, by omega, rfl, hx⟩
    · rw [if_neg hx]
      obtain ⟨j, nd, h1, h2, h3⟩ := begunAt_at pc r (k + 1) (by
        obtain ⟨a, ha, hh⟩ := h
        rcases List.mem_cons.1 ha with rfl | ha
        · exact absurd hh hx
        · exact ⟨a, ha, hh⟩)
      exact ⟨j + 1, nd, by omega, by simpa using h2, h3⟩

/-- Frames, one pc: within the code of function 0. -/
theorem pcsF_one {p : List FnD} {cs : List CodeD} {c : CodeD} (hg : GoodLy p 0 ⟨0, c.places, c.tree⟩) (hf : ∀ m, m ≤ c.tree.length → Full p 0 ⟨0, c.places, c.tree⟩ m) (hai : AllIn p ⟨0, c.places, c.tree⟩) :
    ∀ (l : List LiveD) (c0 : CodeD) (k : Nat) (x : LiveD), l[0]? = some x → (∀ y ∈ l, WfLive p y) → (∀ (i : Nat) (y z : LiveD), l[i]? = some y → l[i + 1]? = some z → (opOf p y).code = 5 ∧ (opOf p y).b = z.fn) →
      k ≤ c.tree.length → fnK 0 c.tree k = some x.fn → codeAt cs x.fn c0 k = c → ∃ i : Nat, i < c.places.length ∧ pcsF cs (l.map spot) c0 k [] = [c.first + i]
  | [], _, _, _, h, _, _, _, _, _ => by simp at h
  | x :: r, c0, k, x', hx, hw, hch, hk, hfk, hcd => by
    obtain rfl : x = x' := by simpa using hx
    have hwx := hw x (List.mem_cons_self ..)
    obtain ⟨a, ha, hai1, hai2⟩ := hf k hk x.fn hfk x.next.toNat (by have := hwx.next; unfold fnOf at this; omega)
    obtain ⟨a', ha', e1, e2⟩ := placeOf_at (k : Int) x.next c.places ⟨a, ha, hai1, by rw [hai2]; have := hwx.next; omega⟩
    have hlt := (List.getElem?_eq_some_iff.1 ha').1
    rw [List.map_cons]
    unfold pcsF
    have es : (spot x).1 = x.fn := rfl
    have es2 : (spot x).2 = x.next := rfl
    rw [es, es2, hcd]
    cases r with
    | nil => rw [if_pos (by simp)]; exact ⟨_, hlt, rfl⟩
    | cons y r =>
      rw [if_neg (by simp)]
      obtain ⟨h5, hb⟩ := hch 0 x y rfl rfl
      -- the place is of the frame's op
      have hfn : a'.fn = x.fn := by
        obtain ⟨k', q1, -, q3⟩ := hg.inst a' (List.mem_of_getElem? ha')
        have : k' = k := by omega
        subst this
        dsimp only at q3
        rw [hfk] at q3
        exact (Option.some.inj q3).symm
      have hop : opAt p a' = opOf p x := by
        unfold opAt opOf fnOf
        rw [hfn, e2]
      obtain ⟨t, nd, ht, hnd⟩ := hai _ a' ha' (by rw [hop]; exact h5)
      obtain ⟨j, nd', b1, b2, b3⟩ := begunAt_at ((placeOf (k : Int) x.next c.places : Nat) : Int) c.tree 0 ⟨nd, List.mem_of_getElem? ht, hnd⟩
      rw [if_neg (by omega)]
      have hj := (List.getElem?_eq_some_iff.1 b2).1
      obtain ⟨-, pc, aa, bb, g1, g2, -, -, -, -, g7⟩ := hg.node j nd' b2
      have hpc : pc = placeOf (k : Int) x.next c.places := by omega
      subst hpc
      dsimp only at g2
      rw [ha'] at g2
      cases g2
      rw [hop, hb] at g7
      have hfk' : fnK 0 c.tree (begunAt ((placeOf (k : Int) x.next c.places : Nat) : Int) c.tree 0) = some y.fn := by
        rw [b1]
        unfold fnK
        rw [if_neg (by omega), show 0 + j + 1 - 1 = j by omega, b2, g7]
        rfl
      exact pcsF_one hg hf hai (y :: r) c (begunAt ((placeOf (k : Int) x.next c.places : Nat) : Int) c.tree 0) y rfl (fun z hz => hw z (List.mem_cons_of_mem _ hz)) (fun i u v hu hv => hch (i + 1) u v (by simpa using hu) (by simpa using hv)) (by omega) hfk' (by
        unfold codeAt
        rw [if_neg (by omega)])

/-- Where no code has a node, there are as many pcs as frames. -/
theorem pcsF_all {cs : List CodeD} (h : ∀ c ∈ cs, c.tree = []) : ∀ (l : List (Int × Int)) (c0 : CodeD) (acc : List Int), (pcsF cs l c0 0 acc).length = acc.length + l.length
  | [], _, _ => rfl
  | x :: r, c0, acc => by
    have ht : (codeAt cs x.1 c0 0).tree = [] := by
      unfold codeAt
      rw [if_pos rfl]
      cases hc : cs[x.1.toNat]? with
      | none => rfl
      | some c => exact h c (List.mem_of_getElem? hc)
    unfold pcsF
    by_cases hr : r.length = 0
    · rw [if_pos hr, List.length_append]
      simp only [List.length_cons, List.length_nil]
      omega
    · rw [if_neg hr, if_pos (by rw [ht]; rfl), pcsF_all h r _ _, List.length_append, List.length_cons]
      simp only [List.length_cons, List.length_nil]
      omega
theorem layB_none {p : List FnD} {bud fn : Int} {ar : List Int} {k : Int} {rec : Int → List Int → LyD → LyD} : ∀ (l : List OpD) (i : Nat) (s : LyD), (∀ o ∈ l, inlB p bud ar o = false) → (layB rec p bud fn ar k l i s).tree = s.tree
  | [], _, _, _ => rfl
  | o :: r, i, s, h => by
    unfold layB
    split
    · rfl
    · rw [if_neg (by rw [h o (List.mem_cons_self ..)]; decide)]
      exact layB_none r (i + 1) _ (fun x hx => h x (List.mem_cons_of_mem _ hx))
theorem inlB_none {p : List FnD} (hp : LayOk p) {fn : Int} (h0 : 0 ≤ fn) (h1 : fn < p.length) (ar : List Int) : ∀ o ∈ (fnAt p fn).body, inlB p 0 ar o = false := fun o ho => by
  unfold inlB
  by_cases hc : o.code = 5
  · obtain ⟨b0, b1⟩ := hp.call fn h0 h1 o ho hc
    have hb := List.length_pos_iff.2 (hp.body o.b b0 b1)
    have : decide (((fnAt p o.b).body.length : Int) ≤ 0) = false := by rw [decide_eq_false_iff_not]; omega
    rw [this]; simp
  · have : (o.code == 5) = false := by simpa using hc
    rw [this]; rfl
theorem layAll_none {p : List FnD} (hp : LayOk p) : ∀ (n fn : Nat) (room : Int) (l cs : List CodeD), fn + n = p.length → layAll p 0 n fn room l = some cs → (∀ c ∈ l, c.tree = []) → ∀ c ∈ cs, c.tree = []
  | 0, _, _, l, cs, _, h, hl => by rw [← (Option.some.inj h : l = cs)]; exact hl
  | n + 1, fn, room, l, cs, hn, h, hl => by
    unfold layAll at h
    split at h
    · cases h
    · refine layAll_none hp n (fn + 1) _ _ cs (by omega) h (fun c hc => ?_)
      rcases List.mem_append.1 hc with h1 | h1
      · exact hl c h1
      · rw [List.mem_singleton.1 h1]
        show (layI p 0 12 fn [] ⟨room, [], []⟩).tree = []
        rw [layI_zero]
        exact layB_none _ 0 _ (inlB_none hp (by omega) (by omega) _)
end Go.Proofs.YtebjndcokkefhaaDoor
namespace Go.Proofs.YtebjndcokkefhaaDoor
open Go.RowKit

theorem sizB_le {rec : Int → List Int → Nat} {p : List FnD} {bud : Int} {ar : List Int} {M : Nat} : ∀ l : List OpD, (∀ o ∈ l, o.code = 5 → rec o.b ar ≤ M) → sizB rec p bud ar l ≤ l.length * (1 + M)
  | [], _ => by simp [sizB]
  | o :: r, h => by
    have ih := sizB_le (rec := rec) (p := p) (bud := bud) (ar := ar) (M := M) r (fun x hx => h x (List.mem_cons_of_mem _ hx))
    have h0 := h o (List.mem_cons_self ..)
    show 1 + (if inlB p bud ar o = true then rec o.b ar else 0) + sizB rec p bud ar r ≤ _
    rw [List.length_cons, Nat.add_mul, Nat.one_mul]
    split
    · next hi =>
      have := h0 (inlB_true hi).1
      omega
    · omega

/-- At most three functions, of at most eight ops, Calls of later functions alone. -/
structure Small (q : List FnD) : Prop where
  chk : Proofs.YtebjndcokkefhaaDoor.chk q = (0, 0, 0)
  few : q.length ≤ 3
  short : ∀ x ∈ q, x.body.length ≤ 8
  ahead : ∀ (f : Nat) (x : FnD), q[f]? = some x → ∀ o ∈ x.body, o.code = 5 → (f : Int) < o.b

theorem Small.body {q : List FnD} (h : Small q) (fn : Int) : (fnAt q fn).body.length ≤ 8 := by
  unfold fnAt
  cases hx : q[fn.toNat]? with
  | none => simp [noFn]
  | some x => exact h.short x (List.mem_of_getElem? hx)
theorem Small.ahead' {q : List FnD} (h : Small q) : Ahead q := fun fn h0 o ho hc => by
  unfold fnAt at ho
  cases hx : q[fn.toNat]? with
  | none => rw [hx] at ho; simp [noFn] at ho
  | some x =>
    rw [hx] at ho
    have := h.ahead fn.toNat x hx o ho hc
    omega
theorem Small.callee {q : List FnD} (h : Small q) {fn : Int} (h0 : 0 ≤ fn) {o : OpD} (ho : o ∈ (fnAt q fn).body) (hc : o.code = 5) : fn < o.b ∧ o.b < 3 := by
  have h1 := h.ahead' fn h0 o ho hc
  refine ⟨h1, ?_⟩
  have hg := good_of h.chk
  unfold fnAt at ho
  cases hx : q[fn.toNat]? with
  | none => rw [hx] at ho; simp [noFn] at ho
  | some x =>
    rw [hx] at ho
    obtain ⟨s, hs⟩ := List.mem_iff_getElem?.1 ho
    have := ((hg.fns _ _ hx).ops s o hs).call hc
    have := h.few
    omega
theorem Small.siz {q : List FnD} (h : Small q) (bud : Int) : ∀ (f : Nat) (ar : List Int), sizI q bud f 2 ar ≤ 8 ∧ sizI q bud f 1 ar ≤ 72 ∧ sizI q bud f 0 ar ≤ 584
  | 0, _ => ⟨Nat.zero_le _, Nat.zero_le _, Nat.zero_le _⟩
  | f + 1, ar => by
    have ih := fun ar => h.siz bud f ar
    refine ⟨?_, ?_, ?_⟩
    · have := sizB_le (rec := sizI q bud f) (p := q) (bud := bud) (ar := 2 :: ar) (M := 0) (fnAt q 2).body (fun o ho hc => by have := h.callee (by omega) ho hc; omega)
      have hb := h.body 2
      show sizB (sizI q bud f) q bud (2 :: ar) (fnAt q 2).body ≤ 8
      omega
    · have := sizB_le (rec := sizI q bud f) (p := q) (bud := bud) (ar := 1 :: ar) (M := 8) (fnAt q 1).body (fun o ho hc => by
        have := h.callee (by omega) ho hc
        have e : o.b = 2 := by omega
        rw [e]; exact (ih _).1)
      have hb := h.body 1
      show sizB (sizI q bud f) q bud (1 :: ar) (fnAt q 1).body ≤ 72
      omega
    · have := sizB_le (rec := sizI q bud f) (p := q) (bud := bud) (ar := 0 :: ar) (M := 72) (fnAt q 0).body (fun o ho hc => by
        have := h.callee (by omega) ho hc
        rcases (by omega : o.b = 1 ∨ o.b = 2) with e | e
        · rw [e]; exact (ih _).2.1
        · rw [e]; exact Nat.le_trans (ih _).1 (by omega))
      have hb := h.body 0
      show sizB (sizI q bud f) q bud (0 :: ar) (fnAt q 0).body ≤ 584
      omega

/-- How many places the codes of n functions from fn on have. -/
def totS (p : List FnD) (bud : Int) : Nat → Nat → Nat
  | 0, _ => 0
  | n + 1, fn => sizI p bud 12 fn [] + totS p bud n (fn + 1)
theorem layAll_tot (p : List FnD) (bud : Int) : ∀ (n fn : Nat) (room : Int) (l : List CodeD), (totS p bud n fn : Int) ≤ room → (layAll p bud n fn room l).isSome = true
  | 0, _, _, _, _ => rfl
  | n + 1, fn, room, l, h => by
    have h' : ((sizI p bud 12 fn [] + totS p bud n (fn + 1) : Nat) : Int) ≤ room := h
    unfold layAll
    obtain ⟨r1, -⟩ := layI_room p bud 12 fn [] ⟨room, [], []⟩ (by dsimp only; omega)
    dsimp only at r1
    obtain ⟨q1, -⟩ := r1 (by omega)
    rw [if_neg (by omega)]
    exact layAll_tot p bud n (fn + 1) _ _ (by omega)
theorem Small.lay {q : List FnD} (h : Small q) {bud : Int} (h0 : 0 ≤ bud) (h1 : bud ≤ 30) : layE q bud = 0 ∧ ∃ cs, codesD q bud = some cs := by
  have hs : (codesD q bud).isSome = true := by
    refine layAll_tot q bud q.length 0 1000 [] ?_
    have hf := h.few
    obtain ⟨a, b, c⟩ := h.siz bud 12 []
    have hle : totS q bud q.length 0 ≤ 664 := by
      match hn : q.length, hf with
      | 0, _ => simp [totS]
      | 1, _ => simp only [totS]; have : sizI q bud 12 ((0 : Nat) : Int) [] ≤ 584 := c; omega
      | 2, _ => simp only [totS]; have : sizI q bud 12 ((0 : Nat) : Int) [] ≤ 584 := c; have : sizI q bud 12 ((0 + 1 : Nat) : Int) [] ≤ 72 := b; omega
      | 3, _ => simp only [totS]; have : sizI q bud 12 ((0 : Nat) : Int) [] ≤ 584 := c; have : sizI q bud 12 ((0 + 1 : Nat) : Int) [] ≤ 72 := b; have : sizI q bud 12 ((0 + 1 + 1 : Nat) : Int) [] ≤ 8 := a; omega
    omega
  refine ⟨?_, Option.isSome_iff_exists.1 hs⟩
  unfold layE
  rw [h.chk, if_neg (by simp), if_pos ⟨h0, h1⟩, if_pos hs]

/-- The pcs of a run, by the greatest budget and by none. -/
theorem Small.pcs {q : List FnD} (h : Small q) {cs cs0 : List CodeD} (hc : codesD q 30 = some cs) (hc0 : codesD q 0 = some cs0) (args : List Int) (n : Nat) (hw : Wf q (runD q (begunD q args) n)) :
    (pcsD cs0 (runD q (begunD q args) n).live).length = (runD q (begunD q args) n).live.length ∧
    ((runD q (begunD q args) n).live = [] → pcsD cs (runD q (begunD q args) n).live = []) ∧
    ((runD q (begunD q args) n).live ≠ [] → ∃ (c : CodeD) (i : Nat), cs[0]? = some c ∧ i < c.places.length ∧ pcsD cs (runD q (begunD q args) n).live = [(i : Int)]) := by
  have hch := chn_run (chn_begun q args) n
  have hg := good_of h.chk
  generalize runD q (begunD q args) n = s at *
  refine ⟨?_, fun he => by rw [he]; rfl, fun hne => ?_⟩
  · unfold pcsD
    rw [List.length_reverse, pcsF_all (layAll_none (layOk_of hg) q.length 0 1000 [] cs0 (by omega) hc0 (fun c hc => by cases hc))]
    simp
  · obtain ⟨-, hl, hall⟩ := img_wf h.chk hc
    obtain ⟨c, hcc⟩ : ∃ c, cs[0]? = some c := ⟨_, List.getElem?_eq_getElem (by have := hg.len; omega)⟩
    obtain ⟨g1, g2, g3⟩ := hall 0 c hcc
    have hai := layAll_all (bud := 30) h.ahead' (fun fn => by have := h.body fn; omega) q.length 0 1000 [] cs hc (fun c hc => by cases hc) c (List.mem_of_getElem? hcc)
    obtain ⟨x, hx⟩ : ∃ x, s.live[0]? = some x := ⟨_, List.getElem?_eq_getElem (List.length_pos_iff.2 hne)⟩
    have hx0 := hch.head x hx
    obtain ⟨i, hi, he⟩ := pcsF_one (cs := cs) g1 g2 hai s.live noCode 0 x hx hw.live hch.call (Nat.zero_le _) (by unfold fnK; rw [if_pos rfl, hx0]) (by unfold codeAt; rw [if_pos rfl, hx0]; show (cs[0]?).getD noCode = c; rw [hcc]; rfl)
    refine ⟨c, i, hcc, hi, ?_⟩
    unfold pcsD
    rw [he, g3]
    simp
/-- A run has no frames just where it is done. -/
def Ends (s : StandD) : Prop := (s.status = 1 → s.live = []) ∧ (s.status ≠ 1 → s.live ≠ [])
theorem ends_stepTop (p : List FnD) (ini : List LiveD) (x : LiveD) : Ends (stepTop p ini x) := by
  unfold stepTop
  split
  · split
    · exact ⟨fun h => by simp at h, fun _ => by simp⟩
    · exact ⟨fun h => by simp at h, fun _ => by simp⟩
  · split
    · split
      · exact ⟨fun _ => rfl, fun h => absurd rfl h⟩
      · exact ⟨fun h => by simp at h, fun _ => by simp⟩
    · split
      · exact ⟨fun h => by simp at h, fun _ => by simp⟩
      · split
        · exact ⟨fun h => by simp at h, fun _ => by simp⟩
        · split
          · exact ⟨fun h => by simp at h, fun _ => by simp⟩
          · exact ⟨fun h => by simp at h, fun _ => by simp⟩
theorem ends_run {p : List FnD} {s : StandD} (h : Ends s) : ∀ n, Ends (runD p s n)
  | 0 => h
  | n + 1 => by
    show Ends (nextD p (runD p s n))
    unfold nextD
    split
    · exact ends_run h n
    · split
      · exact ends_run h n
      · exact ends_stepTop _ _ _
theorem ends_begun (p : List FnD) (args : List Int) : Ends (begunD p args) := ⟨fun h => by simp [begunD] at h, fun _ => by simp [begunD]⟩
end Go.Proofs.YtebjndcokkefhaaDoor
