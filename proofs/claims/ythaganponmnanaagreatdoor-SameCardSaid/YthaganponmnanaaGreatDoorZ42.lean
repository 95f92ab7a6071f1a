/- The frames of a run: each was called by the one before it; where no function calls back, all is inlined, and there is one pc; by no budget there are as many pcs as frames. Nothing is claimed of the program here. The pcs of a run, read by the image, are the frames of the run: mathematics alone; nothing is claimed of the program here. The contract of the statement's own canon: true at whatever bytes. -/
import Derived.Test.YthaganponmnanaaGreatDoorZ41
import Derived.Test.YthaganponmnanaaGreatDoorZ35
import Derived.Test.YthaganponmnanaaGreatDoorZ40
namespace Go.Proofs.YthaganponmnanaaGreatDoor
open Go.RowKit

/-- The outermost frame is of function 0; each other was called by the one before it. -/
structure Chn (p : List FnD) (l : List LiveD) : Prop where
  head : ∀ x, l[0]? = some x → x.fn = 0
  call : ∀ (i : Nat) (x y : LiveD), l[i]? = some x → l[i + 1]? = some y → (opOf p x).code = 5 ∧ (opOf p x).b = y.fn

theorem Chn.init {p : List FnD} {l : List LiveD} {x : LiveD} (h : Chn p (l ++ [x])) : Chn p l where
  head := fun y hy => h.head y (getElem?_old hy _)
  call := fun i y z hy hz => h.call i y z (getElem?_old hy _) (getElem?_old hz _)
theorem Chn.swap {p : List FnD} {l : List LiveD} {x x' : LiveD} (h : Chn p (l ++ [x])) (hf : x'.fn = x.fn) : Chn p (l ++ [x']) where
  head := fun y hy => by
    rcases getElem?_snoc hy with h1 | ⟨h1, h2⟩
    · exact h.head y (getElem?_old h1 _)
    · rw [h2, hf]
      exact h.head x (by rw [h1]; simp)
  call := fun i y z hy hz => by
    rcases getElem?_snoc hz with h1 | ⟨h1, h2⟩
    · rcases getElem?_snoc hy with h3 | ⟨h3, -⟩
      · exact h.call i y z (getElem?_old h3 _) (getElem?_old h1 _)
      · have := (List.getElem?_eq_some_iff.1 h1).1
        omega
    · rcases getElem?_snoc hy with h3 | ⟨h3, -⟩
      · rw [h2, hf]
        exact h.call i y x (getElem?_old h3 _) (by rw [h1]; simp)
      · omega
theorem Chn.add {p : List FnD} {l : List LiveD} {x c : LiveD} (h : Chn p (l ++ [x])) (h5 : (opOf p x).code = 5) (hb : (opOf p x).b = c.fn) : Chn p (l ++ [x] ++ [c]) where
  head := fun y hy => by
    rcases getElem?_snoc hy with h1 | ⟨h1, -⟩
    · exact h.head y h1
    · simp at h1
  call := fun i y z hy hz => by
    rcases getElem?_snoc hz with h1 | ⟨h1, h2⟩
    · rcases getElem?_snoc hy with h3 | ⟨h3, -⟩
      · exact h.call i y z h3 h1
      · have := (List.getElem?_eq_some_iff.1 h1).1
        omega
    · rcases getElem?_snoc hy with h3 | ⟨h3, -⟩
      · have hi : i = l.length := by simp at h1; omega
        subst hi
        simp at h3
        subst h3 h2
        exact ⟨h5, hb⟩
      · omega
theorem chn_stepTop {p : List FnD} {ini : List LiveD} {x : LiveD} (h : Chn p (ini ++ [x])) : Chn p (stepTop p ini x).live := by
  unfold stepTop
  split
  · next h5 =>
    split
    · exact h
    · exact h.add h5 rfl
  · split
    · cases hl : ini.getLast? with
      | none => exact ⟨fun y hy => by simp at hy, fun i y z hy => by simp at hy⟩
      | some c =>
        dsimp only
        have he : ini = ini.dropLast ++ [c] := by
          obtain ⟨ys, rfl⟩ := List.getLast?_eq_some_iff.1 hl
          simp
        have h1 := h.init
        rw [he] at h1
        exact h1.swap rfl
    · split
      · exact h.swap rfl
      · split
        · exact h.swap rfl
        · split
          · exact h
          · exact h.swap rfl
theorem chn_next {p : List FnD} {s : StandD} (h : Chn p s.live) : Chn p (nextD p s).live := by
  unfold nextD
  split
  · exact h
  · cases hl : s.live.getLast? with
    | none => exact h
    | some x =>
      dsimp only
      have he : s.live = s.live.dropLast ++ [x] := by
        obtain ⟨ys, hy⟩ := List.getLast?_eq_some_iff.1 hl
        rw [hy]; simp
      rw [he] at h
      exact chn_stepTop h
theorem chn_run {p : List FnD} {s : StandD} (h : Chn p s.live) : ∀ n, Chn p (runD p s n).live
  | 0 => h
  | n + 1 => chn_next (chn_run h n)
theorem chn_begun (p : List FnD) (args : List Int) : Chn p (begunD p args).live where
  head := fun x hx => by simp [begunD] at hx; subst hx; rfl
  call := fun i x y _ hy => by simp [begunD] at hy

/-- Every Call of a code has its node. -/
def AllIn (p : List FnD) (s : LyD) : Prop := ∀ (i : Nat) (a : PlD), s.places[i]? = some a → (opAt p a).code = 5 → ∃ (t : Nat) (nd : Int × Int), s.tree[t]? = some nd ∧ nd.2 = (i : Int)
/-- Calls are of later functions alone. -/
def Ahead (p : List FnD) : Prop := ∀ fn : Int, 0 ≤ fn → ∀ o ∈ (fnAt p fn).body, o.code = 5 → fn < o.b
theorem layB_all {p : List FnD} {bud fn : Int} {ar : List Int} {k : Int} {rec : Int → List Int → LyD → LyD} (hr : ∀ b s, fn < b → AllIn p s → AllIn p (rec b ar s)) (hi : ∀ o ∈ (fnAt p fn).body, o.code = 5 → inlB p bud ar o = true) (hb : ∀ o ∈ (fnAt p fn).body, o.code = 5 → fn < o.b) :
    ∀ (l : List OpD) (i : Nat) (s : LyD), (fnAt p fn).body.drop i = l → AllIn p s → AllIn p (layB rec p bud fn ar k l i s)
  | [], _, _, _, hs => hs
  | o :: r, i, s, hd, hs => by
    have hio : (fnAt p fn).body[i]? = some o := by
      have h : ((fnAt p fn).body.drop i)[0]? = some o := by rw [hd]; rfl
      simpa using h
    have hm : o ∈ (fnAt p fn).body := List.mem_of_getElem? hio
    have hd' : (fnAt p fn).body.drop (i + 1) = r := by
      have := congrArg List.tail hd
      simpa using this
    have hop : opAt p ⟨fn, i, k⟩ = o := by
      unfold opAt
      simp [hio]
    unfold layB
    split
    · exact hs
    · split
      · next hin =>
        refine layB_all hr hi hb r (i + 1) _ hd' (hr _ _ (hb o hm (inlB_true hin).1) ?_)
        intro j a hj hc
        rcases getElem?_snoc hj with h1 | ⟨h1, -⟩
        · obtain ⟨t, nd, h2, h3⟩ := hs j a h1 hc
          exact ⟨t, nd, getElem?_old h2 _, h3⟩
        · exact ⟨s.tree.length, (o.b, (s.places.length : Int)), by simp, by rw [h1]⟩
      · next hin =>
        refine layB_all hr hi hb r (i + 1) _ hd' ?_
        intro j a hj hc
        rcases getElem?_snoc hj with h1 | ⟨-, h2⟩
        · exact hs j a h1 hc
        · rw [h2, hop] at hc
          exact absurd (hi o hm hc) hin
theorem layI_all {p : List FnD} {bud : Int} (ha : Ahead p) (hb : ∀ fn : Int, ((fnAt p fn).body.length : Int) ≤ bud) : ∀ (f : Nat) (fn : Int) (ar : List Int) (s : LyD), 0 ≤ fn → (∀ a ∈ ar, a ≤ fn) → AllIn p s → AllIn p (layI p bud f fn ar s)
  | 0, _, _, _, _, _, hs => hs
  | f + 1, fn, ar, s, h0, har, hs => by
    rw [layI_zero]
    have hb2 : ∀ o ∈ (fnAt p fn).body, o.code = 5 → fn < o.b := ha fn h0
    refine layB_all (fun b t hlt ht => ?_) (fun o ho hc => ?_) hb2 _ 0 s rfl hs
    · exact layI_all ha hb f b (fn :: ar) t (by omega) (fun a h => by
        rcases List.mem_cons.1 h with rfl | h
        · omega
        · have := har a h; omega) ht
    · have h1 := hb2 o ho hc
      have hne : (fn :: ar).contains o.b = false := by
        cases hcc : (fn :: ar).contains o.b with
        | false => rfl
        | true =>
          have hm : o.b ∈ fn :: ar := by simpa using hcc
          rcases List.mem_cons.1 hm with h | h
          · omega
          · have := har _ h; omega
      unfold inlB
      rw [hne, hc, decide_eq_true (hb o.b)]
      rfl
theorem layAll_all {p : List FnD} {bud : Int} (ha : Ahead p) (hb : ∀ fn : Int, ((fnAt p fn).body.length : Int) ≤ bud) : ∀ (n fn : Nat) (room : Int) (l cs : List CodeD), layAll p bud n fn room l = some cs → (∀ c ∈ l, AllIn p ⟨0, c.places, c.tree⟩) → ∀ c ∈ cs, AllIn p ⟨0, c.places, c.tree⟩
  | 0, _, _, l, cs, h, hl => by rw [← (Option.some.inj h : l = cs)]; exact hl
  | n + 1, fn, room, l, cs, h, hl => by
    unfold layAll at h
    split at h
    · cases h
    · refine layAll_all ha hb n (fn + 1) _ _ cs h (fun c hc => ?_)
      rcases List.mem_append.1 hc with h1 | h1
      · exact hl c h1
      · rw [List.mem_singleton.1 h1]
        exact layI_all ha hb 12 fn [] ⟨room, [], []⟩ (by omega) (fun a h => by cases h) (fun i a hi => by simp at hi)

theorem placeOf_at (inst op : Int) : ∀ (l : List PlD), (∃ a ∈ l, a.inst = inst ∧ a.op = op) → ∃ a, l[placeOf inst op l]? = some a ∧ a.inst = inst ∧ a.op = op
  | [], h => by obtain ⟨a, ha, _⟩ := h; cases ha
  | x :: r, h => by
    unfold placeOf
    by_cases hx : x.inst = inst ∧ x.op = op
    · rw [if_pos hx]; exact ⟨x, rfl, hx⟩
    · rw [if_neg hx]
      obtain ⟨a, h1, h2⟩ := placeOf_at inst op r (by
        obtain ⟨a, ha, hh⟩ := h
        rcases List.mem_cons.1 ha with rfl | ha
        · exact absurd hh hx
        · exact ⟨a, ha, hh⟩)
      exact ⟨a, by simpa using h1, h2⟩
theorem begunAt_at (pc : Int) : ∀ (t : List (Int × Int)) (k : Nat), (∃ nd ∈ t, nd.2 = pc) → ∃ j nd, begunAt pc t k = k + j + 1 ∧ t[j]? = some nd ∧ nd.2 = pc
  | [], _, h => by obtain ⟨a, ha, _⟩ := h; cases ha
  | x :: r, k, h => by
    unfold begunAt
    by_cases hx : x.2 = pc
    · rw [if_pos hx]; exact ⟨0, x, by omega, rfl, hx⟩
    · rw [if_neg hx]
      obtain ⟨j, nd, h1, h2, h3⟩ := begunAt_at pc r (k + 1) (by
        obtain ⟨a, ha, hh⟩ := h
        rcases List.mem_cons.1 ha with rfl | ha
        · exact absurd hh hx
        · exact ⟨a, ha, hh⟩)
      exact ⟨j + 1, nd, by omega, by simpa using h2, h3⟩

/-- Frames, one pc: within the code of function 0. -/
theorem pcsF_one {p : List FnD} {cs : List CodeD} {c : CodeD} (hg : GoodLy p 0 ⟨0, c.places, c.tree⟩) (hf : ∀ m, m ≤ c.tree.length → Full p 0 ⟨0, c.places, c.tree⟩ m) (hai : AllIn p ⟨0, c.places, c.tree⟩) :
    ∀ (l : List LiveD) (c0 : CodeD) (k : Nat) (x : LiveD), l[0]? = some x → (∀ y ∈ l, WfLive p y) → (∀ (i : Nat) (y z : LiveD), l[i]? = some y → l[i + 1]? = some z → (opOf p y).code = 5 ∧ (opOf p y).b = z.fn) →
      k ≤ c.tree.length → fnK 0 c.tree k = some x.fn → codeAt cs x.fn c0 k = c → ∃ i : Nat, i < c.places.length ∧ pcsF cs (l.map spot) c0 k [] = [c.first + i]
  | [], _, _, _, h, _, _, _, _, _ => by simp at h
  | x :: r, c0, k, x', hx, hw, hch, hk, hfk, hcd => by
    obtain rfl : x = x' := by simpa using hx
    have hwx := hw x (List.mem_cons_self ..)
    obtain ⟨a, ha, hai1, hai2⟩ := hf k hk x.fn hfk x.next.toNat (by have := hwx.next; unfold fnOf at this; omega)
    obtain ⟨a', ha', e1, e2⟩ := placeOf_at (k : Int) x.next c.places ⟨a, ha, hai1, by rw [hai2]; have := hwx.next; omega⟩
    have hlt := (List.getElem?_eq_some_iff.1 ha').1
    rw [List.map_cons]
    unfold pcsF
    have es : (spot x).1 = x.fn := rfl
    have es2 : (spot x).2 = x.next := rfl
    rw [es, es2, hcd]
    cases r with
    | nil => rw [if_pos (by simp)]; exact ⟨_, hlt, rfl⟩
    | cons y r =>
      rw [if_neg (by simp)]
      obtain ⟨h5, hb⟩ := hch 0 x y rfl rfl
      -- the place is of the frame's op
      have hfn : a'.fn = x.fn := by
        obtain ⟨k', q1, -, q3⟩ := hg.inst a' (List.mem_of_getElem? ha')
        have : k' = k := by omega
        subst this
        dsimp only at q3
        rw [hfk] at q3
        exact (Option.some.inj q3).symm
      have hop : opAt p a' = opOf p x := by
        unfold opAt opOf fnOf
        rw [hfn, e2]
      obtain ⟨t, nd, ht, hnd⟩ := hai _ a' ha' (by rw [hop]; exact h5)
      obtain ⟨j, nd', b1, b2, b3⟩ := begunAt_at ((placeOf (k : Int) x.next c.places : Nat) : Int) c.tree 0 ⟨nd, List.mem_of_getElem? ht, hnd⟩
      rw [if_neg (by omega)]
      have hj := (List.getElem?_eq_some_iff.1 b2).1
      obtain ⟨-, pc, aa, bb, g1, g2, -, -, -, -, g7⟩ := hg.node j nd' b2
      have hpc : pc = placeOf (k : Int) x.next c.places := by omega
      subst hpc
      dsimp only at g2
      rw [ha'] at g2
      cases g2
      rw [hop, hb] at g7
      have hfk' : fnK 0 c.tree (begunAt ((placeOf (k : Int) x.next c.places : Nat) : Int) c.tree 0) = some y.fn := by
        rw [b1]
        unfold fnK
        rw [if_neg (by omega), show 0 + j + 1 - 1 = j by omega, b2, g7]
        rfl
      exact pcsF_one hg hf hai (y :: r) c (begunAt ((placeOf (k : Int) x.next c.places : Nat) : Int) c.tree 0) y rfl (fun z hz => hw z (List.mem_cons_of_mem _ hz)) (fun i u v hu hv => hch (i + 1) u v (by simpa using hu) (by simpa using hv)) (by omega) hfk' (by
        unfold codeAt
        rw [if_neg (by omega)])

/-- Where no code has a node, there are as many pcs as frames. -/
theorem pcsF_all {cs : List CodeD} (h : ∀ c ∈ cs, c.tree = []) : ∀ (l : List (Int × Int)) (c0 : CodeD) (acc : List Int), (pcsF cs l c0 0 acc).length = acc.length + l.length
  | [], _, _ => rfl
  | x :: r, c0, acc => by
    have ht : (codeAt cs x.1 c0 0).tree = [] := by
      unfold codeAt
      rw [if_pos rfl]
      cases hc : cs[x.1.toNat]? with
      | none => rfl
      | some c => exact h c (List.mem_of_getElem? hc)
    unfold pcsF
    by_cases hr : r.length = 0
    · rw [if_pos hr, List.length_append]
      simp only [List.length_cons, List.length_nil]
      omega
    · rw [if_neg hr, if_pos (by rw [ht]; rfl), pcsF_all h r _ _, List.length_append, List.length_cons]
      simp only [List.length_cons, List.length_nil]
      omega
theorem layB_none {p : List FnD} {bud fn : Int} {ar : List Int} {k : Int} {rec : Int → List Int → LyD → LyD} : ∀ (l : List OpD) (i : Nat) (s : LyD), (∀ o ∈ l, inlB p bud ar o = false) → (layB rec p bud fn ar k l i s).tree = s.tree
  | [], _, _, _ => rfl
  | o :: r, i, s, h => by
    unfold layB
    split
    · rfl
    · rw [if_neg (by rw [h o (List.mem_cons_self ..)]; decide)]
      exact layB_none r (i + 1) _ (fun x hx => h x (List.mem_cons_of_mem _ hx))
theorem inlB_none {p : List FnD} (hp : LayOk p) {fn : Int} (h0 : 0 ≤ fn) (h1 : fn < p.length) (ar : List Int) : ∀ o ∈ (fnAt p fn).body, inlB p 0 ar o = false := fun o ho => by
  unfold inlB
  by_cases hc : o.code = 5
  · obtain ⟨b0, b1⟩ := hp.call fn h0 h1 o ho hc
    have hb := List.length_pos_iff.2 (hp.body o.b b0 b1)
    have : decide (((fnAt p o.b).body.length : Int) ≤ 0) = false := by rw [decide_eq_false_iff_not]; omega
    rw [this]; simp
  · have : (o.code == 5) = false := by simpa using hc
    rw [this]; rfl
theorem layAll_none {p : List FnD} (hp : LayOk p) : ∀ (n fn : Nat) (room : Int) (l cs : List CodeD), fn + n = p.length → layAll p 0 n fn room l = some cs → (∀ c ∈ l, c.tree = []) → ∀ c ∈ cs, c.tree = []
  | 0, _, _, l, cs, _, h, hl => by rw [← (Option.some.inj h : l = cs)]; exact hl
  | n + 1, fn, room, l, cs, hn, h, hl => by
    unfold layAll at h
    split at h
    · cases h
    · refine layAll_none hp n (fn + 1) _ _ cs (by omega) h (fun c hc => ?_)
      rcases List.mem_append.1 hc with h1 | h1
      · exact hl c h1
      · rw [List.mem_singleton.1 h1]
        show (layI p 0 12 fn [] ⟨room, [], []⟩).tree = []
        rw [layI_zero]
        exact layB_none _ 0 _ (inlB_none hp (by omega) (by omega) _)
end Go.Proofs.YthaganponmnanaaGreatDoor
namespace Go.Proofs.YthaganponmnanaaGreatDoor
open Go.RowKit

def pcN (r : List EntD) : Nat := (r.map fun x => (unroll x.lines).length).sum
theorem plcF_old : ∀ (r : List EntD) (fn : Nat) (acc : List PlcD) (pc : Nat), pc < acc.length → (plcF r fn acc)[pc]? = acc[pc]?
  | [], _, _, _, _ => rfl
  | y :: r, fn, acc, pc, hp => by
    show (plcF r (fn + 1) _)[pc]? = _
    rw [plcF_old r (fn + 1) _ pc (by rw [List.length_append]; omega), List.getElem?_append_left hp]
theorem plcF_get {n : Nat} : ∀ (r : List EntD) (fn : Nat) (acc : List PlcD) (i : Nat) (x : EntD), (∀ y ∈ r, EntG n y) → r[i]? = some x → ∀ j, j < (unroll x.lines).length →
    (plcF r fn acc)[acc.length + pcN (r.take i) + j]? = some ⟨((fn + i : Nat) : Int), ((acc.length + pcN (r.take i) : Nat) : Int), (unroll x.lines).getD j 0, (unroll x.index).getD j 0⟩
  | [], _, _, _, _, _, h => by simp at h
  | y :: r, fn, acc, 0, x, hg, h => fun j hj => by
    obtain rfl : y = x := by simpa using h
    have hy := hg y (List.mem_cons_self ..)
    show (plcF r (fn + 1) (acc ++ plcE fn acc.length y))[acc.length + 0 + j]? = _
    have hl : (acc ++ plcE fn acc.length y).length = acc.length + (unroll y.lines).length := by rw [List.length_append, plcE_len hy]
    rw [plcF_old _ _ _ _ (by omega), Nat.add_zero, List.getElem?_append_right (by omega), show acc.length + j - acc.length = j by omega, plcE_at hy hj]
    rfl
  | y :: r, fn, acc, i + 1, x, hg, h => fun j hj => by
    have hy := hg y (List.mem_cons_self ..)
    have hl : (acc ++ plcE fn acc.length y).length = acc.length + (unroll y.lines).length := by rw [List.length_append, plcE_len hy]
    have ih := plcF_get r (fn + 1) (acc ++ plcE fn acc.length y) i x (fun z hz => hg z (List.mem_cons_of_mem _ hz)) (by simpa using h) j hj
    have hs : pcN ((y :: r).take (i + 1)) = (unroll y.lines).length + pcN (r.take i) := by unfold pcN; rw [List.take_succ_cons, List.map_cons, List.sum_cons]
    show (plcF r (fn + 1) (acc ++ plcE fn acc.length y))[_]? = _
    rw [hl] at ih
    rw [hs, show acc.length + ((unroll y.lines).length + pcN (r.take i)) + j = acc.length + (unroll y.lines).length + pcN (r.take i) + j by omega, ih, show fn + 1 + i = fn + (i + 1) by omega, Nat.add_assoc acc.length]

theorem ent_unroll {p : List FnD} (hg : Good p) {x : FnD} {c : CodeD} {i : Nat} (h : GoodLy p i ⟨0, c.places, c.tree⟩) (hb : CodeBd c) : unroll (entOfD p x c).lines = (c.places.map fun a => (opAt p a).line) ∧ unroll (entOfD p x c).index = (c.places.map fun a => a.inst) := by
  refine ⟨(roll_ok _ _ rfl fun v hv => ?_).2.2, (roll_ok _ _ rfl fun v hv => ?_).2.2⟩
  · obtain ⟨a, ha, rfl⟩ := List.mem_map.1 hv
    have := opAt_ok hg (h.pl a ha)
    unfold isV
    exact decide_eq_true (by omega)
  · obtain ⟨a, ha, rfl⟩ := List.mem_map.1 hv
    obtain ⟨k, e1, e2, -⟩ := h.inst a ha
    have := hb.2.2
    dsimp only at e2
    unfold isV
    exact decide_eq_true (by omega)
theorem pcN_img {p : List FnD} : ∀ (p' : List FnD) (cs' : List CodeD), p'.length = cs'.length → (∀ x, ∀ c ∈ cs', (unroll (entOfD p x c).lines).length = c.places.length) → ((pcN (List.zipWith (entOfD p) p' cs') : Nat) : Int) = (cs'.map fun c => (c.places.length : Int)).sum
  | [], [], _, _ => rfl
  | x :: p', c :: cs', hl, h => by
    have ih := pcN_img p' cs' (by simpa using hl) (fun y d hd => h y d (List.mem_cons_of_mem _ hd))
    unfold pcN at ih ⊢
    rw [List.zipWith_cons_cons, List.map_cons, List.sum_cons, List.map_cons, List.sum_cons, h x c (List.mem_cons_self ..), ← ih]
    omega
  | [], _ :: _, hl, _ => by simp at hl
  | _ :: _, [], hl, _ => by simp at hl

/-- What is known of the codes and their image. -/
structure CG (p : List FnD) (bud : Int) (cs : List CodeD) : Prop where
  chk : Proofs.YthaganponmnanaaGreatDoor.chk p = (0, 0, 0)
  codes : codesD p bud = some cs
theorem CG.at {p : List FnD} {bud : Int} {cs : List CodeD} (h : CG p bud cs) {i : Nat} {c : CodeD} (hc : cs[i]? = some c) :
    ∃ (x : FnD) (F : Nat), p[i]? = some x ∧ (imgD p cs)[i]? = some (entOfD p x c) ∧ c.first = (F : Int) ∧ GoodLy p i ⟨0, c.places, c.tree⟩ ∧ (∀ m, m ≤ c.tree.length → Full p i ⟨0, c.places, c.tree⟩ m) ∧
      ∀ (j : Nat) (a : PlD), c.places[j]? = some a → (plcD (imgD p cs))[F + j]? = some ⟨(i : Int), (F : Int), (opAt p a).line, a.inst⟩ := by
  obtain ⟨hwf, hlen, hw⟩ := img_wf h.chk h.codes
  obtain ⟨hbd, -⟩ := codesD_bd h.codes
  have hg := good_of h.chk
  have hi := (List.getElem?_eq_some_iff.1 hc).1
  obtain ⟨x, hx⟩ : ∃ x, p[i]? = some x := ⟨_, List.getElem?_eq_getElem (by omega)⟩
  have hL : (imgD p cs)[i]? = some (entOfD p x c) := by unfold imgD; rw [List.getElem?_zipWith, hx, hc]
  obtain ⟨w1, w2, w3⟩ := hw i c hc
  have hun : ∀ y, ∀ d ∈ cs, (unroll (entOfD p y d).lines).length = d.places.length := fun y d hd => by
    obtain ⟨k, hk⟩ := List.mem_iff_getElem?.1 hd
    rw [(ent_unroll hg (hw k d hk).1 (hbd d hd)).1, List.length_map]
  have hF : c.first = ((pcN ((imgD p cs).take i) : Nat) : Int) := by
    rw [w3]
    unfold imgD
    rw [List.take_zipWith, pcN_img (p.take i) (cs.take i) (by rw [List.length_take, List.length_take]; omega) (fun y d hd => hun y d (List.mem_of_mem_take hd))]
  refine ⟨x, _, hx, hL, hF, w1, w2, fun j a ha => ?_⟩
  obtain ⟨u1, u2⟩ := ent_unroll (x := x) hg w1 (hbd c (List.mem_of_getElem? hc))
  have hj := (List.getElem?_eq_some_iff.1 ha).1
  have := plcF_get (n := (imgD p cs).length) (imgD p cs) 0 [] i _ (wfI_entG hwf) hL j (by rw [u1, List.length_map]; exact hj)
  rw [u1, u2] at this
  have e1 : (c.places.map fun a => (opAt p a).line).getD j 0 = (opAt p a).line := by rw [List.getD, List.getElem?_map, ha]; rfl
  have e2 : (c.places.map fun a => a.inst).getD j 0 = a.inst := by rw [List.getD, List.getElem?_map, ha]; rfl
  rw [e1, e2] at this
  simpa [plcD] using this

theorem frs_acc {L : List EntD} {P : List PlcD} {own : EntD} : ∀ (f : Nat) (a : PlcD) (acc : List FrameD), frs L P own f a acc = acc ++ frs L P own f a []
  | 0, a, acc => rfl
  | f + 1, a, acc => by
    unfold frs
    split
    · rfl
    · rw [frs_acc f _ (acc ++ _), frs_acc f _ ([] ++ _)]
      simp

/-- The frames about the Call that an instance stands for. -/
def abv (p : List FnD) (cs : List CodeD) (c : CodeD) (k : Nat) : List FrameD := if k = 0 then [] else frsD (imgD p cs) (plcD (imgD p cs)) (c.first + (c.tree.getD (k - 1) (0, 0)).2).toNat

section
variable {p : List FnD} {bud : Int} {cs : List CodeD}
theorem frs_fuel {i : Nat} {c : CodeD} {x : FnD} {F : Nat} (hg : GoodLy p i ⟨0, c.places, c.tree⟩) (hP : ∀ (j : Nat) (a : PlD), c.places[j]? = some a → (plcD (imgD p cs))[F + j]? = some ⟨(i : Int), (F : Int), (opAt p a).line, a.inst⟩) :
    ∀ (n f j : Nat) (a : PlD), c.places[j]? = some a → a.inst = (n : Int) → n ≤ f → ∀ acc, frs (imgD p cs) (plcD (imgD p cs)) (entOfD p x c) f ⟨(i : Int), (F : Int), (opAt p a).line, a.inst⟩ acc = frs (imgD p cs) (plcD (imgD p cs)) (entOfD p x c) n ⟨(i : Int), (F : Int), (opAt p a).line, a.inst⟩ acc := by
  intro n
  induction n using Nat.strongRecOn with
  | _ n ih =>
    intro f j a ha hn hf acc
    cases n with
    | zero => rw [frs_zero (by dsimp only; omega), frs_zero (by dsimp only; omega)]
    | succ t =>
      obtain ⟨f, rfl⟩ : ∃ g, f = g + 1 := ⟨f - 1, by omega⟩
      unfold frs
      rw [if_neg (by dsimp only; omega), if_neg (by dsimp only; omega)]
      obtain ⟨k, e1, e2, e3⟩ := hg.inst a (List.mem_of_getElem? ha)
      dsimp only at e2 ⊢
      have htl : t < c.tree.length := by omega
      obtain ⟨nd, hnd⟩ : ∃ nd, c.tree[t]? = some nd := ⟨_, List.getElem?_eq_getElem htl⟩
      obtain ⟨-, pc, b, -, g1, g2, -, g4, -⟩ := hg.node t nd hnd
      dsimp only at g2
      have hgd : (entOfD p x c).tree.getD (a.inst - 1).toNat (0, 0) = nd := by
        show c.tree.getD (a.inst - 1).toNat (0, 0) = nd
        rw [show (a.inst - 1).toNat = t by omega, List.getD, hnd]; rfl
      rw [hgd]
      have hp2 := hP pc b g2
      have hpg : (plcD (imgD p cs)).getD ((F : Int) + nd.2).toNat noP = ⟨(i : Int), (F : Int), (opAt p b).line, b.inst⟩ := by
        rw [g1, show ((F : Int) + (pc : Int)).toNat = F + pc by omega, List.getD, hp2]; rfl
      rw [hpg]
      obtain ⟨k2, q1, -, -⟩ := hg.inst b (List.mem_of_getElem? g2)
      have hk2 : k2 ≤ t := by omega
      rw [ih k2 (by omega) f pc b g2 q1 (by omega), ih k2 (by omega) t pc b g2 q1 hk2]
theorem CG.fr (h : CG p bud cs) {i : Nat} {c : CodeD} (hc : cs[i]? = some c) {j : Nat} {a : PlD} (ha : c.places[j]? = some a) {k : Nat} (hk : a.inst = (k : Int)) {g : Int} (hfk : fnK i c.tree k = some g) :
    frsD (imgD p cs) (plcD (imgD p cs)) (c.first + j).toNat = ⟨(fnAt p g).name, (fnAt p g).file, (opAt p a).line⟩ :: abv p cs c k := by
  obtain ⟨x, F, hx, hL, hF, hg, -, hP⟩ := h.at hc
  have hPa := hP j a ha
  have hgd : (plcD (imgD p cs)).getD (F + j) noP = ⟨(i : Int), (F : Int), (opAt p a).line, a.inst⟩ := by rw [List.getD, hPa]; rfl
  have hown : (imgD p cs).getD ((i : Int)).toNat noE = entOfD p x c := by rw [show ((i : Int)).toNat = i by omega, List.getD, hL]; rfl
  rw [hF, show ((F : Int) + (j : Int)).toNat = F + j by omega]
  unfold frsD
  rw [hgd]
  dsimp only
  rw [hown]
  cases k with
  | zero =>
    unfold fnK at hfk
    rw [if_pos rfl] at hfk
    obtain rfl := Option.some.inj hfk
    rw [frs_zero (by dsimp only; omega)]
    have : fnAt p (i : Int) = x := by unfold fnAt; rw [show ((i : Int)).toNat = i by omega, hx]; rfl
    rw [this]
    rfl
  | succ t =>
    rw [hk, show ((t + 1 : Nat) : Int).toNat = t + 1 by omega]
    unfold frs
    rw [if_neg (by dsimp only; omega)]
    unfold fnK at hfk
    rw [if_neg (by omega), Nat.add_sub_cancel] at hfk
    obtain ⟨nd, hnd⟩ : ∃ nd, c.tree[t]? = some nd := by
      cases hq : c.tree[t]? with
      | none => rw [hq] at hfk; cases hfk
      | some nd => exact ⟨nd, rfl⟩
    rw [hnd] at hfk
    obtain rfl := Option.some.inj hfk
    obtain ⟨g0, pc, b, -, g1, g2, -, g4, -⟩ := hg.node t nd hnd
    dsimp only at g2 ⊢
    have hgt : (entOfD p x c).tree.getD (((t + 1 : Nat) : Int) - 1).toNat (0, 0) = nd := by
      show c.tree.getD (((t + 1 : Nat) : Int) - 1).toNat (0, 0) = nd
      rw [show (((t + 1 : Nat) : Int) - 1).toNat = t by omega, List.getD, hnd]; rfl
    have hp2 := hP pc b g2
    have hpg : (plcD (imgD p cs)).getD ((F : Int) + nd.2).toNat noP = ⟨(i : Int), (F : Int), (opAt p b).line, b.inst⟩ := by
      rw [g1, show ((F : Int) + (pc : Int)).toNat = F + pc by omega, List.getD, hp2]; rfl
    obtain ⟨y, hy⟩ : ∃ y, p[nd.1.toNat]? = some y := ⟨_, List.getElem?_eq_getElem (by omega)⟩
    obtain ⟨d, hd⟩ : ∃ d, cs[nd.1.toNat]? = some d := ⟨_, List.getElem?_eq_getElem (by have := (codesD_bd h.codes).2; omega)⟩
    have hLy : (imgD p cs).getD nd.1.toNat noE = entOfD p y d := by
      have : (imgD p cs)[nd.1.toNat]? = some (entOfD p y d) := by unfold imgD; rw [List.getElem?_zipWith, hy, hd]
      rw [List.getD, this]; rfl
    have hfy : fnAt p nd.1 = y := by unfold fnAt; rw [hy]; rfl
    rw [hgt, hpg, hLy, hfy, frs_acc]
    obtain ⟨k2, q1, -, -⟩ := hg.inst b (List.mem_of_getElem? g2)
    rw [frs_fuel hg hP k2 t pc b g2 q1 (by omega)]
    unfold abv
    rw [if_neg (by omega), Nat.add_sub_cancel, show c.tree.getD t (0, 0) = nd by rw [List.getD, hnd]; rfl, hF, g1, show ((F : Int) + (pc : Int)).toNat = F + pc by omega]
    unfold frsD
    have hgb : (plcD (imgD p cs)).getD (F + pc) noP = ⟨(i : Int), (F : Int), (opAt p b).line, b.inst⟩ := by rw [List.getD, hp2]; rfl
    rw [hgb]
    dsimp only
    rw [hown, q1, show ((k2 : Nat) : Int).toNat = k2 by omega]
    rfl
theorem pcsB_more (n : Int) : ∀ (l : List Int) (pc : Int) (k : Nat), pcsB n (l ++ [pc]) k = (pcsB n l k && decide ((if k + l.length = 0 then 0 else 1) ≤ pc ∧ pc < n + (if k + l.length = 0 then 0 else 1)))
  | [], pc, k => by simp [pcsB]
  | x :: r, pc, k => by
    show (decide _ && pcsB n (r ++ [pc]) (k + 1)) = ((decide _ && pcsB n r (k + 1)) && _)
    rw [pcsB_more n r pc (k + 1), Bool.and_assoc, show k + 1 + r.length = k + (x :: r).length by simp; omega]
/-- A frame's place. -/
theorem CG.place (h : CG p bud cs) {i : Nat} {c : CodeD} (hc : cs[i]? = some c) {x : LiveD} (hw : WfLive p x) {k : Nat} (hk : k ≤ c.tree.length) (hfk : fnK i c.tree k = some x.fn) :
    ∃ a, c.places[placeOf k x.next c.places]? = some a ∧ a.inst = (k : Int) ∧ opAt p a = opOf p x ∧ 0 ≤ c.first ∧ c.first + (placeOf k x.next c.places : Nat) < (plcD (imgD p cs)).length := by
  obtain ⟨y, F, hy, hL, hF, hg, hf, hP⟩ := h.at hc
  obtain ⟨b, hb, h1, h2⟩ := hf k hk x.fn hfk x.next.toNat (by have := hw.next; unfold fnOf at this; omega)
  obtain ⟨a, ha, e1, e2⟩ := placeOf_at (k : Int) x.next c.places ⟨b, hb, h1, by rw [h2]; have := hw.next; omega⟩
  have hfn : a.fn = x.fn := by
    obtain ⟨k', q1, -, q3⟩ := hg.inst a (List.mem_of_getElem? ha)
    have : k' = k := by omega
    subst this
    dsimp only at q3
    rw [hfk] at q3
    exact (Option.some.inj q3).symm
  refine ⟨a, ha, e1, ?_, by omega, ?_⟩
  · unfold opAt opOf fnOf
    rw [hfn, e2]
  · have := (List.getElem?_eq_some_iff.1 (hP _ a ha)).1
    omega
theorem CG.pcs (h : CG p bud cs) : ∀ (r : List LiveD) (x : LiveD) (c0 : CodeD) (k : Nat) (acc : List Int) (i : Nat) (c : CodeD), cs[i]? = some c → codeAt cs x.fn c0 k = c → k ≤ c.tree.length → fnK i c.tree k = some x.fn → (∀ y ∈ x :: r, WfLive p y) →
    (∀ (j : Nat) (y z : LiveD), (x :: r)[j]? = some y → (x :: r)[j + 1]? = some z → (opOf p y).code = 5 ∧ (opOf p y).b = z.fn) →
    ∃ N, pcsF cs ((x :: r).map spot) c0 k acc = acc ++ N ∧ 1 ≤ N.length ∧ N.length ≤ (x :: r).length ∧ pcsB (plcD (imgD p cs)).length N.reverse 0 = true ∧
      symF (imgD p cs) (plcD (imgD p cs)) N.reverse 0 [] = ((x :: r).map (fun y => (⟨(fnOf p y).name, (fnOf p y).file, (opOf p y).line⟩ : FrameD))).reverse ++ abv p cs c k
  | r, x, c0, k, acc, i, c, hc, hcd, hk, hfk, hw, hch => by
    have hwx := hw x (List.mem_cons_self ..)
    obtain ⟨a, ha, hin, hop, hf0, hlt⟩ := h.place hc hwx hk hfk
    have hfr := h.fr hc ha hin hfk
    rw [hop] at hfr
    obtain ⟨J, hJ⟩ : ∃ v, v = placeOf k x.next c.places := ⟨_, rfl⟩
    have es : (spot x).1 = x.fn := rfl
    have es2 : (spot x).2 = x.next := rfl
    rw [List.map_cons]
    unfold pcsF
    rw [es, es2, hcd, ← hJ]
    rw [← hJ] at ha hlt hfr
    match r, hw, hch with
    | [], _, _ =>
      rw [if_pos (by simp)]
      refine ⟨[c.first + J], rfl, by simp, by simp, ?_, ?_⟩
      · simp [pcsB]; omega
      · show [] ++ frsD _ _ (c.first + J - 0).toNat = _
        rw [Int.sub_zero, hfr]
        rfl
    | y :: r, hw, hch =>
      rw [if_neg (by simp)]
      obtain ⟨h5, hb⟩ := hch 0 x y rfl rfl
      have hwy := hw y (by simp)
      by_cases hbg : begunAt (J : Int) c.tree 0 = 0
      · rw [if_pos hbg]
        obtain ⟨d, hd⟩ : ∃ d, cs[y.fn.toNat]? = some d := ⟨_, List.getElem?_eq_getElem (by have := (codesD_bd h.codes).2; have := hwy.fn; omega)⟩
        obtain ⟨N, n1, n2, n3, n4, n5⟩ := h.pcs r y c 0 (acc ++ [c.first + J + 1]) y.fn.toNat d hd (by unfold codeAt; rw [if_pos rfl, hd]; rfl) (Nat.zero_le _) (by unfold fnK; rw [if_pos rfl]; have := hwy.fn; congr 1; omega) (fun z hz => hw z (List.mem_cons_of_mem _ hz)) (fun j u v hu hv => hch (j + 1) u v (by simpa using hu) (by simpa using hv))
        refine ⟨(c.first + J + 1) :: N, by rw [n1]; simp, by simp, by simp at n3 ⊢; omega, ?_, ?_⟩
        · rw [List.reverse_cons, pcsB_more, n4, Nat.zero_add, List.length_reverse, if_neg (by omega), Bool.true_and, decide_eq_true_eq]
          omega
        · rw [List.reverse_cons, symF_app, n5, List.length_reverse, Nat.zero_add]
          have hsh : shiftD N.length = 1 := by unfold shiftD; rw [if_neg (by omega)]
          rw [hsh, show c.first + (J : Int) + 1 - 1 = c.first + J by omega, hfr, List.map_cons (l := y :: r), List.reverse_cons]
          have : abv p cs d 0 = [] := rfl
          rw [this]
          simp [fnOf]
      · rw [if_neg hbg]
        have hex : ∃ nd ∈ c.tree, nd.2 = (J : Int) := by
          refine Classical.byContradiction fun hn => hbg ?_
          have key : ∀ (t : List (Int × Int)) (k : Nat), (∀ nd ∈ t, nd.2 ≠ (J : Int)) → begunAt (J : Int) t k = 0 := by
            intro t
            induction t with
            | nil => intro k _; rfl
            | cons z t ih =>
              intro k hz
              unfold begunAt
              rw [if_neg (hz z (List.mem_cons_self ..))]
              exact ih _ (fun nd hnd => hz nd (List.mem_cons_of_mem _ hnd))
          exact key _ _ (fun nd hnd e => hn ⟨nd, hnd, e⟩)
        obtain ⟨j, nd, b1, b2, b3⟩ := begunAt_at (J : Int) c.tree 0 hex
        have hj := (List.getElem?_eq_some_iff.1 b2).1
        obtain ⟨_, _, _, _, _, hg, _, _⟩ := h.at hc
        obtain ⟨-, pc, aa, bb, g1, g2, -, -, -, -, g7⟩ := hg.node j nd b2
        have hpc : pc = J := by omega
        subst hpc
        dsimp only at g2
        rw [ha] at g2
        cases g2
        rw [hop, hb] at g7
        rw [b1]
        have hfk' : fnK i c.tree (0 + j + 1) = some y.fn := by
          unfold fnK
          rw [if_neg (by omega), show 0 + j + 1 - 1 = j by omega, b2, g7]
          rfl
        obtain ⟨N, n1, n2, n3, n4, n5⟩ := h.pcs r y c (0 + j + 1) acc i c hc (by unfold codeAt; rw [if_neg (by omega)]) (by omega) hfk' (fun z hz => hw z (List.mem_cons_of_mem _ hz)) (fun j u v hu hv => hch (j + 1) u v (by simpa using hu) (by simpa using hv))
        refine ⟨N, n1, n2, by simp at n3 ⊢; omega, n4, ?_⟩
        rw [n5]
        have hab : abv p cs c (0 + j + 1) = ⟨(fnAt p x.fn).name, (fnAt p x.fn).file, (opOf p x).line⟩ :: abv p cs c k := by
          rw [← hfr]
          unfold abv
          rw [if_neg (by omega), show 0 + j + 1 - 1 = j by omega, show c.tree.getD j (0, 0) = nd by rw [List.getD, b2]; rfl, b3]
        rw [hab, List.map_cons (l := y :: r), List.reverse_cons]
        simp [fnOf]
/-- The pcs of a run, read by the image, are its frames. -/
theorem CG.read (h : CG p bud cs) {s : StandD} (hw : Wf p s) (hch : Chn p s.live) : symB (plcD (imgD p cs)).length (pcsD cs s.live) = true ∧ symF (imgD p cs) (plcD (imgD p cs)) (pcsD cs s.live) 0 [] = toldD p s ∧ (pcsD cs s.live).length ≤ s.live.length := by
  unfold pcsD toldD
  cases hl : s.live with
  | nil => exact ⟨rfl, rfl, by simp [pcsF]⟩
  | cons x r =>
    have hwl : ∀ y ∈ x :: r, WfLive p y := fun y hy => hw.live y (by rw [hl]; exact hy)
    have hx := hwl x (List.mem_cons_self ..)
    obtain ⟨c, hc⟩ : ∃ c, cs[x.fn.toNat]? = some c := ⟨_, List.getElem?_eq_getElem (by have := (codesD_bd h.codes).2; have := hx.fn; omega)⟩
    obtain ⟨N, n1, n2, n3, n4, n5⟩ := h.pcs r x noCode 0 [] x.fn.toNat c hc (by unfold codeAt; rw [if_pos rfl, hc]; rfl) (Nat.zero_le _) (by unfold fnK; rw [if_pos rfl]; have := hx.fn; congr 1; omega) hwl (fun j u v hu hv => hch.call j u v (by rw [hl]; exact hu) (by rw [hl]; exact hv))
    rw [n1, List.nil_append]
    have h20 := hw.len
    rw [hl] at h20
    refine ⟨?_, ?_, by rw [List.length_reverse]; exact n3⟩
    · unfold symB
      rw [n4, Bool.and_true, decide_eq_true_eq, List.length_reverse]
      omega
    · rw [n5, show abv p cs c 0 = [] from rfl, List.append_nil, ← List.map_reverse]
end
end Go.Proofs.YthaganponmnanaaGreatDoor
namespace Go.Proofs.YthaganponmnanaaGreatDoor
open Go.RowKit

theorem rd_of_owns8 {w : World} {base n : Nat} {v : Value} {l : List Int} (h : w.ownsRow base 5 1 v n (u8s l)) (hl : l.length = n) : ∃ a cap, v = .slice a n cap ∧ Rd .u8 w a n cap l := by
  rcases h.2 with ⟨rfl, rfl⟩ | ⟨g, cap, cur, rfl, hg, hh, h1, h2, h3, h4⟩
  · exact ⟨none, 0, rfl, ⟨hl, Nat.le_refl _, by unfold maxLen; omega, fun i hi => by omega⟩⟩
  · refine ⟨some ⟨g, 0, none⟩, cap, rfl, ⟨hl, h1, h2, fun i hi => ⟨g, 0, rfl, ?_⟩⟩⟩
    have hc := World.ownsRow.cellAt (w := w) ⟨h.1, .inr ⟨g, cap, cur, rfl, hg, hh, h1, h2, h3, h4⟩⟩ i (by omega)
    rw [Nat.zero_add, hc]
    simp [u8s, List.getD, show i < l.length by omega]

theorem encI_pos (l : List EntD) : 3 ≤ (encI l).length := by unfold encI; simp only [List.length_append, List.length_cons, List.length_nil]; omega

end Go.Proofs.YthaganponmnanaaGreatDoor
