/- Laws on rows of a call's own that hold of any program: an append whose run is known, the capacity behind an append, a copy of elements of whatever size, stores of pairs. Contracts of the reference's Word and within: they give the plain functions wordB and withB; nothing that was there is written. Contracts of the statement's own functions intsOf, sameInts and intsStill: a list of numbers that is handed in with eight marks behind it, and the look whether it stands so still. Contracts of the reference's goodHead and goodCall: they give the plain functions headB and callB; nothing that was there is written. The contract of the reference's goodOp: it gives the plain function opB; nothing that was there is written. The contract of the reference's Check: it gives the plain function chk; nothing that was there is written. What the reference's counted gives, as a plain function, and its contract. Contracts of unfoldref.but and unfoldref.fresh: a frame written anew. -/
import Derived.Test.YtebjndcokkefhaaDoorZ2
import Derived.Deep.DeepMakeLenPanics
import Derived.Deep.QuietTactic
import Derived.BigQuiet
import Derived.Lib.SliceRun
namespace Go.Proofs.YtebjndcokkefhaaDoor
open Go.RowKit

/-- An append whose run is known. -/
theorem wpList_append_run {P : Program} (w : World) {ops : Array Oper} {rest : List Oper} {o : Oper} {a : Act} {Q : Exit → Act → World → Prop} (hgd : o.guard = none) (s x : Operand) (t : TypeId)
    (ho : o.op = .call { callee := .builtin .append, args := #[s, x], argTypes := #[t, t] }) (vs vx : Value) (hs : a.eval s = vs) (hx : a.eval x = vx) (v' : Value) (w' : World)
    (hr : (Builtin.append_ #[t, t] o.type #[vs, vx]).run P w = .ok v' w') (h : wpList P ops Q rest (a.put o.dst v') w') : wpList P ops Q (o :: rest) a w :=
  wpList_plain hgd fun _ hK => by
    unfold Oper.wp execOp
    simp only [ho, resolve, invoke, builtin, Sem.run_bind, Sem.run_pure, Result.andThen_ok, List.map_toArray, List.map_cons, List.map_nil, hs, hx, hr]
    exact hK _ _ h

/-- The tape gives every append that grows, to at most 100,000 elements, a capacity of K or more. -/
def Vast (t : Tape) (K : Nat) : Prop := ∀ d need old e, need ≤ 100000 → K ≤ (Question.appendCap need old e).cut (t d (.appendCap need old e))

/-- A slice that is nil or has a capacity of K or more. -/
def Roomy (K : Nat) (v : Value) : Prop := v = .slice none 0 0 ∨ ∃ a n c, v = .slice a n c ∧ K ≤ c

theorem append_cap {P : Program} (w : World) (base : Nat) (t ty e : TypeId) (i : TypeInfo) (z : Value) (size bytes : Nat) (ht : P.underlying t = some (.slice e)) (hi : P.info? e = some i) (hz : i.zero = some z)
    (hsize : i.size = size) (hby : i.bytes = bytes)
    (v : Value) (n : Nat) (xs : List Value) (hown : w.ownsRow base e size v n xs)
    (a : Addr) (m c : Nat) (news : List Value) (hl : news.length = m * size) (hnews : ∀ j u, news[j]? = some u → w.cell? (a.add j) = some u) (h1 : ∀ u ∈ news, u.oneCell' = true)
    (h63 : n + m ≤ maxLen) (hbytes : (n + m) * bytes ≤ 140737488355328) (hm : 0 < m) (hsmall : n + m ≤ 100000) (K : Nat) (hV : Vast w.tape K) (hR : Roomy K v)
    (v' : Value) (w' : World) (hr : (Builtin.append_ #[t, t] ty #[v, .slice (some a) m c]).run P w = .ok v' w') : ∃ a' c', v' = .slice a' (n + m) c' ∧ K ≤ c' := by
  subst hsize
  subst hby
  have hn63 : n + m ≤ 9223372036854775807 := by simp only [maxLen] at h63; omega
  rcases hown.2 with ⟨rfl, rfl⟩ | ⟨g, cap, cur, rfl, hbg, hg, hnc, hcm, hcs, htake⟩
  · have hr2 := run_append_nil (P := P) w t ty e i z ht hi hz a m c news hl hnews hm (by omega) (by have hb := hbytes; simp only [Nat.zero_add] at hb; omega)
    rw [hr2] at hr
    cases hr
    exact ⟨_, grownCap w m 0 e, by rw [Nat.zero_add], hV _ _ _ _ (by omega)⟩
  · by_cases hroom : n + m ≤ cap
    · have hfit : n * i.size + news.length ≤ cur.size := by rw [hl, hcs, ← Nat.add_mul]; exact Nat.mul_le_mul_right _ hroom
      have hr2 := run_append_room (P := P) w t ty e i ht hi g n cap cur hg a m c news hl hnews h1 hroom hfit
      rw [hr2] at hr
      cases hr
      rcases hR with hR | ⟨a', n', c', hR, hK⟩
      · cases hR
      · cases hR
        exact ⟨_, _, rfl, hK⟩
    · have holds : ∀ j u, xs[j]? = some u → w.cell? ((⟨g, 0, none⟩ : Addr).add j) = some u := hown.cells (g := g) rfl
      have hr2 := run_append_grow (P := P) w t ty e i z ht hi hz ⟨g, 0, none⟩ n cap xs hown.1 holds a m c news hl hnews (by omega) (by omega) (growslice_fits (by omega) hbytes)
      rw [hr2] at hr
      cases hr
      exact ⟨_, _, rfl, hV _ _ _ _ (by omega)⟩

/-- Append onto a row of the call's own, on a vast tape. -/
theorem wpList_append_vast {P : Program} (w : World) {ops : Array Oper} {rest : List Oper} {o : Oper} {a : Act} {Q : Exit → Act → World → Prop} (hgd : o.guard = none) (s x : Operand) (t : TypeId)
    (ho : o.op = .call { callee := .builtin .append, args := #[s, x], argTypes := #[t, t] })
    (base : Nat) (e : TypeId) (i : TypeInfo) (z : Value) (size bytes : Nat) (ht : P.underlying t = some (.slice e)) (hi : P.info? e = some i) (hz : i.zero = some z)
    (hsize : i.size = size) (hby : i.bytes = bytes) (hzs : z.cells.size = size) (hsz : 0 < size)
    (v : Value) (n : Nat) (xs : List Value) (hs : a.eval s = v) (hown : w.ownsRow base e size v n xs)
    (ad : Addr) (m c : Nat) (news : List Value) (hx : a.eval x = .slice (some ad) m c) (hl : news.length = m * size) (hnews : ∀ j u, news[j]? = some u → w.cell? (ad.add j) = some u) (h1 : ∀ u ∈ news, u.oneCell' = true)
    (h63 : n + m ≤ maxLen) (hbytes : (n + m) * bytes ≤ 140737488355328) (hbase : base ≤ w.heap.size) (hm : 0 < m) (hsmall : n + m ≤ 100000) (K : Nat) (hV : Vast w.tape K) (hR : Roomy K v)
    (h : ∀ v' w', w'.ownsRow base e size v' (n + m) (xs ++ news) → w.grownBy w' v.ownBlock → Roomy K v' → wpList P ops Q rest (a.put o.dst v') w') : wpList P ops Q (o :: rest) a w := by
  obtain ⟨v', w', hr, h2, h3, _⟩ := run_append_own (P := P) w base t o.type e i z size bytes ht hi hz hsize hby hzs hsz v n xs hown ad m c news hl hnews h1 h63 hbytes hbase
  obtain ⟨a', c', e1, hK⟩ := append_cap w base t o.type e i z size bytes ht hi hz hsize hby v n xs hown ad m c news hl hnews h1 h63 hbytes hm hsmall K hV hR v' w' hr
  exact wpList_append_run w hgd s x t ho _ _ hs hx v' w' hr (h v' w' h2 h3 (.inr ⟨_, _, _, e1, hK⟩))

/-- copy into the head of a row of the call's own, elements of whatever size. -/
theorem run_copy_wide {P : Program} (w : World) (dT sT ty elem : TypeId) (size : Nat) (g dLen dCap : Nat) (a : Addr) (sLen sCap : Nat) (cur : Array Value) (t : TypeId) (cs : List Value)
    (hu : P.underlying dT = some (.slice elem)) (hs : (P.info? elem).map (·.size) = some size)
    (hg : w.heap[g]? = some (.cells cur t (0, 0))) (hn : cs.length = Nat.min sLen dLen * size)
    (hsrc : ∀ j v, cs[j]? = some v → w.cell? (a.add j) = some v) (hfit : cs.length ≤ cur.size) (h1 : ∀ v ∈ cs, v.oneCell' = true) :
    (Builtin.copy_ #[dT, sT] ty #[.slice (some ⟨g, 0, none⟩) dLen dCap, .slice (some a) sLen sCap]).run P w =
      .ok (goInt (Nat.min sLen dLen)) (w.setRow g (cs ++ cur.toList.drop cs.length).toArray) := by
  have hl := run_loadCells_list (P := P) w a cs hsrc
  have hst := run_storeCells_at P g 0 t cs 0 cur w hg (by simpa using hfit) h1
  cases hq : P.info? elem with
  | none => simp [hq] at hs
  | some i =>
    have hi : i.size = size := by simpa [hq] using hs
    rw [hn] at hl
    simp [Builtin.copy_, run_underlying hu, Builtin.lenOf, Builtin.firstCells, sizeOf, typeInfo, hq, hi, hl]
    simp at hst
    rw [hst]
    simp

theorem wpList_copy_wide {P : Program} {w : World} {ops : Array Oper} {rest : List Oper} {o : Oper} {a : Act} {Q : Exit → Act → World → Prop} (hgd : o.guard = none) (d s : Operand) (dT sT : TypeId)
    (ho : o.op = .call { callee := .builtin .copy, args := #[d, s], argTypes := #[dT, sT] }) (elem : TypeId) (size base : Nat) (hu : P.underlying dT = some (.slice elem)) (hsz : (P.info? elem).map (·.size) = some size)
    (g dLen dCap : Nat) (ad : Addr) (sLen sCap : Nat) (hd : a.eval d = .slice (some ⟨g, 0, none⟩) dLen dCap) (hs : a.eval s = .slice (some ad) sLen sCap)
    (xs : List Value) (hown : w.ownsRow base elem size (.slice (some ⟨g, 0, none⟩) dLen dCap) dLen xs) (cs : List Value) (hn : cs.length = sLen * size) (hle : sLen ≤ dLen)
    (hsrc : ∀ j v, cs[j]? = some v → w.cell? (ad.add j) = some v) (h1 : ∀ v ∈ cs, v.oneCell' = true)
    (h : ∀ w', w'.ownsRow base elem size (.slice (some ⟨g, 0, none⟩) dLen dCap) dLen (cs ++ xs.drop cs.length) → w.grownBy w' (some g) → wpList P ops Q rest (a.put o.dst (goInt sLen)) w') : wpList P ops Q (o :: rest) a w := by
  refine wpList_plain hgd fun K hK => ?_
  rcases hown.2 with ⟨h', _⟩ | ⟨g', cap', cur, h', hb, hg, hnc, hcm, hcs, htake⟩
  · simp at h'
  · simp only [Value.slice.injEq, Option.some.injEq, Addr.mk.injEq, and_true, true_and] at h'
    obtain ⟨rfl, rfl⟩ := h'
    have hmin : Nat.min sLen dLen = sLen := Nat.min_eq_left hle
    have hxl := hown.1
    have hcl : cs.length ≤ dLen * size := by rw [hn]; exact Nat.mul_le_mul_right _ hle
    have hdc : dLen * size ≤ dCap * size := Nat.mul_le_mul_right _ hnc
    have hrun := run_copy_wide (P := P) w dT sT o.type elem size g dLen dCap ad sLen sCap cur elem cs hu hsz hg (by rw [hmin]; exact hn) hsrc (by omega) h1
    rw [hmin] at hrun
    unfold Oper.wp
    simp [execOp, ho, resolve, invoke, builtin, hd, hs, hrun, Result.andThen]
    refine hK _ _ (h _ ⟨?_, .inr ⟨g, dCap, _, rfl, hb, setRow_heap w g cur _ elem _ hg, hnc, hcm, ?_, ?_⟩⟩ ⟨rfl, rfl, rfl, by simp, fun k _ hk => setRow_other w g k _ (fun e => hk (by simp [e]))⟩)
    · rw [List.length_append, List.length_drop]; omega
    · simp only [List.size_toArray, List.length_append, List.length_drop, Array.length_toList]; omega
    · rw [← htake]
      simp only [List.take_append, List.drop_take]
      rw [List.take_of_length_le hcl]

theorem flat_get' : ∀ (l : List (Int × Int)) (i : Nat), i < l.length → (flat l)[i * 2]? = some (.int .i64 (l.getD i (0, 0)).1) ∧ (flat l)[i * 2 + 1]? = some (.int .i64 (l.getD i (0, 0)).2)
  | [], i, h => by simp at h
  | p :: t, 0, _ => by simp [flat]
  | p :: t, i + 1, h => by
    have := flat_get' t i (by simpa using h)
    have e : flat (p :: t) = Value.int .i64 p.1 :: Value.int .i64 p.2 :: flat t := by simp [flat]
    have e1 : (i + 1) * 2 = i * 2 + 1 + 1 := by omega
    rw [e, e1]
    simpa using this

theorem flat_set_at : ∀ (l : List (Int × Int)) (i : Nat) (x y : Int), i < l.length → ((flat l).set (i * 2) (.int .i64 x)).set (i * 2 + 1) (.int .i64 y) = flat (l.set i (x, y))
  | [], i, _, _, h => by simp at h
  | p :: t, 0, x, y, _ => by simp [flat]
  | p :: t, i + 1, x, y, h => by
    have ih := flat_set_at t i x y (by simpa using h)
    have e : flat (p :: t) = Value.int .i64 p.1 :: Value.int .i64 p.2 :: flat t := by simp [flat]
    have e1 : (i + 1) * 2 = i * 2 + 1 + 1 := by omega
    rw [e, e1]
    simp only [List.set_cons_succ]
    rw [ih]
    simp [flat]
theorem flat_append (l m : List (Int × Int)) : flat (l ++ m) = flat l ++ flat m := by simp [flat]
theorem flat_one (l : List (Int × Int)) : ∀ u ∈ flat l, u.oneCell' = true := by
  intro u hu
  obtain ⟨p, _, hu⟩ := List.mem_flatMap.1 hu
  simp at hu
  rcases hu with rfl | rfl <;> rfl
theorem RdS.src {w : World} {b off len cap : Nat} {l : List (Int × Int)} (h : RdS w (some ⟨b, off, none⟩) len cap l) : ∀ j v, (flat l)[j]? = some v → w.cell? ((⟨b, off, none⟩ : Addr).add j) = some v := by
  intro j v hj
  have hlt : j < (flat l).length := by
    rcases Nat.lt_or_ge j (flat l).length with h | h
    · exact h
    · rw [List.getElem?_eq_none h] at hj; cases hj
  rw [flat_len, h.hlen] at hlt
  have e1 : (⟨b, off, none⟩ : Addr).add j = ⟨b, off + j, none⟩ := by unfold Addr.add; split <;> simp_all
  rw [e1]
  obtain ⟨b', off', e, hc1, hc2⟩ := h.cell (j / 2) (by omega)
  cases e
  have hg := fun (i : Nat) (hi : i < l.length) => flat_get' l i hi
  rcases Nat.mod_two_eq_zero_or_one j with hm | hm
  · have ej : j = j / 2 * 2 := by omega
    rw [ej] at hj ⊢
    rw [(hg (j / 2) (by rw [h.hlen]; omega)).1] at hj
    cases hj
    exact hc1
  · have ej : j = j / 2 * 2 + 1 := by omega
    rw [ej] at hj ⊢
    rw [(hg (j / 2) (by rw [h.hlen]; omega)).2] at hj
    cases hj
    rw [← Nat.add_assoc]
    exact hc2
end Go.Proofs.YtebjndcokkefhaaDoor
namespace Go.Proofs.YtebjndcokkefhaaDoor
open Go.RowKit

theorem letter_eq : letterL = (#[97, 98, 99, 100, 101, 102, 103, 104, 105, 106, 107, 108, 109, 110, 111, 112, 113, 114, 115, 116, 117, 118, 119, 120, 121, 122, 48, 49, 50, 51, 52, 53, 54, 55, 56, 57, 46, 47] : Array UInt8).toList.map fun c => (c.toNat : Int) := by decide
theorem let_step (m : Nat) (hm : m < 38) (c : Int) (h : false = (letterL.take m).any fun x => x == c) (hh : m < (ByteArray.mk #[97, 98, 99, 100, 101, 102, 103, 104, 105, 106, 107, 108, 109, 110, 111, 112, 113, 114, 115, 116, 117, 118, 119, 120, 121, 122, 48, 49, 50, 51, 52, 53, 54, 55, 56, 57, 46, 47]).size) :
    ((((ByteArray.mk #[97, 98, 99, 100, 101, 102, 103, 104, 105, 106, 107, 108, 109, 110, 111, 112, 113, 114, 115, 116, 117, 118, 119, 120, 121, 122, 48, 49, 50, 51, 52, 53, 54, 55, 56, 57, 46, 47])[m]'hh).toNat : Int) == c) = (letterL.take (m + 1)).any fun x => x == c := by
  have hl : letterL.length = 38 := rfl
  rw [List.take_succ_eq_append_getElem (by omega), List.any_append, ← h, Bool.false_or]
  simp only [List.any_cons, List.any_nil, Bool.or_false]
  have e : letterL[m]? = some ((((ByteArray.mk #[97, 98, 99, 100, 101, 102, 103, 104, 105, 106, 107, 108, 109, 110, 111, 112, 113, 114, 115, 116, 117, 118, 119, 120, 121, 122, 48, 49, 50, 51, 52, 53, 54, 55, 56, 57, 46, 47])[m]'hh).toNat : Int)) := by
    rw [letter_eq, List.getElem?_map, Array.getElem?_toList]
    have : (#[97, 98, 99, 100, 101, 102, 103, 104, 105, 106, 107, 108, 109, 110, 111, 112, 113, 114, 115, 116, 117, 118, 119, 120, 121, 122, 48, 49, 50, 51, 52, 53, 54, 55, 56, 57, 46, 47] : Array UInt8)[m]? = some ((ByteArray.mk #[97, 98, 99, 100, 101, 102, 103, 104, 105, 106, 107, 108, 109, 110, 111, 112, 113, 114, 115, 116, 117, 118, 119, 120, 121, 122, 48, 49, 50, 51, 52, 53, 54, 55, 56, 57, 46, 47])[m]'hh) := Array.getElem?_eq_getElem hh
    rw [this]; rfl
  have e2 : letterL[m]'(by omega) = ((((ByteArray.mk #[97, 98, 99, 100, 101, 102, 103, 104, 105, 106, 107, 108, 109, 110, 111, 112, 113, 114, 115, 116, 117, 118, 119, 120, 121, 122, 48, 49, 50, 51, 52, 53, 54, 55, 56, 57, 46, 47])[m]'hh).toNat : Int)) := by
    have := List.getElem?_eq_getElem (l := letterL) (i := m) (by omega)
    rw [this] at e
    exact Option.some.inj e
  rw [e2]
theorem let_true (m : Nat) (c : Int) (h : true = (letterL.take m).any fun x => x == c) (hm : m < 38) : true = (letterL.take (m + 1)).any fun x => x == c := by
  have hl : letterL.length = 38 := rfl
  rw [List.take_succ_eq_append_getElem (by omega), List.any_append, ← h, Bool.true_or]
end Go.Proofs.YtebjndcokkefhaaDoor
namespace Go.Proofs.YtebjndcokkefhaaDoor
open Go.RowKit

theorem Tryd.infoInt : (Tryd.prog.info? 3).map (fun i => (i.zero, i.size, i.bytes)) = some (some (.int .i64 0), 1, 8) := by kernel_rfl
theorem Tryd.infoInt1 : (Tryd.prog.info? 3).map (·.size) = some 1 := by kernel_rfl

def ints (l : List Int) : List Value := l.map (Value.int .i64)
theorem ints_len (l : List Int) : (ints l).length = l.length := by simp [ints]
theorem ints_get (l : List Int) (i : Nat) (h : i < l.length) : (ints l)[i]? = some (.int .i64 (l.getD i 0)) := by simp [ints, List.getD, h]
theorem ints_set (l : List Int) (i : Nat) (x : Int) : (ints l).set i (.int .i64 x) = ints (l.set i x) := by simp [ints]
theorem ints_one (l : List Int) : ∀ u ∈ ints l, u.oneCell' = true := by
  intro u hu
  obtain ⟨x, _, rfl⟩ := List.mem_map.1 hu
  rfl

/-- The numbers of a list that is handed in, behind k of its eight marks. -/
def markI (l : List Int) (k : Nat) : List Int := l ++ (List.replicate k 77 ++ List.replicate (8 - k) 0)
theorem markI_len (l : List Int) (k : Nat) (h : k ≤ 8) : (markI l k).length = l.length + 8 := by simp [markI]; omega
theorem markI_set (l : List Int) (k : Nat) (h : k < 8) : (markI l k).set (l.length + k) 77 = markI l (k + 1) := by
  unfold markI
  rw [List.set_append_right _ _ (by omega), Nat.add_sub_cancel_left, List.set_append_right _ _ (by simp), List.length_replicate, Nat.sub_self]
  obtain ⟨m, hm⟩ : ∃ m, 8 - k = m + 1 := ⟨8 - k - 1, by omega⟩
  have hm2 : 8 - (k + 1) = m := by omega
  rw [hm, hm2, List.replicate_succ, List.set_cons_zero, List.replicate_succ']
  simp
theorem markI_at (l : List Int) (k : Nat) (h : k < 8) : (markI l 8).getD (l.length + k) 0 = 77 := by
  unfold markI
  simp only [List.getD]
  rw [List.getElem?_append_right (by omega), Nat.add_sub_cancel_left, List.getElem?_append_left (by simpa using h), List.getElem?_replicate_of_lt h]
  rfl
theorem markI_old (l : List Int) (i : Nat) (h : i < l.length) : (markI l 8).getD i 0 = l.getD i 0 := by
  unfold markI
  simp only [List.getD]
  rw [List.getElem?_append_left h]

theorem made_ints (n : Nat) : (madeCells (Value.int .i64 0).cells (n * 1)).toList = ints (List.replicate n 0) := by
  rw [Nat.mul_one, show (Value.int .i64 0).cells = #[Value.int .i64 0] from rfl, toList_madeCells_one]
  simp [ints]

theorem Rd.src {w : World} {b off len cap : Nat} {l : List Int} (h : Rd .i64 w (some ⟨b, off, none⟩) len cap l) : ∀ j v, (ints l)[j]? = some v → w.cell? ((⟨b, off, none⟩ : Addr).add j) = some v := by
  intro j v hj
  have hlt : j < (ints l).length := by
    rcases Nat.lt_or_ge j (ints l).length with h | h
    · exact h
    · rw [List.getElem?_eq_none h] at hj; cases hj
  rw [ints_len] at hlt
  rw [ints_get l j hlt] at hj
  cases hj
  have e1 : (⟨b, off, none⟩ : Addr).add j = ⟨b, off + j, none⟩ := by unfold Addr.add; split <;> simp_all
  rw [e1]
  obtain ⟨_, _, e, hc⟩ := h.cell j (by rw [← h.hlen]; exact hlt)
  cases e
  exact hc

/-- A list of numbers, made to be handed in. -/
def HdI (w : World) (base : Nat) (a : Option Addr) (l : List Int) (hv : Value) : Prop :=
  (a = none ∧ l = [] ∧ hv = .slice none 0 0) ∨
  (a ≠ none ∧ ∃ g, hv = .slice (some ⟨g, 0, none⟩) l.length (l.length + 8) ∧ w.ownsRow base 3 1 (.slice (some ⟨g, 0, none⟩) (l.length + 8) (l.length + 8)) (l.length + 8) (ints (markI l 8)))

theorem HdI.below {w w' : World} {base : Nat} {a : Option Addr} {l : List Int} {hv : Value} (h : HdI w base a l hv) (hb : Below w.heap.size w w') : HdI w' base a l hv := by
  rcases h with h | ⟨h1, g, e, ho⟩
  · exact .inl h
  · exact .inr ⟨h1, g, e, owns_below ho hb⟩
theorem owns_lower {w : World} {base base' : Nat} {e : TypeId} {size : Nat} {v : Value} {n : Nat} {xs : List Value} (h : w.ownsRow base e size v n xs) (hb : base' ≤ base) : w.ownsRow base' e size v n xs := by
  refine ⟨h.1, ?_⟩
  rcases h.2 with hn | ⟨g, cap, cur, hv, hg, r⟩
  · exact .inl hn
  · exact .inr ⟨g, cap, cur, hv, Nat.le_trans hb hg, r⟩
theorem HdI.lower {w : World} {base base' : Nat} {a : Option Addr} {l : List Int} {hv : Value} (h : HdI w base a l hv) (hb : base' ≤ base) : HdI w base' a l hv := by
  rcases h with h | ⟨h1, g, e, ho⟩
  · exact .inl h
  · exact .inr ⟨h1, g, e, owns_lower ho hb⟩
/-- What is handed in reads as the list that it was made of. -/
theorem HdI.read {w : World} {base : Nat} {a : Option Addr} {l : List Int} {hv : Value} (h : HdI w base a l hv) : ∃ a' cap, hv = .slice a' l.length cap ∧ Rd .i64 w a' l.length cap l := by
  rcases h with ⟨_, rfl, rfl⟩ | ⟨_, g, rfl, ho⟩
  · exact ⟨none, 0, rfl, rfl, Nat.le_refl _, by unfold maxLen; omega, fun i hi => by simp at hi⟩
  · have hml := markI_len l 8 (by omega)
    have hcm : l.length + 8 ≤ maxLen := by
      rcases ho.2 with ⟨h', _⟩ | ⟨g', cap', cur, h', _, _, _, hcm, _⟩
      · cases h'
      · cases h'; exact hcm
    refine ⟨_, _, rfl, rfl, by omega, hcm, fun i hi => ⟨g, 0, rfl, ?_⟩⟩
    have := ho.cellAt i (by omega)
    rw [ints_get _ i (by omega), markI_old l i hi] at this
    rw [Nat.zero_add]
    exact this

end Go.Proofs.YtebjndcokkefhaaDoor
namespace Go.Proofs.YtebjndcokkefhaaDoor
open Go.RowKit

theorem RdL.len {α : Type} {size : Nat} {R : World → List Value → α → Prop} {w : World} {a : Option Addr} {len cap : Nat} {l : List α} (h : RdL size R w a len cap l) : l.length = len := h.1

/-- One function of a program, as it lies in memory. -/
theorem RdP.at {w : World} {a : Option Addr} {len cap : Nat} {p : List FnD} (h : RdP w a len cap p) (i : Nat) (x : FnD) (hx : p[i]? = some x) :
    ∃ b off ba bcap, a = some ⟨b, off, none⟩ ∧ b < w.heap.size ∧ w.cell? ⟨b, off + i * 5, none⟩ = some (.string x.name) ∧ w.cell? ⟨b, off + i * 5 + 1, none⟩ = some (.string x.file) ∧
      w.cell? ⟨b, off + i * 5 + 2, none⟩ = some (.int .i64 x.params) ∧ w.cell? ⟨b, off + i * 5 + 3, none⟩ = some (.int .i64 x.locals) ∧
      w.cell? ⟨b, off + i * 5 + 4, none⟩ = some (.slice ba x.body.length bcap) ∧ RdL 6 RdOp w ba x.body.length bcap x.body ∧ x.name.size ≤ maxLen ∧ x.file.size ≤ maxLen := by
  obtain ⟨b, off, cs, e, hl, hc, ba, bcap, rfl, hr, h1, h2⟩ := h.2.2.2 i x hx
  have c0 := hc 0 _ rfl
  exact ⟨b, off, ba, bcap, e, World.block_lt_of_cell? w _ c0, c0, hc 1 _ rfl, hc 2 _ rfl, hc 3 _ rfl, hc 4 _ rfl, hr, h1, h2⟩

theorem any_take_succ {α : Type} (l : List α) (k : Nat) (x : α) (q : α → Bool) (h : l[k]? = some x) : (l.take (k + 1)).any q = ((l.take k).any q || q x) := by
  obtain ⟨hk, e⟩ := List.getElem?_eq_some_iff.1 h
  rw [List.take_succ_eq_append_getElem hk, List.any_append, e]
  simp
theorem all_take_succ {α : Type} (l : List α) (k : Nat) (x : α) (q : α → Bool) (h : l[k]? = some x) : (l.take (k + 1)).all q = ((l.take k).all q && q x) := by
  obtain ⟨hk, e⟩ := List.getElem?_eq_some_iff.1 h
  rw [List.take_succ_eq_append_getElem hk, List.all_append, e]
  simp

theorem callB_no (p : List FnD) (locals : Int) (o : OpD) (h : withB o.b p.length = false) : callB p locals o = false := by unfold callB; rw [h]; rfl

end Go.Proofs.YtebjndcokkefhaaDoor
namespace Go.Proofs.YtebjndcokkefhaaDoor
open Go.RowKit

/-- One op of a body, as it lies in memory. -/
theorem RdL.opAt {w : World} {a : Option Addr} {len cap : Nat} {l : List OpD} (h : RdL 6 RdOp w a len cap l) (i : Nat) (o : OpD) (ho : l[i]? = some o) :
    ∃ b off aa acap, a = some ⟨b, off, none⟩ ∧ b < w.heap.size ∧ w.cell? ⟨b, off + i * 6, none⟩ = some (.int .i64 o.code) ∧ w.cell? ⟨b, off + i * 6 + 1, none⟩ = some (.int .i64 o.line) ∧
      w.cell? ⟨b, off + i * 6 + 2, none⟩ = some (.int .i64 o.a) ∧ w.cell? ⟨b, off + i * 6 + 3, none⟩ = some (.int .i64 o.b) ∧ w.cell? ⟨b, off + i * 6 + 4, none⟩ = some (.int .i64 o.c) ∧
      w.cell? ⟨b, off + i * 6 + 5, none⟩ = some (.slice aa o.args.length acap) ∧ Rd .i64 w aa o.args.length acap o.args := by
  obtain ⟨b, off, cs, e, hl, hc, aa, acap, rfl, hr⟩ := h.2.2.2 i o ho
  have c0 := hc 0 _ rfl
  exact ⟨b, off, aa, acap, e, World.block_lt_of_cell? w _ c0, c0, hc 1 _ rfl, hc 2 _ rfl, hc 3 _ rfl, hc 4 _ rfl, hc 5 _ rfl, hr⟩

end Go.Proofs.YtebjndcokkefhaaDoor
namespace Go.Proofs.YtebjndcokkefhaaDoor
open Go.RowKit

theorem chkB_at (p : List FnD) (x : FnD) (f s : Nat) (o : OpD) (h : x.body[s]? = some o) : chkB p x f (x.body.drop s) s = if opB p x s o = true then chkB p x f (x.body.drop (s + 1)) (s + 1) else some (7, (f : Int), (s : Int)) := by
  obtain ⟨hs, e⟩ := List.getElem?_eq_some_iff.1 h
  rw [List.drop_eq_getElem_cons hs, e]
  rfl
theorem chkF_at (p : List FnD) (f : Nat) (x : FnD) (h : p[f]? = some x) : chkF p (p.drop f) f = if headB p f x = true then (match chkB p x f x.body 0 with | some e => e | none => chkF p (p.drop (f + 1)) (f + 1)) else (6, (f : Int), 0) := by
  obtain ⟨hf, e⟩ := List.getElem?_eq_some_iff.1 h
  rw [List.drop_eq_getElem_cons hf, e]
  rfl

theorem ret_chk {q : Int × Int × Int} {a b c : Int} (h : q = (a, b, c)) : Ending.returned (.tuple #[.int .i64 a, .int .i64 b, .int .i64 c]) = .returned (.tuple #[.int .i64 q.1, .int .i64 q.2.1, .int .i64 q.2.2]) := by rw [h]

end Go.Proofs.YtebjndcokkefhaaDoor
namespace Go.Proofs.YtebjndcokkefhaaDoor
open Go.RowKit

/-- What Add, Sub, Div give, of numbers below 1000. -/
def cnt (code x y : Int) : Int := if code = 3 then x / y else if code = 2 then (x - y) % 1000 else (x + y) % 1000

theorem cnt_div (x y n : Int) (hy : 0 < y) (h1 : n * y ≤ x) (h2 : ¬ (n + 1) * y ≤ x) : cnt 3 x y = n := by
  unfold cnt
  rw [if_pos rfl]
  have a1 : n ≤ x / y := (Int.le_ediv_iff_mul_le hy).2 h1
  have a2 : x / y < n + 1 := (Int.ediv_lt_iff_lt_mul hy).2 (by omega)
  omega

end Go.Proofs.YtebjndcokkefhaaDoor
namespace Go.Proofs.YtebjndcokkefhaaDoor
open Go.RowKit

/-- A frame. -/
structure LiveD where
  fn : Int
  next : Int
  locals : List Int

def RdLive (w : World) (cs : List Value) (x : LiveD) : Prop :=
  ∃ a cap, cs = [.int .i64 x.fn, .int .i64 x.next, .slice a x.locals.length cap] ∧ Rd .i64 w a x.locals.length cap x.locals

theorem RdLive.below {w w' : World} {cs : List Value} {x : LiveD} (h : RdLive w cs x) (hb : Below w.heap.size w w') : RdLive w' cs x := by
  obtain ⟨a, cap, e, hr⟩ := h
  exact ⟨a, cap, e, hr.below hb (Nat.le_refl _)⟩

theorem rd_of_ints {w : World} {base g n : Nat} {l : List Int} (h : w.ownsRow base 3 1 (.slice (some ⟨g, 0, none⟩) n n) n (ints l)) (hl : l.length = n) (hm : n ≤ maxLen) : Rd .i64 w (some ⟨g, 0, none⟩) n n l := by
  refine ⟨hl, Nat.le_refl _, hm, fun i hi => ⟨g, 0, rfl, ?_⟩⟩
  have := h.cellAt i (by omega)
  rw [ints_get l i (by omega)] at this
  rw [Nat.zero_add]
  exact this

theorem Rd.setOther {w : World} {g off len cap : Nat} {l : List Int} (h : Rd .i64 w (some ⟨g, off, none⟩) len cap l) {b : Nat} (hb : g ≠ b) (j : Nat) (u : Value) : Rd .i64 (w.setCell ⟨b, j, none⟩ u) (some ⟨g, off, none⟩) len cap l := by
  refine ⟨h.hlen, h.hcap, h.hmax, fun i hi => ?_⟩
  obtain ⟨b', o', e, hc⟩ := h.cell i hi
  cases e
  refine ⟨g, off, rfl, ?_⟩
  rw [← hc]
  simp only [World.cell?]
  rw [Below.heap_setCell _ _ _ _ (by exact hb)]

/-- The locals of a frame that begins: the arguments, and noughts. -/
def fillI (args : List Int) (n j : Nat) : List Int := args.take j ++ List.replicate (n - j) 0

theorem fillI_len (args : List Int) (n j : Nat) (h : j ≤ args.length) (hn : args.length ≤ n) : (fillI args n j).length = n := by
  simp [fillI]; omega
theorem fillI_set (args : List Int) (n j : Nat) (h : j < args.length) (hn : args.length ≤ n) : (fillI args n j).set j (args.getD j 0) = fillI args n (j + 1) := by
  unfold fillI
  rw [List.set_append_right _ _ (by simp; omega)]
  have e : j - (args.take j).length = 0 := by simp; omega
  have e2 : n - j = (n - (j + 1)) + 1 := by omega
  rw [e, e2, List.replicate_succ, List.set_cons_zero, List.take_succ_eq_append_getElem h, List.append_assoc]
  simp [List.getD, h]

end Go.Proofs.YtebjndcokkefhaaDoor
