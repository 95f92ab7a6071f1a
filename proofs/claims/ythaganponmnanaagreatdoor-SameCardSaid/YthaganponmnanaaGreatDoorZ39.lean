/- Rows of functions whose bodies are being made: what lies where. Contract of the developers' image.placesOf. Contracts of the developers' image.shift, pcsMayBe, frameOf and placesOf. -/
import Derived.Test.YthaganponmnanaaGreatDoorZ38
import Derived.Test.YthaganponmnanaaGreatDoorZ19
import Derived.Test.YthaganponmnanaaGreatDoorZ12
namespace Go.Proofs.YthaganponmnanaaGreatDoor
open Go.RowKit

theorem owns_alike {w W : World} {base : Nat} {e : TypeId} {size : Nat} {v : Value} {n : Nat} {xs : List Value} (h : w.ownsRow base e size v n xs) (hW : ∀ b, v.ownBlock = some b → W.heap[b]? = w.heap[b]?) : W.ownsRow base e size v n xs := by
  refine ⟨h.1, ?_⟩
  rcases h.2 with h2 | ⟨g, cap, cur, h1, h2, h3, h4⟩
  · exact .inl h2
  · exact .inr ⟨g, cap, cur, h1, h2, (hW g (by rw [h1]; rfl)).trans h3, h4⟩
theorem RdBut.rdW {α : Type} {size : Nat} {R : World → List Value → α → Prop} {e : TypeId} {L : Nat → Prop} {w W : World} {base : Nat} {a : Option Addr} {n cap : Nat} {css : List (List Value)} {l : List α} (he : RdBut size R L w css l) (hW : ∀ b, b < w.heap.size → ¬ L b → W.heap[b]? = w.heap[b]?)
    (hn : l.length = n) (h : W.ownsRow base e size (.slice a n cap) n css.flatten) : RdL size R W a n cap l := by
  have h5 := he.all
  subst hn
  rcases h.2 with ⟨h1, h0⟩ | ⟨g, cap', cur, h1, hg, hh, h2, h3, h4, h6⟩
  · injection h1 with h1 h1' h1''
    subst h1 h1''
    refine ⟨rfl, by omega, by unfold maxLen; omega, fun i x hx => ?_⟩
    have : l = [] := List.length_eq_zero_iff.1 h0
    rw [this] at hx; simp at hx
  · injection h1 with h1 h1' h1''
    subst h1 h1''
    refine ⟨rfl, h2, h3, fun i x hx => ?_⟩
    have hi : i < l.length := (List.getElem?_eq_some_iff.1 hx).1
    obtain ⟨cs, hcs⟩ : ∃ cs, css[i]? = some cs := ⟨_, List.getElem?_eq_getElem (by rw [he.1]; exact hi)⟩
    have hE := he.2 i cs x hcs hx
    refine ⟨g, 0, cs, rfl, h5 cs (List.mem_of_getElem? hcs), fun j v hj => ?_, hE.2 W hW⟩
    have hjl : j < size := by have := (List.getElem?_eq_some_iff.1 hj).1; rw [h5 cs (List.mem_of_getElem? hcs)] at this; exact this
    have hlt : i * size + j < l.length * size := by
      have : (i + 1) * size ≤ l.length * size := Nat.mul_le_mul_right _ hi
      rw [Nat.add_mul] at this
      omega
    rw [Nat.zero_add, h.cellAt (i * size + j) hlt]
    exact flatten_at h5 i j cs v hcs hj

/-- The cells of functions that are done, and of the heads that are left. -/
def rowF (css : List (List Value)) (l : List FnD) (k : Nat) : List (List Value) := css ++ (l.drop k).map fun x => fnC x (.slice none 0 0)
theorem rowF_all {css : List (List Value)} {l : List FnD} {k : Nat} (h : ∀ c ∈ css, c.length = 5) : ∀ c ∈ rowF css l k, c.length = 5 := by
  intro c hc
  rcases List.mem_append.1 hc with h' | h'
  · exact h c h'
  · obtain ⟨x, -, rfl⟩ := List.mem_map.1 h'
    rfl
theorem rowF_at {css : List (List Value)} {l : List FnD} {k : Nat} {x : FnD} (h : css.length = k) (hx : l[k]? = some x) : (rowF css l k)[k]? = some (fnC x (.slice none 0 0)) := by
  unfold rowF
  rw [List.getElem?_append_right (by omega), List.getElem?_map, List.getElem?_drop, h, show k + (k - k) = k by omega, hx]
  rfl
theorem rowF_new {css : List (List Value)} {l : List FnD} {k : Nat} {x : FnD} (h : css.length = k) (hx : l[k]? = some x) (bv : Value) : (rowF css l k).set k (fnC x bv) = rowF (css ++ [fnC x bv]) l (k + 1) := by
  obtain ⟨hk, he⟩ := List.getElem?_eq_some_iff.1 hx
  unfold rowF
  rw [List.drop_eq_getElem_cons hk, List.map_cons, List.set_append_right _ _ (by omega), h, Nat.sub_self, List.set_cons_zero, List.append_assoc]
  rfl
/-- A body is laid into its function. -/
theorem rowF_store {w : World} {base lb lcap k n : Nat} {l : List FnD} {css : List (List Value)} {x : FnD} (hrow : w.ownsRow base 44 5 (.slice (some ⟨lb, 0, none⟩) n lcap) n (rowF css l k).flatten)
    (h5 : ∀ c ∈ css, c.length = 5) (hc : css.length = k) (hx : l[k]? = some x) (bv : Value) : (w.setCell ⟨lb, k * 5 + 4, none⟩ bv).ownsRow base 44 5 (.slice (some ⟨lb, 0, none⟩) n lcap) n (rowF (css ++ [fnC x bv]) l (k + 1)).flatten := by
  have h := (hrow.stored (k * 5 + 4) bv).1
  have hlen : k < (rowF css l k).length := (List.getElem?_eq_some_iff.1 (rowF_at hc hx)).1
  rw [flatten_set 5 _ k 4 bv (rowF_all h5) hlen (by omega)] at h
  have e : ((rowF css l k).getD k []).set 4 bv = fnC x bv := by
    rw [List.getD, rowF_at hc hx]
    rfl
  rw [e, rowF_new hc hx] at h
  exact h

theorem rdHd_row {w : World} {base lb lcap k : Nat} {l q : List FnD} {css : List (List Value)} {L : Nat → Prop} (hrow : w.ownsRow base 44 5 (.slice (some ⟨lb, 0, none⟩) l.length lcap) l.length (rowF css l k).flatten)
    (hq : q.length = k) (hb : RdBut 5 RdFn L w css q) (hs : ∀ (f : Nat) (x y : FnD), q[f]? = some x → l[f]? = some y → SameHead x y) : RdHd w (some ⟨lb, 0, none⟩) lcap l := by
  have hcap : l.length ≤ lcap ∧ lcap ≤ maxLen := by
    rcases hrow.2 with ⟨h1, _⟩ | ⟨g, cap, cur, h1, _, _, h2, h3, _⟩
    · cases h1
    · cases h1; exact ⟨h2, h3⟩
  refine ⟨hcap.1, hcap.2, fun i y hy => ⟨lb, 0, rfl, ?_⟩⟩
  have hi := (List.getElem?_eq_some_iff.1 hy).1
  have hcl : css.length = k := by rw [hb.1, hq]
  obtain ⟨c, hc, h2, h3⟩ : ∃ c, (rowF css l k)[i]? = some c ∧ c[2]? = some (.int .i64 y.params) ∧ c[3]? = some (.int .i64 y.locals) := by
    unfold rowF
    rcases Nat.lt_or_ge i k with hik | hik
    · rw [List.getElem?_append_left (by omega)]
      obtain ⟨c, hc⟩ : ∃ c, css[i]? = some c := ⟨_, List.getElem?_eq_getElem (by omega)⟩
      obtain ⟨x, hx⟩ : ∃ x, q[i]? = some x := ⟨_, List.getElem?_eq_getElem (by omega)⟩
      obtain ⟨a, cap, e, -⟩ := (hb.2 i c x hc hx).2 w (fun _ _ _ => rfl)
      obtain ⟨-, -, e3, e4⟩ := hs i x y hx hy
      exact ⟨c, hc, by rw [e, ← e3]; rfl, by rw [e, ← e4]; rfl⟩
    · rw [List.getElem?_append_right (by omega), List.getElem?_map, List.getElem?_drop, hcl, show k + (i - k) = i by omega, hy]
      exact ⟨_, rfl, rfl, rfl⟩
  have h5 := rowF_all (l := l) (k := k) hb.all
  have e2 := hrow.cellAt (i * 5 + 2) (by omega)
  have e3 := hrow.cellAt (i * 5 + 3) (by omega)
  rw [flatten_at h5 i 2 c _ hc h2] at e2
  rw [flatten_at h5 i 3 c _ hc h3] at e3
  rw [Nat.zero_add]
  exact ⟨e2, e3⟩

/-- The ops of a body that are done: the last of rn is a Ret. -/
def OpsFit (l : List FnD) (locals : Int) (rn first : Nat) (xs : List OpD) : Prop := ∀ (i : Nat) (o : OpD), xs[i]? = some o → if i + 1 = rn then o.code = 6 ∧ (1 ≤ o.line ∧ o.line ≤ 9999) ∧ withB o.a locals = true else OpFit l locals rn first o
theorem OpsFit.snoc {l : List FnD} {locals : Int} {rn first : Nat} {xs : List OpD} {o : OpD} (h : OpsFit l locals rn first xs) (ho : if xs.length + 1 = rn then o.code = 6 ∧ (1 ≤ o.line ∧ o.line ≤ 9999) ∧ withB o.a locals = true else OpFit l locals rn first o) : OpsFit l locals rn first (xs ++ [o]) := fun i y hi => by
  rcases getElem?_snoc hi with h' | ⟨rfl, rfl⟩
  · exact h i y h'
  · exact ho
/-- Functions that are done. -/
def FnsFit (l : List FnD) (ops : Nat) (ahead : Bool) (q : List FnD) : Prop := ∀ (f : Nat) (x y : FnD), q[f]? = some x → l[f]? = some y → SameHead x y ∧ FnFit l ops ahead f x
theorem FnsFit.snoc {l : List FnD} {ops : Nat} {ahead : Bool} {q : List FnD} {hd : FnD} {xs : List OpD} (h : FnsFit l ops ahead q) (hx : l[q.length]? = some hd) (h1 : 1 ≤ xs.length) (h2 : xs.length ≤ ops)
    (ho : OpsFit l hd.locals xs.length (if ahead then q.length + 1 else 0) xs) : FnsFit l ops ahead (q ++ [⟨hd.name, hd.file, hd.params, hd.locals, xs⟩]) := fun f x y hf hy => by
  rcases getElem?_snoc hf with h' | ⟨rfl, rfl⟩
  · exact h f x y h' hy
  · rw [hx] at hy
    cases hy
    exact ⟨⟨rfl, rfl, rfl, rfl⟩, ⟨h1, h2⟩, ho⟩
/-- One more function is done. -/
theorem fnBut_snoc {w w' : World} {L L' : Nat → Prop} {css : List (List Value)} {q : List FnD} {hd : FnD} {xs : List OpD} {cb : List (List Value)} {ba : Option Addr} {bcap base base' : Nat} {Lo : Nat → Prop}
    (h : RdBut 5 RdFn L w css q) (hs : ∀ b, b < w.heap.size → ¬ L b → b < w'.heap.size ∧ ¬ L' b ∧ w'.heap[b]? = w.heap[b]?)
    (hn : hd.name.size ≤ maxLen) (hf : hd.file.size ≤ maxLen) (hx : w'.ownsRow base 70 6 (.slice ba xs.length bcap) xs.length cb.flatten) (hb : RdBut 6 RdOp Lo w' cb xs)
    (hL : ∀ b, b < w'.heap.size → base' ≤ b → ¬ L' b) (hLo : ∀ b, b < w'.heap.size → ¬ Lo b → base' ≤ b) (hob : ∀ b, (Value.slice ba xs.length bcap).ownBlock = some b → base' ≤ b ∧ b < w'.heap.size) :
    RdBut 5 RdFn L' w' (css ++ [fnC hd (.slice ba xs.length bcap)]) (q ++ [⟨hd.name, hd.file, hd.params, hd.locals, xs⟩]) := by
  refine RdBut.snoc (h.same hs) rfl (fun W hW => ?_)
  refine ⟨ba, bcap, rfl, ?_, hn, hf⟩
  exact hb.rdW (fun b hb1 hb2 => hW b hb1 (hL b hb1 (hLo b hb1 hb2))) rfl (owns_alike hx (fun b hb1 => hW b (hob b hb1).2 (hL b (hob b hb1).2 (hob b hb1).1)))
theorem rdI_owns {w : World} {base n : Nat} {v : Value} {l : List Int} (h : w.ownsRow base 3 1 v n (ints l)) : ∃ a cap, v = .slice a n cap ∧ Rd .i64 w a n cap l := by
  have hl : l.length = n := by have := h.1; simpa [ints] using this
  rcases h.2 with ⟨rfl, rfl⟩ | ⟨g, cap, cur, rfl, hg, hh, h1, h2, h3, h4⟩
  · exact ⟨none, 0, rfl, ⟨hl, Nat.le_refl _, by unfold maxLen; omega, fun i hi => by omega⟩⟩
  · refine ⟨some ⟨g, 0, none⟩, cap, rfl, ⟨hl, h1, h2, fun i hi => ⟨g, 0, rfl, ?_⟩⟩⟩
    have hc := World.ownsRow.cellAt (w := w) ⟨h.1, .inr ⟨g, cap, cur, rfl, hg, hh, h1, h2, h3, h4⟩⟩ i (by omega)
    rw [Nat.zero_add, hc]
    simp [ints, List.getD, show i < l.length by omega]
/-- One more op is done. -/
theorem opBut_snoc {w w' : World} {L L' : Nat → Prop} {cb : List (List Value)} {xs : List OpD} {o : OpD} {aa : Option Addr} {acap base : Nat}
    (h : RdBut 6 RdOp L w cb xs) (hs : ∀ b, b < w.heap.size → ¬ L b → b < w'.heap.size ∧ ¬ L' b ∧ w'.heap[b]? = w.heap[b]?)
    (hx : w'.ownsRow base 3 1 (.slice aa o.args.length acap) o.args.length (ints o.args)) (hob : ∀ b, (Value.slice aa o.args.length acap).ownBlock = some b → b < w'.heap.size ∧ ¬ L' b) :
    RdBut 6 RdOp L' w' (cb ++ [[.int .i64 o.code, .int .i64 o.line, .int .i64 o.a, .int .i64 o.b, .int .i64 o.c, .slice aa o.args.length acap]]) (xs ++ [o]) := by
  refine RdBut.snoc (h.same hs) rfl (fun W hW => ?_)
  obtain ⟨a, cap, e, hr⟩ := rdI_owns (owns_alike hx (fun b hb => hW b (hob b hb).1 (hob b hb).2))
  injection e with e1 e2 e3
  subst e1 e3
  exact ⟨aa, acap, rfl, hr⟩
end Go.Proofs.YthaganponmnanaaGreatDoor
namespace Go.Proofs.YthaganponmnanaaGreatDoor
open Go.RowKit

def pcC (a : PlcD) : List Value := [.int .i64 a.fn, .int .i64 a.first, .int .i64 a.line, .int .i64 a.inst]
theorem Tryz.infoPlc : (Tryz.prog.info? 142).map (fun i => (i.zero, i.size, i.bytes)) = some (some (.agg #[.int .i64 0, .int .i64 0, .int .i64 0, .int .i64 0]), 4, 32) := by kernel_rfl
theorem plcF_app : ∀ (l : List EntD) (x : EntD) (fn : Nat) (acc : List PlcD), plcF (l ++ [x]) fn acc = plcF l fn acc ++ plcE (fn + l.length : Nat) (plcF l fn acc).length x
  | [], x, fn, acc => rfl
  | y :: r, x, fn, acc => by
    show plcF (r ++ [x]) (fn + 1) _ = plcF r (fn + 1) _ ++ _
    rw [plcF_app r x (fn + 1) _, List.length_cons, show fn + 1 + r.length = fn + (r.length + 1) by omega]
    rfl
theorem plc_take {L : List EntD} {k : Nat} {x : EntD} (h : L[k]? = some x) : plcD (L.take (k + 1)) = plcD (L.take k) ++ plcE k (plcD (L.take k)).length x := by
  obtain ⟨hk, he⟩ := List.getElem?_eq_some_iff.1 h
  unfold plcD
  rw [List.take_succ_eq_append_getElem hk, he, plcF_app]
  congr 2
  rw [List.length_take, Nat.zero_add, Nat.min_eq_left (by omega)]
theorem four_new_at {w : World} {n : Nat} (h : w.heap.size = n) (a b c d : Value) (t : TypeId) : ∀ j u, [a, b, c, d][j]? = some u → (w.alloc (.cells #[a, b, c, d] t)).cell? ((⟨n, 0, none⟩ : Addr).add j) = some u := by
  subst h
  intro j u hu
  match j, hu with
  | 0, hu => simp at hu; subst hu; simp [Addr.add]
  | 1, hu => simp at hu; subst hu; simp [Addr.add]
  | 2, hu => simp at hu; subst hu; simp [Addr.add]
  | 3, hu => simp at hu; subst hu; simp [Addr.add]
theorem four_one (a b c d : Int) : ∀ u ∈ [Value.int .i64 a, .int .i64 b, .int .i64 c, .int .i64 d], u.oneCell' = true := by
  intro u hu
  simp at hu
  rcases hu with rfl | rfl | rfl | rfl <;> rfl
theorem plcD_le {n : Nat} {l : List EntD} (hg : ∀ x ∈ l, EntG n x) : (plcD l).length ≤ 1000 * l.length := by
  unfold plcD
  rw [plcF_len l 0 [] hg, List.length_nil, Nat.zero_add]
  induction l with
  | nil => simp
  | cons x r ih =>
    have h1 := (hg x (List.mem_cons_self ..)).most
    have h2 := ih (fun y hy => hg y (List.mem_cons_of_mem _ hy))
    rw [List.map_cons, List.sum_cons, List.length_cons]
    omega

/-- Rows of two types lie apart. -/
theorem owns_apart {w : World} {b1 b2 : Nat} {e1 e2 : TypeId} {s1 s2 : Nat} {v1 v2 : Value} {n1 n2 : Nat} {x1 x2 : List Value} (h1 : w.ownsRow b1 e1 s1 v1 n1 x1) (h2 : w.ownsRow b2 e2 s2 v2 n2 x2) (hne : e1 ≠ e2) : ∀ b, v2.ownBlock = some b → v1.ownBlock ≠ some b := fun b hb hc => by
  rcases h2.2 with ⟨rfl, _⟩ | ⟨g, cap, cur, rfl, _, hh, _⟩
  · simp [Value.ownBlock] at hb
  · obtain rfl : g = b := by simpa [Value.ownBlock] using hb
    exact owns_other' h1 hh hne hc.symm

set_option maxHeartbeats 8000000 in
set_option maxRecDepth 100000 in
theorem placesOf_any (ia : Option Addr) (icap : Nat) (L : List EntD) (w : World) (hr : RdI w ia L.length icap L) (hg : ∀ x ∈ L, EntG L.length x) (h12 : L.length ≤ 12) :
    Calls Tryz.prog 44 #[.agg #[.slice ia L.length icap]] w fun e w' => ∃ a cap, e = .returned (.slice a (plcD L).length cap) ∧ w'.ownsRow w.heap.size 142 4 (.slice a (plcD L).length cap) (plcD L).length ((plcD L).map pcC).flatten ∧ Below w.heap.size w w' := by
  have HR := hid hr
  have HG := hid hg
  have hc1 := hr.2.1
  have hc2 := hr.2.2.1
  unfold maxLen at hc2
  obtain ⟨n, hn⟩ : ∃ v, v = L.length := ⟨_, rfl⟩
  rw [← hn] at HR HG hc1 h12 ⊢
  have HN := hid hn
  obtain ⟨i0, hi, hz0, hz1, hz2⟩ := info_parts Tryz.infoPlc
  obtain ⟨wb, hwb⟩ : ∃ v, v = w.alloc (Obj.cells #[.slice ia n icap] 83) := ⟨_, rfl⟩
  have hbb : Below w.heap.size w wb := by rw [hwb]; exact (Below.refl _ _).alloc (Nat.le_refl _) _
  have hbs : wb.heap.size = w.heap.size + 1 := by rw [hwb]; simp
  have HBB := hid hbb
  clear hr hg hn hbb
  go_enter Tryz.func44, Tryz.ntmps44
  go_wp2
  rw [← hwb]
  clear hwb
  go_loopw [3, 4, 5, 6, 7, 8, 9, 13] (fun lv _ _ _ _ _ _ i wr => ∃ k : Nat, i = .int .i64 k ∧ k ≤ n ∧ wr.ownsRow wb.heap.size 142 4 lv (plcD (L.take k)).length ((plcD (L.take k)).map pcC).flatten ∧ Below wb.heap.size wb wr) (fun _ _ _ _ _ _ _ i _ => n - (intOf i).toNat)
  case atStart => exact ⟨0, rfl, by omega, World.ownsRow_nil _ _ _ _, Below.refl _ _⟩
  case round =>
    rename World => wo
    obtain ⟨k, rfl, hk, hown, hbel⟩ := hrel
    have hsz := hbel.size
    have hbw : Below w.heap.size w wo := HBB.out.trans (hbel.mono HBB.out.size)
    obtain ⟨va, vcap, rfl, hv1, hv2⟩ := owns_form hown
    unfold maxLen at hv2
    by_cases hkn : k < n
    · have hkn' : (k : Int) < (n : Int) := by omega
      obtain ⟨x, hx⟩ : ∃ x, L[k]? = some x := ⟨_, List.getElem?_eq_getElem (by rw [← HN.out]; exact hkn)⟩
      have hgx := HG.out x (List.mem_of_getElem? hx)
      obtain ⟨eb, eoff, la, lcap, xa, xcap, ta, tcap, rfl, m0, m1, m2, m3, m4, hrl, hrx, -⟩ := (HR.out.below hbw).at hx
      have heb : eb < wo.heap.size := World.block_lt_of_cell? wo _ m0
      have HVX := hid (fun (W : World) (hW : Below wo.heap.size wo W) => values_any xa x.index.length xcap x.index W (hrx.below hW (Nat.le_refl _)) hgx.wi)
      have HVL := hid (fun (W : World) (hW : Below wo.heap.size wo W) => values_any la x.lines.length lcap x.lines W (hrl.below hW (Nat.le_refl _)) hgx.wl)
      have hpl : (plcD (L.take k)).length ≤ 12000 := by
        have h := plcD_le (n := n) (l := L.take k) (fun y hy => HG.out y (List.mem_of_mem_take hy))
        rw [List.length_take] at h
        omega
      have HNXT : Hid (plcD (L.take (k + 1)) = plcD (L.take k) ++ plcE k (plcD (L.take k)).length x) := hid (plc_take hx)
      have HAT : Hid (∀ j, j < (unroll x.lines).length → (plcE k (plcD (L.take k)).length x)[j]? = some ⟨k, (plcD (L.take k)).length, (unroll x.lines).getD j 0, (unroll x.index).getD j 0⟩) := hid (fun j hj => plcE_at hgx hj)
      have HEL : Hid ((plcE k (plcD (L.take k)).length x).length = (unroll x.lines).length) := hid (plcE_len hgx)
      have hml := hgx.most
      have hle := hgx.len
      obtain ⟨ACC, hACC⟩ : ∃ v, v = plcD (L.take k) := ⟨_, rfl⟩
      rw [← hACC] at hown hpl HNXT HAT HEL hv1 ⊢
      obtain ⟨N0, hN0⟩ : ∃ v, v = ACC.length := ⟨_, rfl⟩
      rw [← hN0] at hown hpl HNXT HAT HEL hv1 ⊢
      rw [hle] at HVX
      generalize plcE k N0 x = PE at *
      generalize unroll x.lines = UL at *
      generalize unroll x.index = UI at *
      obtain ⟨m, hm⟩ : ∃ v, v = UL.length := ⟨_, rfl⟩
      rw [← hm] at HVX HVL HAT HEL hml hle
      generalize x.name = nm at *
      generalize x.file = fl at *
      generalize x.lines.length = xl at *
      generalize x.index.length = xi at *
      generalize x.tree.length = xt at *
      obtain ⟨w2, hw2⟩ : ∃ v, v = wo.alloc (Obj.cells #[.string nm, .string fl, .slice la xl lcap, .slice xa xi xcap, .slice ta xt tcap] 90) := ⟨_, rfl⟩
      have hb2 : Below wo.heap.size wo w2 := by rw [hw2]; exact (Below.refl _ _).alloc (Nat.le_refl _) _
      have hs2 : w2.heap.size = wo.heap.size + 1 := by rw [hw2]; simp
      have k2 : w2.heap[wo.heap.size]? = some (.cells #[.string nm, .string fl, .slice la xl lcap, .slice xa xi xcap, .slice ta xt tcap] 90 (0, 0)) := by rw [hw2]; exact heap_new_at rfl
      have HOW := hid hown
      have HBEL := hid hbel
      have HK2 := hid k2
      have HB2 := hid hb2
      have HN0 := hid hN0
      have HM := hid hm
      clear hown hbel hbw hx hgx hrl hrx hACC hN0 hm k2 hb2
      go_wp2_with fail
      rw [← hw2]
      clear hw2 m0 m1 m2 m3 m4
      refine (HVX.out w2 HB2.out).mono ?_
      rintro e w3 ⟨iv, rfl, hoi, hb3⟩
      have hs3 := hb3.size
      have hb23 : Below wo.heap.size wo w3 := HB2.out.trans (hb3.mono HB2.out.size)
      have k3 := (hb3.block wo.heap.size (by omega)).trans HK2.out
      have c3 : w3.cell? ⟨wo.heap.size, 2, none⟩ = some (.slice la xl lcap) := by simp [World.cell?, k3]
      have HOI := hid hoi
      have HB23 := hid hb23
      clear hoi hb3 hb23 k3 HVX
      go_wp2_with fail
      clear c3
      refine (HVL.out w3 HB23.out).mono ?_
      rintro e w4 ⟨nv, rfl, hon, hb4⟩
      have hs4 := hb4.size
      obtain ⟨na, ncap, rfl, hn1, hn2⟩ := owns_form hon
      obtain ⟨ja, jcap, rfl, hj1, hj2⟩ := owns_form HOI.out
      unfold maxLen at hn2 hj2
      have hb04 : Below wo.heap.size wo w4 := HB23.out.trans (hb4.mono (by omega))
      have HON := hid hon
      have HOI4 := hid (ownsRow_below HOI.out hb4)
      have HOW4 := hid (ownsRow_below HOW.out hb04)
      have HB4 := hid (HBEL.out.trans (hb04.mono hsz))
      clear hon hb4 hb04 HVL HOI HOW
      go_wp2
      go_loopw [3, 8, 9, 27] (fun lv _ _ i wr => ∃ j : Nat, i = .int .i64 j ∧ j ≤ m ∧ wr.ownsRow wb.heap.size 142 4 lv (N0 + j) ((ACC ++ PE.take j).map pcC).flatten ∧ wr.ownsRow w2.heap.size 3 1 (.slice ja m jcap) m (i64s UI) ∧ wr.ownsRow w3.heap.size 3 1 (.slice na m ncap) m (i64s UL) ∧ Below wb.heap.size wb wr) (fun _ _ _ i _ => m - (intOf i).toNat)
      case atStart => exact ⟨0, rfl, by omega, by simpa using HOW4.out, HOI4.out, HON.out, HB4.out⟩
      case round =>
        clear HOW4 HOI4 HON HB4
        obtain ⟨j, rfl, hj, ho, hoi, hon, hb⟩ := hrel
        have hs := hb.size
        by_cases hjm : j < m
        · have hjm' : (j : Int) < (m : Int) := by omega
          obtain ⟨ng, rfl⟩ : ∃ g, na = some ⟨g, 0, none⟩ := by
            rcases hon.2 with ⟨h1, h2⟩ | ⟨g, c', cur, h1, _⟩
            · omega
            · simp only [Value.slice.injEq] at h1; exact ⟨g, h1.1⟩
          obtain ⟨jg, rfl⟩ : ∃ g, ja = some ⟨g, 0, none⟩ := by
            rcases hoi.2 with ⟨h1, h2⟩ | ⟨g, c', cur, h1, _⟩
            · omega
            · simp only [Value.slice.injEq] at h1; exact ⟨g, h1.1⟩
          have c1 : wr.cell? ⟨ng, j, none⟩ = some (.int .i64 (UL.getD j 0)) := by
            have hju : j < UL.length := by rw [← HM.out]; exact hjm
            rw [hon.cellAt j (by omega)]
            simp [i64s, List.getD, hju]
          have c2 : wr.cell? ⟨jg, j, none⟩ = some (.int .i64 (UI.getD j 0)) := by
            have hju : j < UI.length := by rw [hle]; exact hjm
            rw [hoi.cellAt j (by omega)]
            simp [i64s, List.getD, hju]
          have hng := (hon.lt ng rfl).2
          have hjg := (hoi.lt jg rfl).2
          have HTK : Hid (((ACC ++ PE.take (j + 1)).map pcC).flatten = ((ACC ++ PE.take j).map pcC).flatten ++ [.int .i64 k, .int .i64 N0, .int .i64 (UL.getD j 0), .int .i64 (UI.getD j 0)]) := hid (by
            obtain ⟨h1, h2⟩ := List.getElem?_eq_some_iff.1 (HAT.out j hjm)
            rw [List.take_succ_eq_append_getElem h1, h2]
            simp [pcC])
          obtain ⟨XS, hXS⟩ : ∃ v, v = ((ACC ++ PE.take j).map pcC).flatten := ⟨_, rfl⟩
          rw [← hXS] at ho HTK
          clear hXS
          generalize UL.getD j 0 = v1 at *
          generalize UI.getD j 0 = v2 at *
          have HO := hid ho
          have HOI := hid hoi
          have HON := hid hon
          have HB := hid hb
          clear ho hoi hon hb
          go_wp2_with (at_builtin; refine wpList_append_lies _ rfl (.tmp 32) (.tmp 41) 112 rfl wb.heap.size 142 i0 (.agg #[.int .i64 0, .int .i64 0, .int .i64 0, .int .i64 0]) 4 32 Tryz.underlying112 hi hz0 hz1 hz2 rfl (by decide) _ _ _ rfl (HO.out.alloc _) ⟨wr.heap.size, 0, none⟩ 1 1 [.int .i64 k, .int .i64 N0, .int .i64 v1, .int .i64 v2] rfl rfl (four_new_at rfl _ _ _ _ _) (four_one _ _ _ _) (by decide) (by unfold maxLen; omega) (by omega) (by simp; omega) _ rfl ?_)
          intro g' c' w9 hown9 hgrow9 _ _
          have hb9 : Below wb.heap.size wb w9 := (HB.out.alloc hs _).grown hgrow9 (by simp; omega) (fun b hb => (HO.out.lt b hb).1)
          have hoi9 := owns_same HOI.out (w' := w9) (fun b hb => (hgrow9.block b (by have := (HOI.out.lt b hb).2; simp; omega) (fun e => owns_apart HO.out HOI.out (by decide) b hb e.symm)).trans (heap_alloc_old _ _ (HOI.out.lt b hb).2))
          have hon9 := owns_same HON.out (w' := w9) (fun b hb => (hgrow9.block b (by have := (HON.out.lt b hb).2; simp; omega) (fun e => owns_apart HO.out HON.out (by decide) b hb e.symm)).trans (heap_alloc_old _ _ (HON.out.lt b hb).2))
          rw [← HTK.out] at hown9
          have HO9 := hid hown9
          have HOI9 := hid hoi9
          have HON9 := hid hon9
          have HB9 := hid hb9
          clear hown9 hgrow9 hb9 hoi9 hon9 HO HOI HON HB c1 c2
          go_wp2
          go_roundw
          case rel => exact ⟨j + 1, by go_num, by omega, by rw [hbs]; exact HO9.out, HOI9.out, HON9.out, HB9.out⟩
          case measure => simp [intOf]; omega
        · have hjm' : decide ((j : Int) < (m : Int)) = false := by simp; omega
          have HF : Hid (ACC ++ PE.take j = plcD (L.take (k + 1)) ∧ N0 + j = (plcD (L.take (k + 1))).length) := hid (by
            have e : PE.take j = PE := List.take_of_length_le (by rw [HEL.out]; omega)
            rw [e, HNXT.out]
            refine ⟨rfl, ?_⟩
            rw [List.length_append, HEL.out, ← HN0.out]
            omega)
          have HO := hid ho
          have HB := hid hb
          clear ho hoi hon hb
          go_wp2
          go_roundw
          case rel =>
            refine ⟨k + 1, by go_num, by omega, ?_, HB.out⟩
            have h := HO.out
            rw [HF.out.1, HF.out.2] at h
            exact h
          case measure => simp [intOf]; omega
    · have hkn' : decide ((k : Int) < (n : Int)) = false := by simp; omega
      have HT : Hid (plcD (L.take k) = plcD L) := hid (by rw [List.take_of_length_le (by have := HN.out; omega)])
      rw [HT.out] at hown ⊢
      have HF := hid (⟨owns_low9 hown (show w.heap.size ≤ wb.heap.size by omega), hbw⟩ : _ ∧ _)
      clear hown hbel hbw
      go_wp2
      exact bodyPost_ret (v := .slice va (plcD L).length vcap) (by simp [results, Tryz.results44, go_sem]) rfl ⟨va, vcap, rfl, HF.out.1, HF.out.2⟩
end Go.Proofs.YthaganponmnanaaGreatDoor
namespace Go.Proofs.YthaganponmnanaaGreatDoor
open Go.RowKit

def shiftD (k : Nat) : Int := if k = 0 then 0 else 1
set_option maxHeartbeats 400000 in
theorem shift_any (k : Nat) (w : World) (hk : k ≤ 1000000) :
    Calls Tryz.prog 47 #[.int .i64 k] w fun e w' => e = .returned (.int .i64 (shiftD k)) ∧ w' = w := by
  by_cases h : k = 0
  · subst h
    go_enter Tryz.func47, Tryz.ntmps47
    go_wp2
    go_ret
    exact ⟨rfl, rfl⟩
  · have h' : decide ((k : Int) = 0) = false := by simp; omega
    have E : Hid (shiftD k = 1) := hid (by unfold shiftD; rw [if_neg h])
    go_enter Tryz.func47, Tryz.ntmps47
    go_wp2
    go_ret
    exact ⟨ret_int E.out.symm, rfl⟩

set_option maxHeartbeats 1000000 in
set_option maxRecDepth 100000 in
theorem frameOf_any (nm fl : ByteArray) (l1 l2 l3 : Option Addr) (n1 n2 n3 c1 c2 c3 : Nat) (line : Int) (w : World) :
    Calls Tryz.prog 68 #[.agg #[.string nm, .string fl, .slice l1 n1 c1, .slice l2 n2 c2, .slice l3 n3 c3], .int .i64 line] w fun e w' => e = .returned (.agg #[.string nm, .string fl, .int .i64 line]) ∧ Below w.heap.size w w' := by
  obtain ⟨wb, hwb⟩ : ∃ v, v = (w.alloc (Obj.cells #[.string nm, .string fl, .slice l1 n1 c1, .slice l2 n2 c2, .slice l3 n3 c3] 90)).alloc (Obj.cells #[.string nm, .string fl, .int .i64 line] 77) := ⟨_, rfl⟩
  have hbb : Below w.heap.size w wb := by rw [hwb]; exact ((Below.refl _ _).alloc (Nat.le_refl _) _).alloc (by simp) _
  go_enter Tryz.func68, Tryz.ntmps68
  go_wp2
  have kF : wb.heap[w.heap.size + 1]? = some (.cells #[.string nm, .string fl, .int .i64 line] 77 (0, 0)) := by rw [hwb]; exact heap_new_at (by simp)
  rw [← hwb]
  have y0 : wb.cell? ⟨w.heap.size + 1, 0, none⟩ = some (.string nm) := by simp [World.cell?, kF]
  have y1 : wb.cell? ⟨w.heap.size + 1, 1, none⟩ = some (.string fl) := by simp [World.cell?, kF]
  have y2 : wb.cell? ⟨w.heap.size + 1, 2, none⟩ = some (.int .i64 line) := by simp [World.cell?, kF]
  exact bodyPost_ret (v := .agg #[.string nm, .string fl, .int .i64 line]) (by simp [results, Tryz.results68, go_sem, y0, y1, y2]) rfl ⟨rfl, hbb⟩

theorem pcsB_take {n : Int} : ∀ (l : List Int) (k0 k : Nat) (pc : Int), l[k]? = some pc → pcsB n l k0 = true → shiftD (k0 + k) ≤ pc ∧ pc < n + shiftD (k0 + k)
  | [], _, _, _, h, _ => by simp at h
  | x :: r, k0, k, pc, h, hb => by
    unfold pcsB at hb
    rw [Bool.and_eq_true] at hb
    cases k with
    | zero =>
      simp at h
      subst h
      have := of_decide_eq_true hb.1
      simpa [shiftD] using this
    | succ k =>
      have := pcsB_take r (k0 + 1) k pc (by simpa using h) hb.2
      rwa [show k0 + 1 + k = k0 + (k + 1) by omega] at this
theorem pcsB_drop (n : Int) : ∀ (l : List Int) (k0 k : Nat), (∀ i pc, i < k → l[i]? = some pc → shiftD (k0 + i) ≤ pc ∧ pc < n + shiftD (k0 + i)) → pcsB n l k0 = pcsB n (l.drop k) (k0 + k)
  | l, _, 0, _ => by simp
  | [], _, k + 1, _ => by simp [pcsB]
  | x :: r, k0, k + 1, h => by
    have h0 := h 0 x (by omega) rfl
    have ih := pcsB_drop n r (k0 + 1) k (fun i pc hi hp => by
      have := h (i + 1) pc (by omega) (by simpa using hp)
      rwa [show k0 + (i + 1) = k0 + 1 + i by omega] at this)
    rw [List.drop_succ_cons, show k0 + (k + 1) = k0 + 1 + k by omega, ← ih]
    show (decide _ && pcsB n r (k0 + 1)) = _
    have : decide ((if k0 = 0 then (0 : Int) else 1) ≤ x ∧ x < n + (if k0 = 0 then (0 : Int) else 1)) = true := decide_eq_true (by simpa [shiftD] using h0)
    rw [this, Bool.true_and]

set_option maxHeartbeats 2000000 in
set_option maxRecDepth 100000 in
theorem pcsMayBe_any (a : Option Addr) (cap : Nat) (l : List Int) (n : Nat) (w : World) (hr : Rd .i64 w a l.length cap l) (hn : n ≤ 1000000) (hl : ∀ x ∈ l, R64 x) :
    Calls Tryz.prog 45 #[.slice a l.length cap, .int .i64 n] w fun e w' => e = .returned (.bool (symB n l)) ∧ Below w.heap.size w w' := by
  have hc1 := hr.hcap
  have hc2 := hr.hmax
  unfold maxLen at hc2
  obtain ⟨ll, hll⟩ : ∃ v, v = l.length := ⟨_, rfl⟩
  have HR := hid hr
  rw [← hll] at HR hc1 ⊢
  have HLL := hid hll
  have HL := hid hl
  by_cases h20 : 20 < l.length
  · have h20' : (20 : Int) < (ll : Int) := by omega
    have E : Hid (symB n l = false) := hid (by unfold symB; rw [decide_eq_false (by omega)]; rfl)
    clear hr hll hl
    go_enter Tryz.func45, Tryz.ntmps45
    go_wp2
    go_ret
    exact ⟨ret_bool E.out.symm, Below.refl _ _⟩
  · have h20' : decide ((20 : Int) < (ll : Int)) = false := by simp; omega
    have h20n : ll ≤ 20 := by omega
    have E : Hid (symB n l = pcsB n l 0) := hid (by unfold symB; rw [decide_eq_true (by omega)]; rfl)
    clear hr hll hl h20
    go_enter Tryz.func45, Tryz.ntmps45
    go_wp2
    go_loopw [5, 6, 12] (fun _ _ i wr => ∃ k : Nat, i = .int .i64 k ∧ k ≤ ll ∧ (∀ i pc, i < k → l[i]? = some pc → shiftD i ≤ pc ∧ pc < n + shiftD i) ∧ Below w.heap.size w wr) (fun _ _ i _ => ll - (intOf i).toNat)
    case atStart => exact ⟨0, rfl, by omega, fun i pc h => by omega, Below.refl _ _⟩
    case round =>
      obtain ⟨k, rfl, hk, hgood, hbel⟩ := hrel
      have hsz := hbel.size
      by_cases hkl : k < ll
      · have hkl' : (k : Int) < (ll : Int) := by omega
        obtain ⟨v, hv⟩ : ∃ v, l[k]? = some v := ⟨_, List.getElem?_eq_getElem (by rw [← HLL.out]; exact hkl)⟩
        obtain ⟨b0, off, rfl, hc⟩ := (HR.out.below hbel (Nat.le_refl _)).open (by omega)
        have c0 := hc k hkl
        have hgd : l.getD k 0 = v := by rw [List.getD, hv]; rfl
        rw [hgd] at c0
        have hb0 : b0 < wr.heap.size := World.block_lt_of_cell? wr _ c0
        have hrv := HL.out v (List.mem_of_getElem? hv)
        obtain ⟨hv1, hv2⟩ := hrv
        have HS := hid (fun W => shift_any k W (by omega))
        obtain ⟨s, hs⟩ : ∃ v, v = shiftD k := ⟨_, rfl⟩
        rw [← hs] at HS
        have hs01 : 0 ≤ s ∧ s ≤ 1 := by rw [hs]; unfold shiftD; split <;> omega
        have HSE := hid hs
        have HV := hid hv
        have HGD := hid hgood
        have HB := hid hbel
        have HDR : Hid (pcsB n l 0 = pcsB n (l.drop k) k) := hid (by have := pcsB_drop n l 0 k (fun i pc hi hp => by rw [Nat.zero_add]; exact hgood i pc hi hp); rwa [Nat.zero_add] at this)
        have HDC : Hid (l.drop k = v :: l.drop (k + 1)) := hid (by
          obtain ⟨h1, h2⟩ := List.getElem?_eq_some_iff.1 hv
          rw [List.drop_eq_getElem_cons h1, h2])
        clear hgood hbel hc hv hgd hs
        by_cases hlo : v < s
        · have hlo' : decide (v < s) = true := by simpa using hlo
          have EF : Hid (symB n l = false) := hid (by
            rw [E.out, HDR.out, HDC.out]
            show (decide _ && _) = false
            rw [show (if k = 0 then (0 : Int) else 1) = s from HSE.out.symm, decide_eq_false (by omega)]
            rfl)
          go_wp2_with (go_at_call 47; refine (HS.out _).mono ?_; rintro e w' ⟨rfl, rfl⟩)
          go_ret
          exact ⟨ret_bool EF.out.symm, HB.out⟩
        · have hlo' : decide (v < s) = false := by simp; omega
          by_cases hhi : v < n + s
          · have hhi' : decide ((n : Int) + s ≤ v) = false := by simp; omega
            go_wp2_with (go_at_call 47; refine (HS.out _).mono ?_; rintro e w' ⟨rfl, rfl⟩)
            go_roundw
            case rel =>
              refine ⟨k + 1, by go_num, by omega, fun i pc hi hp => ?_, HB.out⟩
              rcases Nat.lt_or_ge i k with h | h
              · exact HGD.out i pc h hp
              · obtain rfl : i = k := by omega
                rw [HV.out] at hp
                cases hp
                rw [← HSE.out]
                exact ⟨by omega, hhi⟩
            case measure => simp [intOf]; omega
          · have hhi' : decide ((n : Int) + s ≤ v) = true := by simp; omega
            have EF : Hid (symB n l = false) := hid (by
              rw [E.out, HDR.out, HDC.out]
              show (decide _ && _) = false
              rw [show (if k = 0 then (0 : Int) else 1) = s from HSE.out.symm, decide_eq_false (by omega)]
              rfl)
            go_wp2_with (go_at_call 47; refine (HS.out _).mono ?_; rintro e w' ⟨rfl, rfl⟩)
            go_ret
            exact ⟨ret_bool EF.out.symm, HB.out⟩
      · have hkl' : decide ((k : Int) < (ll : Int)) = false := by simp; omega
        have ET : Hid (symB n l = true) := hid (by
          have h1 := pcsB_drop n l 0 k (fun i pc hi hp => by rw [Nat.zero_add]; exact hgood i pc hi hp)
          rw [E.out, h1, List.drop_of_length_le (by have := HLL.out; omega)]
          rfl)
        have HB := hid hbel
        clear hgood hbel
        go_wp2
        go_ret
        exact ⟨ret_bool ET.out.symm, HB.out⟩
end Go.Proofs.YthaganponmnanaaGreatDoor
