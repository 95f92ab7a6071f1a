/- Contract of the developers' table.Of: the table that has a value at each pc. A program whose ops that are no Calls have lost their Args: it is as good, and its runs are the same; nothing is claimed of the program here. Contracts of the developers' program.isNamed, headMayBe, isLocal, IsValue, argsMayBe: plain functions of what is handed in; nothing that was there is written. Frames of the developers' run, how they lie in memory, and contracts of run.goOn, jump, result: plain functions of what is handed in; nothing that was there is written. -/
import Derived.Test.YtebjndcokkefhaaDoorZ2
import Derived.Test.YtebjndcokkefhaaDoorZ17
import Derived.Test.YtebjndcokkefhaaDoorZ4
import Derived.Test.YtebjndcokkefhaaDoorZ3
import Derived.Test.YtebjndcokkefhaaDoorZ6
namespace Go.Proofs.YtebjndcokkefhaaDoor
open Go.RowKit

set_option maxHeartbeats 4000000 in
set_option maxRecDepth 100000 in
theorem tOf_any (a : Option Addr) (cap : Nat) (vs : List Int) (w : World) (hr : Rd .i64 w a vs.length cap vs) (h1000 : vs.length ≤ 1000) :
    Calls Tryd.prog 88 #[.slice a vs.length cap] w fun e w' => ∃ a' cap', e = .returned (.slice a' (rollL vs).length cap') ∧
      w'.ownsRow w.heap.size 90 2 (.slice a' (rollL vs).length cap') (rollL vs).length (flat (rollL vs)) ∧ Below w.heap.size w w' := by
  have HR := hid hr
  have hmax := hr.hmax
  have hcap := hr.hcap
  unfold maxLen at hmax
  obtain ⟨len, hlen⟩ : ∃ v, v = vs.length := ⟨_, rfl⟩
  rw [← hlen] at hcap h1000 HR ⊢
  have HL := hid hlen
  clear hlen hr
  obtain ⟨i0, hi, hz0, hz1, hz2⟩ := info_parts Tryd.infoSpan
  go_enter Tryd.func88, Tryd.ntmps88
  go_wp2
  go_loopw [3, 9] (fun lv i wr => ∃ k : Nat, i = .int .i64 k ∧ k ≤ len ∧ wr.ownsRow w.heap.size 90 2 lv (rollL (vs.take k)).length (flat (rollL (vs.take k))) ∧ Below w.heap.size w wr) (fun _ i _ => len - (intOf i).toNat)
  case atStart => exact ⟨0, rfl, by omega, World.ownsRow_nil _ _ _ _, Below.refl _ _⟩
  case round =>
    obtain ⟨k, rfl, hk, hown, hbel⟩ := hrel
    have hsz := hbel.size
    by_cases hlt : k < len
    · have hlt' : (k : Int) < (len : Int) := by omega
      obtain ⟨b0, off, rfl, hc⟩ := (HR.out.below hbel (Nat.le_refl _)).cell k hlt
      have hts := take_snoc vs k (by rw [← HL.out]; exact hlt)
      have hb0 := World.block_lt_of_cell? wr _ hc
      simp only at hb0
      have hnx : rollL (vs.take (k + 1)) = rollStep (rollL (vs.take k)) (vs.getD k 0) := by rw [hts, rollL_snoc]
      obtain ⟨x, hx⟩ : ∃ x, x = vs.getD k 0 := ⟨_, rfl⟩
      rw [← hx] at hc hnx
      clear hx hts
      have HBX := hid hbel
      by_cases hk0 : k = 0
      · subst hk0
        rw [Nat.add_zero] at hc
        have hr0 : rollL (vs.take 0) = [] := rfl
        rw [hr0] at hown hnx
        have HN : Hid (rollL (vs.take (0 + 1)) = [(x, 1)]) := by rw [hnx]; exact rollStep_nil x
        obtain ⟨la, lcap, rfl⟩ : ∃ la lcap, u3 = .slice la 0 lcap := by
          rcases hown.2 with ⟨h1, h2⟩ | ⟨g, c', cur, h1, _⟩
          · exact ⟨none, 0, h1⟩
          · exact ⟨_, _, h1⟩
        have hown0 : wr.ownsRow w.heap.size 90 2 (.slice la 0 lcap) 0 [] := hown
        have HOW := hid hown0
        clear hown hown0 hnx hr0 hbel
        go_wp2_with (at_builtin; refine wpList_append_own _ rfl (.tmp 37) (.tmp 40) 61 rfl w.heap.size 90 i0 (.agg #[.int .i64 0, .int .i64 0]) 2 16 Tryd.underlying61 hi hz0 hz1 hz2 rfl (by decide) _ _ _ rfl (HOW.out.alloc _) ⟨wr.heap.size, 0, none⟩ 1 1 [.int .i64 x, .int .i64 1] rfl rfl (two_newP _ _ _ _) (two_oneP _ _) (by unfold maxLen; omega) (by omega) (by simp; omega) ?_)
        intro v' w2 hown2 hgrow _
        have hbel2 : Below w.heap.size w w2 := (HBX.out.alloc hsz _).grown hgrow (by simp; omega) (fun k hk => (HOW.out.lt k hk).1)
        have HO := hid hown2
        have HB := hid hbel2
        clear hown2 hgrow HOW hc hbel2
        go_wp2
        go_roundw
        case rel =>
          refine ⟨1, rfl, by omega, ?_, HB.out⟩
          rw [HN.out]
          exact HO.out
        case measure => simp [intOf]; omega
      · obtain ⟨k', rfl⟩ : ∃ k', k = k' + 1 := ⟨k - 1, by omega⟩
        obtain ⟨pre, m, hroll, hm1, hm2, hm3⟩ := roll_last k' (vs.take (k' + 1)) (by rw [List.length_take, ← HL.out]; omega)
        obtain ⟨y, hy⟩ : ∃ y, y = (vs.take (k' + 1)).getD k' 0 := ⟨_, rfl⟩
        rw [← hy] at hroll
        clear hy
        rw [hroll, List.length_append] at hown
        rw [hroll] at hnx
        obtain ⟨n, hn⟩ : ∃ n, n = pre.length := ⟨_, rfl⟩
        have HNL := hid hn
        have hown0 : wr.ownsRow w.heap.size 90 2 u3 (n + 1) (flat (pre ++ [(y, m)])) := by rw [hn]; exact hown
        have hn3 : n ≤ 1000 := by omega
        clear hown hn hroll
        obtain ⟨n1, hn1⟩ : ∃ v, v = n + 1 := ⟨_, rfl⟩
        rw [← hn1] at hown0
        obtain ⟨g, gcap, rfl, hg1, hg2, _⟩ := owns_some hown0 (by omega)
        have hcy := hown0.cellAt (n * 2) (by omega)
        have hfy : (flat (pre ++ [(y, m)]))[n * 2]? = some (.int .i64 y) := by
          rw [flat_snoc, List.getElem?_append_right (by rw [flat_len, HNL.out]; omega), flat_len, HNL.out]
          simp
        rw [hfy] at hcy
        have hcm := hown0.cellAt (n * 2 + 1) (by omega)
        rw [flat_last pre y m n HNL.out] at hcm
        have ewn : IntKind.i64.wrap ((n1 : Int) - 1) = (n : Int) := by rw [IntKind.wrap_i64]; omega
        have ewm : IntKind.i64.wrap (m + 1) = m + 1 := by rw [IntKind.wrap_i64]; omega
        have hnn1 : (n : Int) < (n1 : Int) := by omega
        by_cases hxy : y = x
        · subst hxy
          have HN2 : Hid (rollL (vs.take (k' + 1 + 1)) = pre ++ [(y, m + 1)]) := by rw [hnx]; exact rollStep_same _ _ _
          have hfz := hown0.frozenAt (n * 2 + 1)
          have hst := (hown0.stored (n * 2 + 1) (.int .i64 (m + 1))).1
          rw [flat_set pre y m n HNL.out] at hst
          have HST := hid hst
          have HB : Hid (Below w.heap.size w (wr.setCell ⟨g, n * 2 + 1, none⟩ (.int .i64 (m + 1)))) := hbel.setCell (by exact hg1) _
          have HN1 := hid hn1
          clear hst hown0 hfy hnx hbel hn1
          go_wp2
          go_roundw
          case rel =>
            refine ⟨k' + 1 + 1, by go_num, by omega, ?_, HB.out⟩
            rw [HN2.out, List.length_append, ← HNL.out]
            show World.ownsRow _ _ _ _ _ (n + 1) _
            rw [← HN1.out]
            exact HST.out
          case measure => simp [intOf]; omega
        · have hxy' : (y == x) = false := by simpa using hxy
          have HN2 : Hid (rollL (vs.take (k' + 1 + 1)) = pre ++ [(y, m)] ++ [(x, 1)]) := by rw [hnx]; exact rollStep_other _ _ _ _ hxy
          have HOW := hid hown0
          have HN1 := hid hn1
          have hn12 : n1 ≤ 1001 := by omega
          clear hown0 hfy hnx hbel hn1 hxy hcm
          go_wp2_with (at_builtin; refine wpList_append_own _ rfl (.tmp 37) (.tmp 40) 61 rfl w.heap.size 90 i0 (.agg #[.int .i64 0, .int .i64 0]) 2 16 Tryd.underlying61 hi hz0 hz1 hz2 rfl (by decide) _ _ _ rfl (HOW.out.alloc _) ⟨wr.heap.size, 0, none⟩ 1 1 [.int .i64 x, .int .i64 1] rfl rfl (two_newP _ _ _ _) (two_oneP _ _) (by unfold maxLen; omega) (by omega) (by simp; omega) ?_)
          intro v' w2 hown2 hgrow _
          have hbel2 : Below w.heap.size w w2 := (HBX.out.alloc hsz _).grown hgrow (by simp; omega) (fun k hk => (HOW.out.lt k hk).1)
          have HO := hid hown2
          have HB := hid hbel2
          clear hown2 hgrow HOW hc hbel2 hcy
          go_wp2
          go_roundw
          case rel =>
            refine ⟨k' + 1 + 1, by go_num, by omega, ?_, HB.out⟩
            rw [HN2.out, flat_snoc, List.length_append, List.length_append, ← HNL.out]
            show World.ownsRow _ _ _ _ _ (n + 1 + 1) _
            rw [← HN1.out]
            exact HO.out
          case measure => simp [intOf]; omega
    · have hk' : k = len := by omega
      subst hk'
      have hlt' : decide ((k : Int) < (k : Int)) = false := by simp
      have HN : vs.take k = vs := List.take_of_length_le (by rw [HL.out]; exact Nat.le_refl _)
      rw [HN] at hown
      obtain ⟨n, hn⟩ : ∃ v, v = (rollL vs).length := ⟨_, rfl⟩
      rw [← hn] at hown
      obtain ⟨la, lcap, rfl⟩ : ∃ la lcap, u3 = .slice la n lcap := by
        rcases hown.2 with ⟨h1, h2⟩ | ⟨g, c', cur, h1, _⟩
        · exact ⟨none, 0, by rw [h1, h2]⟩
        · exact ⟨_, _, h1⟩
      have HOW := hid hown
      have HNN := hid hn
      clear hown hn HN
      go_wp2
      exact bodyPost_ret (v := .slice la n lcap) (by simp [results, Tryd.results88, go_sem]) rfl ⟨la, lcap, by rw [← HNN.out], by rw [← HNN.out]; exact HOW.out, hbel⟩
end Go.Proofs.YtebjndcokkefhaaDoor
namespace Go.Proofs.YtebjndcokkefhaaDoor
open Go.RowKit

def stripO (o : OpD) : OpD := if o.code = 5 then o else ⟨o.code, o.line, o.a, o.b, o.c, []⟩
def stripF (x : FnD) : FnD := ⟨x.name, x.file, x.params, x.locals, x.body.map stripO⟩
def strip (p : List FnD) : List FnD := p.map stripF

theorem strip_code (o : OpD) : (stripO o).code = o.code := by unfold stripO; split <;> rfl
theorem strip_line (o : OpD) : (stripO o).line = o.line := by unfold stripO; split <;> rfl
theorem strip_a (o : OpD) : (stripO o).a = o.a := by unfold stripO; split <;> rfl
theorem strip_b (o : OpD) : (stripO o).b = o.b := by unfold stripO; split <;> rfl
theorem strip_c (o : OpD) : (stripO o).c = o.c := by unfold stripO; split <;> rfl
theorem strip_args {o : OpD} (h : o.code = 5) : (stripO o).args = o.args := by unfold stripO; rw [if_pos h]

theorem fnAt_strip (p : List FnD) (n : Int) : fnAt (strip p) n = stripF (fnAt p n) := by
  unfold fnAt strip
  rw [List.getElem?_map]
  cases p[n.toNat]? with
  | none => rfl
  | some x => rfl
theorem fnOf_strip (p : List FnD) (x : LiveD) : fnOf (strip p) x = stripF (fnOf p x) := fnAt_strip p x.fn
theorem opOf_strip (p : List FnD) (x : LiveD) : opOf (strip p) x = stripO (opOf p x) := by
  unfold opOf
  rw [fnOf_strip]
  show ((List.map stripO _)[_]?).getD noOp = _
  rw [List.getElem?_map]
  cases (fnOf p x).body[x.next.toNat]? with
  | none => rfl
  | some o => rfl

theorem stepTop_strip (p : List FnD) (ini : List LiveD) (x : LiveD) : stepTop (strip p) ini x = stepTop p ini x := by
  unfold stepTop
  simp only [opOf_strip, strip_code, strip_a, strip_b, strip_c]
  split
  · next h5 =>
    split
    · rfl
    · unfold calleeD
      rw [fnAt_strip, strip_b, strip_args h5]; rfl
  · rfl
theorem nextD_strip (p : List FnD) (s : StandD) : nextD (strip p) s = nextD p s := by
  unfold nextD
  simp only [stepTop_strip]
theorem runD_strip (p : List FnD) (s : StandD) : ∀ n, runD (strip p) s n = runD p s n
  | 0 => rfl
  | n + 1 => by show nextD _ _ = nextD _ _; rw [runD_strip p s n, nextD_strip]
theorem toldD_strip (p : List FnD) (s : StandD) : toldD (strip p) s = toldD p s := by
  unfold toldD
  simp only [fnOf_strip, opOf_strip, strip_line]; rfl
theorem begunD_strip (p : List FnD) (args : List Int) : begunD (strip p) args = begunD p args := by
  unfold begunD
  rw [fnAt_strip]; rfl

theorem good_strip {p : List FnD} (g : Good p) : Good (strip p) := by
  refine ⟨by simpa [strip] using g.len, fun f x hx => ?_⟩
  unfold strip at hx
  rw [List.getElem?_map] at hx
  obtain ⟨y, hy, rfl⟩ := Option.map_eq_some_iff.1 hx
  have hf := g.fns f y hy
  refine ⟨hf.locals, hf.params, by simpa [stripF] using hf.body, fun s o ho => ?_⟩
  have ho' : (y.body.map stripO)[s]? = some o := ho
  rw [List.getElem?_map] at ho'
  obtain ⟨q, hq, rfl⟩ := Option.map_eq_some_iff.1 ho'
  have hok := hf.ops s q hq
  have hbl : (stripF y).body.length = y.body.length := by simp [stripF]
  have hpl : (strip p).length = p.length := by simp [strip]
  refine ⟨by rw [strip_line]; exact hok.line, by rw [strip_a]; exact hok.a, by rw [strip_code]; exact hok.code, by rw [strip_code, hbl]; exact hok.last, by rw [strip_code, strip_b]; exact hok.set, by rw [strip_code, strip_b, strip_c]; exact hok.three, by rw [strip_code, strip_b, hbl]; exact hok.jump, fun h => ?_⟩
  rw [strip_code] at h
  rw [strip_b, hpl, strip_args h, fnAt_strip]
  exact hok.call h
end Go.Proofs.YtebjndcokkefhaaDoor
namespace Go.Proofs.YtebjndcokkefhaaDoor
open Go.RowKit

theorem RdL.take {α : Type} {size : Nat} {R : World → List Value → α → Prop} {w : World} {a : Option Addr} {len cap : Nat} {l : List α} (h : RdL size R w a len cap l) (k : Nat) (hk : k ≤ len) : RdL size R w a k cap (l.take k) := by
  obtain ⟨h1, h2, h3, h4⟩ := h
  refine ⟨by rw [List.length_take]; omega, by omega, h3, fun i x hx => h4 i x ?_⟩
  rw [List.getElem?_take] at hx
  split at hx
  · exact hx
  · cases hx

set_option maxHeartbeats 1000000 in
set_option maxRecDepth 100000 in
theorem isNamed_any (nm : ByteArray) (a : Option Addr) (len cap : Nat) (p : List FnD) (w : World) (hr : RdP w a len cap p) :
    Calls Tryd.prog 116 #[.string nm, .slice a len cap] w fun e w' => e = .returned (.bool (p.any fun y => eqB y.name nm)) ∧ Below w.heap.size w w' := by
  have HL := hid hr.len
  have hcap := hr.2.1
  have hmax := hr.2.2.1
  unfold maxLen at hmax
  go_enter Tryd.func116, Tryd.ntmps116
  go_wp2
  go_loopw [9] (fun i wr => ∃ j : Nat, i = .int .i64 j ∧ j ≤ len ∧ ((p.take j).any fun y => eqB y.name nm) = false ∧ Below w.heap.size w wr) (fun i _ => len - (intOf i).toNat)
  case atStart => exact ⟨0, rfl, by omega, rfl, Below.refl _ _⟩
  case round =>
    obtain ⟨j, rfl, hj, hno, hbel⟩ := hrel
    have HNO := hid hno
    clear hno
    by_cases hjf : j < len
    · obtain ⟨y, hy⟩ : ∃ y, p[j]? = some y := ⟨_, List.getElem?_eq_getElem (by rw [HL.out]; omega)⟩
      obtain ⟨b, off, ba, bcap, rfl, _, d0, d1, d2, d3, d4, _⟩ := (hr.below hbel).at j y hy
      have hst := any_take_succ p j y (fun z => eqB z.name nm) hy
      rw [HNO.out, Bool.false_or] at hst
      obtain ⟨ym, yf, yp, yl, yb⟩ := y
      simp only at d0 d1 d2 d3 d4 hst
      have HST := hid hst
      clear hst hy hr
      generalize yb.length = nb at *
      obtain ⟨q, hq⟩ : ∃ q, q = eqB ym nm := ⟨_, rfl⟩
      rw [← hq] at HST
      have hqq : (ym.toList == nm.toList) = q := by rw [hq]; rfl
      have HQ := hid hqq
      clear hq
      have hsz := hbel.size
      cases q with
      | true =>
        have HF : Hid ((p.any fun y => eqB y.name nm) = true) := by
          show _ = _
          have e1 : p = p.take (j + 1) ++ p.drop (j + 1) := (List.take_append_drop _ _).symm
          rw [e1, List.any_append, HST.out, Bool.true_or]
        go_wp2
        go_ret
        exact ⟨ret_bool HF.out.symm, hbel.alloc hsz _⟩
      | false =>
        go_wp2
        go_roundw
        case rel => exact ⟨j + 1, by go_num, by omega, HST.out, hbel.alloc hsz _⟩
        case measure => simp [intOf]; omega
    · have HF : Hid ((p.any fun y => eqB y.name nm) = false) := by
        show _ = _
        have := HNO.out
        rw [List.take_of_length_le (by rw [HL.out]; omega)] at this
        exact this
      go_wp2
      go_ret
      exact ⟨ret_bool HF.out.symm, hbel⟩

set_option maxHeartbeats 1000000 in
set_option maxRecDepth 100000 in
theorem isLocal_any (nm fl : ByteArray) (pr lo : Int) (ba : Option Addr) (nb bcap : Nat) (n : Int) (w : World) :
    Calls Tryd.prog 117 #[.agg #[.string nm, .string fl, .int .i64 pr, .int .i64 lo, .slice ba nb bcap], .int .i64 n] w fun r w' => r = .returned (.bool (withB n lo)) ∧ Below w.heap.size w w' := by
  by_cases h : 0 ≤ n
  · have E : Hid (withB n lo = decide (n < lo)) := by show _ = _; simp [withB, h]
    go_enter Tryd.func117, Tryd.ntmps117
    go_wp2
    go_ret
    exact ⟨ret_bool E.out.symm, (Below.refl _ _).alloc (Nat.le_refl _) _⟩
  · have E : Hid (withB n lo = false) := by show _ = _; simp [withB, h]
    have hd : decide (0 ≤ n) = false := by simpa using h
    go_enter Tryd.func117, Tryd.ntmps117
    go_wp2
    go_ret
    exact ⟨ret_bool E.out.symm, (Below.refl _ _).alloc (Nat.le_refl _) _⟩

set_option maxHeartbeats 1000000 in
theorem pIsValue_any (n : Int) (w : World) :
    Calls Tryd.prog 105 #[.int .i64 n] w fun r w' => r = .returned (.bool (withB n 1000)) ∧ w' = w := by
  by_cases h : 0 ≤ n
  · have E : Hid (withB n 1000 = decide (n < 1000)) := by show _ = _; simp [withB, h]
    go_enter Tryd.func105, Tryd.ntmps105
    go_wp2
    go_ret
    exact ⟨ret_bool E.out.symm, rfl⟩
  · have E : Hid (withB n 1000 = false) := by show _ = _; simp [withB, h]
    have hd : decide (0 ≤ n) = false := by simpa using h
    go_enter Tryd.func105, Tryd.ntmps105
    go_wp2
    go_ret
    exact ⟨ret_bool E.out.symm, rfl⟩

set_option maxHeartbeats 2000000 in
set_option maxRecDepth 100000 in
theorem pArgs_any (nm fl : ByteArray) (pr lo : Int) (ba : Option Addr) (nb bcap : Nat) (aa : Option Addr) (na acap : Nat) (args : List Int) (k : Int) (w : World) (hr : Rd .i64 w aa na acap args) :
    Calls Tryd.prog 118 #[.agg #[.string nm, .string fl, .int .i64 pr, .int .i64 lo, .slice ba nb bcap], .slice aa na acap, .int .i64 k] w fun r w' => r = .returned (.bool (k == (na : Int) && args.all fun n => withB n lo)) ∧ Below w.heap.size w w' := by
  have HL := hid hr.hlen
  have hcap := hr.hcap
  have hmax := hr.hmax
  unfold maxLen at hmax
  by_cases hk : k = (na : Int)
  · have hk' : ((na : Int) != k) = false := by simp; omega
    have HE : Hid ((k == (na : Int) && args.all fun n => withB n lo) = args.all fun n => withB n lo) := by
      show _ = _
      have : (k == (na : Int)) = true := by simpa using hk
      rw [this, Bool.true_and]
    clear hk
    go_enter Tryd.func118, Tryd.ntmps118
    go_wp2
    obtain ⟨wb, hwb⟩ : ∃ wb, wb = w.alloc (Obj.cells #[.string nm, .string fl, .int .i64 pr, .int .i64 lo, .slice ba nb bcap] 74) := ⟨_, rfl⟩
    have hbb : Below w.heap.size w wb := by rw [hwb]; exact (Below.refl _ _).alloc (Nat.le_refl _) _
    have hbs : wb.heap.size = w.heap.size + 1 := by rw [hwb]; simp
    have hk0 : wb.heap[w.heap.size]? = some (.cells #[.string nm, .string fl, .int .i64 pr, .int .i64 lo, .slice ba nb bcap] 74 (0, 0)) := by rw [hwb]; exact heap_alloc_new _ _
    have HK := hid hk0
    go_loopw [15] (fun i wr => ∃ j : Nat, i = .int .i64 j ∧ j ≤ na ∧ ((args.take j).all fun n => withB n lo) = true ∧ Below wb.heap.size wb wr) (fun i _ => na - (intOf i).toNat)
    case atStart => exact ⟨0, rfl, by omega, rfl, by rw [hwb]; exact Below.refl _ _⟩
    case round =>
      clear hwb hk0
      obtain ⟨j, rfl, hj, hall, hbel0⟩ := hrel
      have hkr := (hbel0.block w.heap.size (by omega)).trans HK.out
      have q0 : wr.cell? ⟨w.heap.size, 0, none⟩ = some (.string nm) := by simp [World.cell?, hkr]
      have q1 : wr.cell? ⟨w.heap.size, 1, none⟩ = some (.string fl) := by simp [World.cell?, hkr]
      have q2 : wr.cell? ⟨w.heap.size, 2, none⟩ = some (.int .i64 pr) := by simp [World.cell?, hkr]
      have q3 : wr.cell? ⟨w.heap.size, 3, none⟩ = some (.int .i64 lo) := by simp [World.cell?, hkr]
      have q4 : wr.cell? ⟨w.heap.size, 4, none⟩ = some (.slice ba nb bcap) := by simp [World.cell?, hkr]
      have hsz0 := hbel0.size
      clear hkr
      have hbel := hbb.trans (hbel0.mono hbb.size)
      have HA := hid hall
      clear hall
      have hsz := hbel.size
      by_cases hjn : j < na
      · obtain ⟨b, off, rfl, hc⟩ := (hr.below hbel (Nat.le_refl _)).cell j hjn
        have hst := all_take_succ args j (args.getD j 0) (fun n => withB n lo) (by rw [List.getD_eq_getElem?_getD, List.getElem?_eq_getElem (by rw [HL.out]; exact hjn)]; rfl)
        rw [HA.out, Bool.true_and] at hst
        generalize args.getD j 0 = v at hc hst
        have HIS := hid (fun W => isLocal_any nm fl pr lo ba nb bcap v W)
        have HST := hid hst
        clear hst hr
        have hjn' : (j : Int) < (na : Int) := by omega
        obtain ⟨t, ht⟩ : ∃ t, t = withB v lo := ⟨_, rfl⟩
        rw [← ht] at HIS HST
        clear ht
        cases t with
        | true =>
          go_wp2_with fail
          refine (HIS.out _).mono ?_
          rintro e w2 ⟨rfl, hb2⟩
          go_wp2
          go_roundw
          case rel => exact ⟨j + 1, by go_num, by omega, HST.out, hbel0.trans (hb2.mono hsz0)⟩
          case measure => simp [intOf]; omega
        | false =>
          have HF : Hid ((args.all fun n => withB n lo) = false) := by
            show _ = _
            have e1 : args = args.take (j + 1) ++ args.drop (j + 1) := (List.take_append_drop _ _).symm
            rw [e1, List.all_append, HST.out, Bool.false_and]
          go_wp2_with fail
          refine (HIS.out _).mono ?_
          rintro e w2 ⟨rfl, hb2⟩
          go_wp2
          go_ret
          exact ⟨ret_bool (HE.out.trans HF.out).symm, hbel.trans (hb2.mono hsz)⟩
      · have HF : Hid ((args.all fun n => withB n lo) = true) := by
          show _ = _
          have := HA.out
          rw [List.take_of_length_le (by rw [HL.out]; omega)] at this
          exact this
        have hjn' : decide ((j : Int) < (na : Int)) = false := by simp; omega
        go_wp2
        go_ret
        exact ⟨ret_bool (HE.out.trans HF.out).symm, hbel⟩
  · have hk' : ((na : Int) != k) = true := by simp; omega
    have HF : Hid ((k == (na : Int) && args.all fun n => withB n lo) = false) := by
      show _ = _
      have : (k == (na : Int)) = false := by simpa using hk
      rw [this, Bool.false_and]
    clear hk
    go_enter Tryd.func118, Tryd.ntmps118
    go_wp2
    go_ret
    exact ⟨ret_bool HF.out.symm, (Below.refl _ _).alloc (Nat.le_refl _) _⟩
end Go.Proofs.YtebjndcokkefhaaDoor
namespace Go.Proofs.YtebjndcokkefhaaDoor
open Go.RowKit

/-- Eight locals: those that a frame has, and noughts. -/
def pad8 (l : List Int) : List Int := l ++ List.replicate (8 - l.length) 0
def frmCells (x : LiveD) : List Value := .int .i64 x.fn :: .int .i64 x.next :: (pad8 x.locals).map (Value.int .i64)

theorem pad8_len {l : List Int} (h : l.length ≤ 8) : (pad8 l).length = 8 := by simp [pad8]; omega
theorem pad8_get {l : List Int} {k : Nat} (h : k < l.length) : (pad8 l).getD k 0 = (l[k]?).getD 0 := by
  unfold pad8
  rw [List.getD_eq_getElem?_getD, List.getElem?_append_left h]
theorem pad8_set {l : List Int} {k : Nat} {v : Int} (h : k < l.length) : pad8 (l.set k v) = (pad8 l).set k v := by
  unfold pad8
  rw [List.set_append_left _ _ h, List.length_set]
theorem eight {l : List Int} (h : l.length = 8) : ∃ a b c d e f g i, l = [a, b, c, d, e, f, g, i] := by
  match l, h with
  | [a, b, c, d, e, f, g, i], _ => exact ⟨a, b, c, d, e, f, g, i, rfl⟩

set_option maxHeartbeats 4000000 in
set_option maxRecDepth 100000 in
theorem goOn_any (x : LiveD) (k : Nat) (v : Int) (w : World) (hl : x.locals.length ≤ 8) (hk : k < x.locals.length) (hn : 0 ≤ x.next ∧ x.next ≤ 1000) :
    Calls Tryd.prog 111 #[.agg (frmCells x).toArray, .int .i64 k, .int .i64 v] w fun e w' => e = .returned (.agg (frmCells ⟨x.fn, x.next + 1, x.locals.set k v⟩).toArray) ∧ Below w.heap.size w w' := by
  obtain ⟨fn, nx, l⟩ := x
  simp only at hl hk hn ⊢
  have hps : (pad8 (l.set k v)) = (pad8 l).set k v := pad8_set hk
  have hpl := pad8_len hl
  unfold frmCells
  simp only
  rw [hps]
  generalize pad8 l = q at *
  obtain ⟨a, b, c, d, e, f, g, i, rfl⟩ := eight hpl
  have hk8 : k < 8 := by omega
  obtain ⟨hn1, hn2⟩ := hn
  clear hps hpl hk hl
  have hkk : k = 0 ∨ k = 1 ∨ k = 2 ∨ k = 3 ∨ k = 4 ∨ k = 5 ∨ k = 6 ∨ k = 7 := by omega
  clear hk8
  rcases hkk with rfl | rfl | rfl | rfl | rfl | rfl | rfl | rfl
  all_goals
    go_enter Tryd.func111, Tryd.ntmps111
    go_wp2
    refine bodyPost_ret ?h rfl ⟨rfl, ?b⟩
    case h => simp [results, Tryd.results111, go_sem]
    case b => exact ((Below.refl _ _).alloc (Nat.le_refl _) _).alloc (by simp) _

set_option maxHeartbeats 4000000 in
set_option maxRecDepth 100000 in
theorem jump_any (x : LiveD) (k : Nat) (oc ol ob od : Int) (ov : Value) (w : World) (hl : x.locals.length ≤ 8) (hk : k < x.locals.length) (hn : 0 ≤ x.next ∧ x.next ≤ 1000) (aa : Option Addr) (na acap : Nat) (hov : ov = .slice aa na acap) :
    Calls Tryd.prog 107 #[.agg (frmCells x).toArray, .agg #[.int .i64 oc, .int .i64 ol, .int .i64 k, .int .i64 ob, .int .i64 od, ov]] w fun e w' => e = .returned (.agg (frmCells ⟨x.fn, if locOf x k = 0 then x.next + 1 else ob, x.locals⟩).toArray) ∧ Below w.heap.size w w' := by
  subst hov
  obtain ⟨fn, nx, l⟩ := x
  simp only at hl hk hn ⊢
  have hgt : (pad8 l).getD k 0 = locOf ⟨fn, nx, l⟩ k := by rw [pad8_get hk]; simp [locOf]
  have hpl := pad8_len hl
  unfold frmCells
  simp only
  rw [← hgt]
  generalize pad8 l = q at *
  obtain ⟨a, b, c, d, e, f, g, i, rfl⟩ := eight hpl
  have hkk : k = 0 ∨ k = 1 ∨ k = 2 ∨ k = 3 ∨ k = 4 ∨ k = 5 ∨ k = 6 ∨ k = 7 := by omega
  obtain ⟨hn1, hn2⟩ := hn
  clear hgt hpl hk hl
  obtain ⟨z, hz⟩ : ∃ z, z = [a, b, c, d, e, f, g, i].getD k 0 := ⟨_, rfl⟩
  rw [← hz]
  by_cases hz0 : z = 0
  · rw [if_pos hz0]
    rcases hkk with rfl | rfl | rfl | rfl | rfl | rfl | rfl | rfl
    all_goals
      simp at hz
      rw [hz] at hz0
      subst hz0
      clear hz
      go_enter Tryd.func107, Tryd.ntmps107
      go_wp2
      refine bodyPost_ret ?h rfl ⟨rfl, ?b⟩
      case h => simp [results, Tryd.results107, go_sem]
      case b => exact (((Below.refl _ _).alloc (Nat.le_refl _) _).alloc (by simp) _).alloc (by simp; omega) _
  · rw [if_neg hz0]
    rcases hkk with rfl | rfl | rfl | rfl | rfl | rfl | rfl | rfl
    all_goals
      simp at hz
      subst hz
      have hz' : (z != 0) = true := by simpa using hz0
      go_enter Tryd.func107, Tryd.ntmps107
      go_wp2
      refine bodyPost_ret ?h rfl ⟨rfl, ?b⟩
      case h => simp [results, Tryd.results107, go_sem]
      case b => exact (((Below.refl _ _).alloc (Nat.le_refl _) _).alloc (by simp) _).alloc (by simp; omega) _
end Go.Proofs.YtebjndcokkefhaaDoor
