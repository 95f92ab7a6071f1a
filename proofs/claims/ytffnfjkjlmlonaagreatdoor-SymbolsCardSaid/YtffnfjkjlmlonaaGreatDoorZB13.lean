/- Contracts of the statement's own functions bytesOf and bytesStill: a list of bytes that is handed in with eight marks behind it, and the look whether it stands so still. Contracts of the reference's goodHead and goodCall: they give the plain functions headB and callB; nothing that was there is written. The contract of the reference's goodOp: it gives the plain function opB; nothing that was there is written. Rows of entries of several cells each: reading, storing, and what make lays. The contract of the statement's own function funcOf: it gives a function to hand in, its body with eight marks behind it; nothing that was there is written. The contract of the statement's own function funcStill: at a function as it was handed in it returns true; nothing that was there is written. The contract of the statement's own function programOf: it gives a program to hand in, with eight marks behind its functions; nothing that was there is written. -/
import Derived.Test.YtffnfjkjlmlonaaGreatDoorZB3
import Derived.Test.YtffnfjkjlmlonaaGreatDoorZB12
import Derived.Test.YtffnfjkjlmlonaaGreatDoorZB2
import Derived.OneCell
import Derived.RegionTactic
import Derived.BigRegion
import Derived.Deep.RegionWith
namespace Go.Proofs.YtffnfjkjlmlonaaGreatDoor
open Go.RowKit
theorem Tryz.infoByte1 : (Tryz.prog.info? 5).map (·.size) = some 1 := by kernel_rfl
theorem conv_bytes {a : Option Addr} {len cap : Nat} {bs : List Int} (w : World) (hr : Rd .u8 w a len cap bs) : (convert 36 9 (.slice a len cap)).run Tryz.prog w = .ok (.string (strOfNums bs)) w := by
  by_cases hpos : 0 < len
  · obtain ⟨b, off, rfl, hc⟩ := hr.open hpos
    exact run_convert_bytes_arg (P := Tryz.prog) w 36 5 Tryz.underlying36 Tryz.underlying5 b off len cap bs hr.hlen hc 9 Tryz.underlying9
  · have hl : bs = [] := List.eq_nil_of_length_eq_zero (by rw [hr.hlen]; omega)
    have h0 : len = 0 := by omega
    subst hl h0
    cases a with
    | none => exact run_convert_bytes_nil (P := Tryz.prog) w 36 5 Tryz.underlying36 Tryz.underlying5 0 cap 9 Tryz.underlying9
    | some ad =>
      rw [run_convert_bytes_string w 36 9 5 _ 0 cap Tryz.underlying36 Tryz.underlying5 Tryz.underlying9]
      simp [Conv.bytesToString, loadCells, loadCellsFrom]
      rfl
set_option maxHeartbeats 1000000 in
set_option maxRecDepth 100000 in
theorem sameBytes_all (a : Option Addr) (len cap : Nat) (bs : List Int) (a2 : Option Addr) (cap2 : Nat) (w : World) (hr : Rd .u8 w a len cap bs) (hr2 : Rd .u8 w a2 len cap2 bs) :
    Calls Tryz.prog 19 #[.slice a len cap, .slice a2 len cap2] w fun e w' => e = .returned (.bool true) ∧ Below w.heap.size w w' := by
  have h1 := conv_bytes w hr
  have h2 := conv_bytes w hr2
  have hmax := hr.hmax
  have hcap := hr.hcap
  have hmax2 := hr2.hmax
  have hcap2 := hr2.hcap
  unfold maxLen at hmax hmax2
  clear hr hr2
  generalize strOfNums bs = st at *
  go_enter Tryz.func19, Tryz.ntmps19
  go_wp2
  go_ret
  exact ⟨by simp, Below.refl _ _⟩
def byts (l : List Int) : List Value := l.map (Value.int .u8)
theorem byts_len (l : List Int) : (byts l).length = l.length := by simp [byts]
theorem byts_get (l : List Int) (i : Nat) (h : i < l.length) : (byts l)[i]? = some (.int .u8 (l.getD i 0)) := by simp [byts, List.getD, h]
theorem byts_set (l : List Int) (i : Nat) (x : Int) : (byts l).set i (.int .u8 x) = byts (l.set i x) := by simp [byts]
theorem byts_one (l : List Int) : ∀ u ∈ byts l, u.oneCell' = true := by
  intro u hu
  obtain ⟨x, _, rfl⟩ := List.mem_map.1 hu
  rfl
theorem made_byts (n : Nat) : (madeCells (Value.int .u8 0).cells (n * 1)).toList = byts (List.replicate n 0) := by
  rw [Nat.mul_one, show (Value.int .u8 0).cells = #[Value.int .u8 0] from rfl, toList_madeCells_one]
  simp [byts]
theorem Rd.srcB {w : World} {b off len cap : Nat} {l : List Int} (h : Rd .u8 w (some ⟨b, off, none⟩) len cap l) : ∀ j v, (byts l)[j]? = some v → w.cell? ((⟨b, off, none⟩ : Addr).add j) = some v := by
  intro j v hj
  have hlt : j < (byts l).length := by
    rcases Nat.lt_or_ge j (byts l).length with h | h
    · exact h
    · rw [List.getElem?_eq_none h] at hj; cases hj
  rw [byts_len] at hlt
  rw [byts_get l j hlt] at hj
  cases hj
  have e1 : (⟨b, off, none⟩ : Addr).add j = ⟨b, off + j, none⟩ := by unfold Addr.add; split <;> simp_all
  rw [e1]
  obtain ⟨_, _, e, hc⟩ := h.cell j (by rw [← h.hlen]; exact hlt)
  cases e
  exact hc
/-- A list of numbers, made to be handed in. -/
def HdBs (w : World) (base : Nat) (a : Option Addr) (l : List Int) (hv : Value) : Prop :=
  (a = none ∧ l = [] ∧ hv = .slice none 0 0) ∨
  (a ≠ none ∧ ∃ g, hv = .slice (some ⟨g, 0, none⟩) l.length (l.length + 8) ∧ w.ownsRow base 5 1 (.slice (some ⟨g, 0, none⟩) (l.length + 8) (l.length + 8)) (l.length + 8) (byts (markI l 8)))
theorem HdBs.below {w w' : World} {base : Nat} {a : Option Addr} {l : List Int} {hv : Value} (h : HdBs w base a l hv) (hb : Below w.heap.size w w') : HdBs w' base a l hv := by
  rcases h with h | ⟨h1, g, e, ho⟩
  · exact .inl h
  · exact .inr ⟨h1, g, e, owns_below ho hb⟩
/-- What is handed in reads as the list that it was made of. -/
theorem HdBs.read {w : World} {base : Nat} {a : Option Addr} {l : List Int} {hv : Value} (h : HdBs w base a l hv) : ∃ a' cap, hv = .slice a' l.length cap ∧ Rd .u8 w a' l.length cap l := by
  rcases h with ⟨_, rfl, rfl⟩ | ⟨_, g, rfl, ho⟩
  · exact ⟨none, 0, rfl, rfl, Nat.le_refl _, by unfold maxLen; omega, fun i hi => by simp at hi⟩
  · have hml := markI_len l 8 (by omega)
    have hcm : l.length + 8 ≤ maxLen := by
      rcases ho.2 with ⟨h', _⟩ | ⟨g', cap', cur, h', _, _, _, hcm, _⟩
      · cases h'
      · cases h'; exact hcm
    refine ⟨_, _, rfl, rfl, by omega, hcm, fun i hi => ⟨g, 0, rfl, ?_⟩⟩
    have := ho.cellAt i (by omega)
    rw [byts_get _ i (by omega), markI_old l i hi] at this
    rw [Nat.zero_add]
    exact this
set_option maxHeartbeats 1000000 in
set_option maxRecDepth 100000 in
theorem bytesOf_any (a : Option Addr) (len cap : Nat) (l : List Int) (w : World) (hr : Rd .u8 w a len cap l) (hlen : len ≤ 140737488355328) :
    Calls Tryz.prog 25 #[.slice a len cap] w fun e w' => ∃ hv, e = .returned hv ∧ HdBs w' w.heap.size a l hv ∧ Below w.heap.size w w' := by
  have HL := hid hr.hlen
  obtain ⟨i0, hi, hz0, hz1, hz2⟩ := info_parts Tryz.infoByte
  cases a with
  | none =>
    have hnil := fun W => Lib.run_eql_slice_nil (P := Tryz.prog) W 36 5 none len cap 0 0 Tryz.underlying36
    have hl0 : l = [] := by
      have : ¬ 0 < len := fun h => by obtain ⟨_, _, e, _⟩ := hr.cell 0 h; cases e
      exact List.eq_nil_of_length_eq_zero (by rw [HL.out]; omega)
    have HL0 := hid hl0
    clear hl0
    go_enter Tryz.func25, Tryz.ntmps25
    go_wp2
    go_ret
    exact ⟨_, rfl, .inl ⟨rfl, HL0.out, rfl⟩, Below.refl _ _⟩
  | some ad =>
    have hnil := fun W => Lib.run_eql_slice_nil (P := Tryz.prog) W 36 5 (some ad) len cap 0 0 Tryz.underlying36
    obtain ⟨wm, hmk, hown, hgr⟩ := run_make_full (P := Tryz.prog) w w.heap.size 36 5 i0 (.int .u8 0) 1 Tryz.underlying36 hi hz0 hz1 .i64 .i64 (len + 8) (by rw [hz2]; omega) (by unfold maxLen; omega) (Nat.le_refl _)
    rw [made_byts] at hown
    have ec : ((len + 8 : Nat) : Int) = (len : Int) + 8 := by omega
    rw [ec] at hmk
    have hbm : Below w.heap.size w wm := (Below.refl _ _).grown hgr (Nat.le_refl _) (fun k hk => by cases hk)
    have hrm := hr.below hbm (Nat.le_refl _)
    have hsrc : ∀ j v, (byts l)[j]? = some v → wm.cell? (ad.add j) = some v := by
      intro j v hj
      have hlt : 0 < len := by
        rcases Nat.lt_or_ge j (byts l).length with h | h
        · rw [byts_len, HL.out] at h; omega
        · rw [List.getElem?_eq_none h] at hj; cases hj
      obtain ⟨_, _, e, _⟩ := hrm.cell 0 hlt
      cases e
      exact hrm.srcB j v hj
    have HSRC := hid hsrc
    have HO0 := hid hown
    clear hown hgr hrm hsrc
    go_enter Tryz.func25, Tryz.ntmps25
    go_wp2_with (refine wpList_copy_wide rfl (.tmp 11) (.tmp 12) 36 36 rfl 5 1 w.heap.size Tryz.underlying36 Tryz.infoByte1 w.heap.size (len + 8) (len + 8) ad len cap rfl rfl (byts (List.replicate (len + 8) 0)) HO0.out (byts l) (by rw [byts_len, HL.out, Nat.mul_one]) (by omega) HSRC.out (byts_one l) ?_)
    intro wc hownc hgrc
    have hbc : Below w.heap.size w wc := hbm.grown hgrc hbm.size (fun k hk => by cases hk; exact Nat.le_refl _)
    have hfl : byts l ++ (byts (List.replicate (len + 8) 0)).drop (byts l).length = byts (markI l 0) := by
      have e1 : List.replicate (len + 8) (0 : Int) = List.replicate len 0 ++ List.replicate 8 0 := by rw [List.replicate_append_replicate]
      rw [e1]
      simp only [byts, markI, List.map_append, List.length_map]
      rw [List.drop_append_of_le_length (by simp [HL.out]), List.drop_of_length_le (by simp [HL.out])]
      rfl
    rw [hfl] at hownc
    have HO := hid hownc
    clear hownc hgrc hfl hbm HO0 HSRC hmk hr
    go_wp2
    go_loopw [4] (fun i wr => ∃ k : Nat, i = .int .i64 ((len : Int) + k) ∧ k ≤ 8 ∧ wr.ownsRow w.heap.size 5 1 (.slice (some ⟨w.heap.size, 0, none⟩) (len + 8) (len + 8)) (len + 8) (byts (markI l k)) ∧ Below w.heap.size w wr) (fun i _ => (len + 8) - (intOf i).toNat)
    case atStart => exact ⟨0, by go_num, by omega, HO.out, hbc⟩
    case round =>
      clear HO hbc
      obtain ⟨k, rfl, hk, hown, hbel⟩ := hrel
      by_cases hk8 : k < 8
      · have hlt : (len : Int) + k < (len : Int) + 8 := by omega
        have e0 : ((len : Int) + (k : Int)).toNat = len + k := by omega
        have hml := markI_len l k (by omega)
        rw [HL.out] at hml
        have hc1 := hown.cellAt (len + k) (by omega)
        rw [byts_get _ _ (by rw [hml]; omega)] at hc1
        generalize (markI l k).getD (len + k) 0 = o1 at hc1
        have hf1 := hown.frozenAt (len + k)
        have hs1 := hown.stored (len + k) (.int .u8 77)
        rw [byts_set] at hs1
        have hms := markI_set l k hk8
        rw [HL.out] at hms
        rw [hms] at hs1
        have HS := hid hs1.1
        clear hs1 hms hml hown
        go_wp2
        go_roundw
        case rel => exact ⟨k + 1, by go_num, by omega, HS.out, hbel.setCell (by exact Nat.le_refl _) _⟩
        case measure => simp [intOf]; omega
      · have hk' : k = 8 := by omega
        subst hk'
        have HO := hid hown
        clear hown
        go_wp2
        go_ret
        refine ⟨_, rfl, .inr ⟨by simp, w.heap.size, ?_, ?_⟩, hbel⟩
        · rw [HL.out]; rfl
        · have := HO.out
          rw [← HL.out] at this
          exact this
set_option maxHeartbeats 1000000 in
set_option maxRecDepth 100000 in
theorem bytesStill_any (base : Nat) (a : Option Addr) (len cap : Nat) (l : List Int) (hv : Value) (w : World) (hh : HdBs w base a l hv) (hr : Rd .u8 w a len cap l) (hlen : len ≤ 140737488355328) :
    Calls Tryz.prog 27 #[hv, .slice a len cap] w fun e w' => e = .returned (.bool true) ∧ Below w.heap.size w w' := by
  have HL := hid hr.hlen
  obtain ⟨a', cap', rfl, hrh⟩ := hh.read
  have hnil := fun W => Lib.run_eql_slice_nil (P := Tryz.prog) W 36 5 a len cap 0 0 Tryz.underlying36
  have hsame := sameBytes_all a' l.length cap' l a cap w hrh (by rw [HL.out]; exact hr)
  rw [HL.out] at hsame ⊢
  have HS := hid hsame
  clear hsame hrh
  cases a with
  | none =>
    go_enter Tryz.func27, Tryz.ntmps27
    go_wp2_with (go_at_call 19; refine HS.out.mono ?_; rintro e w1 ⟨rfl, hb⟩)
    go_ret
    exact ⟨rfl, hb⟩
  | some ad =>
    rcases hh with ⟨h, _⟩ | ⟨_, g, e, ho⟩
    · cases h
    · rw [HL.out] at e ho
      cases e
      have hge : decide ((len : Int) + 8 < (len : Int) + 8) = false := by simp
      go_enter Tryz.func27, Tryz.ntmps27
      go_wp2_with (go_at_call 19; refine HS.out.mono ?_; rintro e w1 ⟨rfl, hb⟩)
      have ho1 := owns_below ho hb
      clear HS hnil ho hr
      go_loopw [7] (fun i wr => ∃ k : Nat, i = .int .i64 ((len : Int) + k) ∧ k ≤ 8 ∧ Below w1.heap.size w1 wr) (fun i _ => (len + 8) - (intOf i).toNat)
      case atStart => exact ⟨0, by go_num, by omega, Below.refl _ _⟩
      case round =>
        obtain ⟨k, rfl, hk, hbel⟩ := hrel
        have hown := owns_below ho1 hbel
        by_cases hk8 : k < 8
        · have hlt : (len : Int) + k < (len : Int) + 8 := by omega
          have e0 : ((len : Int) + (k : Int)).toNat = len + k := by omega
          have hml := markI_len l 8 (by omega)
          have hm77 := markI_at l k hk8
          rw [HL.out] at hml hm77
          have hc1 := hown.cellAt (len + k) (by omega)
          rw [byts_get _ _ (by rw [hml]; omega), hm77] at hc1
          clear hm77 hml hown ho1
          go_wp2
          go_roundw
          case rel => exact ⟨k + 1, by go_num, by omega, hbel⟩
          case measure => simp [intOf]; omega
        · have hk' : k = 8 := by omega
          subst hk'
          clear hown ho1
          go_wp2
          go_ret
          exact ⟨rfl, hb.trans (hbel.mono hb.size)⟩
end Go.Proofs.YtffnfjkjlmlonaaGreatDoor
namespace Go.Proofs.YtffnfjkjlmlonaaGreatDoor
open Go.RowKit
theorem RdL.len {α : Type} {size : Nat} {R : World → List Value → α → Prop} {w : World} {a : Option Addr} {len cap : Nat} {l : List α} (h : RdL size R w a len cap l) : l.length = len := h.1
/-- One function of a program, as it lies in memory. -/
theorem RdP.at {w : World} {a : Option Addr} {len cap : Nat} {p : List FnD} (h : RdP w a len cap p) (i : Nat) (x : FnD) (hx : p[i]? = some x) :
    ∃ b off ba bcap, a = some ⟨b, off, none⟩ ∧ b < w.heap.size ∧ w.cell? ⟨b, off + i * 5, none⟩ = some (.string x.name) ∧ w.cell? ⟨b, off + i * 5 + 1, none⟩ = some (.string x.file) ∧
      w.cell? ⟨b, off + i * 5 + 2, none⟩ = some (.int .i64 x.params) ∧ w.cell? ⟨b, off + i * 5 + 3, none⟩ = some (.int .i64 x.locals) ∧
      w.cell? ⟨b, off + i * 5 + 4, none⟩ = some (.slice ba x.body.length bcap) ∧ RdL 6 RdOp w ba x.body.length bcap x.body ∧ x.name.size ≤ maxLen ∧ x.file.size ≤ maxLen := by
  obtain ⟨b, off, cs, e, hl, hc, ba, bcap, rfl, hr, h1, h2⟩ := h.2.2.2 i x hx
  have c0 := hc 0 _ rfl
  exact ⟨b, off, ba, bcap, e, World.block_lt_of_cell? w _ c0, c0, hc 1 _ rfl, hc 2 _ rfl, hc 3 _ rfl, hc 4 _ rfl, hr, h1, h2⟩
end Go.Proofs.YtffnfjkjlmlonaaGreatDoor
namespace Go.Proofs.YtffnfjkjlmlonaaGreatDoor
open Go.RowKit
/-- One op of a body, as it lies in memory. -/
theorem RdL.opAt {w : World} {a : Option Addr} {len cap : Nat} {l : List OpD} (h : RdL 6 RdOp w a len cap l) (i : Nat) (o : OpD) (ho : l[i]? = some o) :
    ∃ b off aa acap, a = some ⟨b, off, none⟩ ∧ b < w.heap.size ∧ w.cell? ⟨b, off + i * 6, none⟩ = some (.int .i64 o.code) ∧ w.cell? ⟨b, off + i * 6 + 1, none⟩ = some (.int .i64 o.line) ∧
      w.cell? ⟨b, off + i * 6 + 2, none⟩ = some (.int .i64 o.a) ∧ w.cell? ⟨b, off + i * 6 + 3, none⟩ = some (.int .i64 o.b) ∧ w.cell? ⟨b, off + i * 6 + 4, none⟩ = some (.int .i64 o.c) ∧
      w.cell? ⟨b, off + i * 6 + 5, none⟩ = some (.slice aa o.args.length acap) ∧ Rd .i64 w aa o.args.length acap o.args := by
  obtain ⟨b, off, cs, e, hl, hc, aa, acap, rfl, hr⟩ := h.2.2.2 i o ho
  have c0 := hc 0 _ rfl
  exact ⟨b, off, aa, acap, e, World.block_lt_of_cell? w _ c0, c0, hc 1 _ rfl, hc 2 _ rfl, hc 3 _ rfl, hc 4 _ rfl, hc 5 _ rfl, hr⟩
end Go.Proofs.YtffnfjkjlmlonaaGreatDoor
namespace Go.Proofs.YtffnfjkjlmlonaaGreatDoor
open Go.RowKit
theorem flatten_len (k : Nat) : ∀ (ess : List (List Value)), (∀ e ∈ ess, e.length = k) → ess.flatten.length = ess.length * k
  | [], _ => by simp
  | e :: r, h => by
    have h1 := h e (by simp)
    have h2 := flatten_len k r (fun x hx => h x (by simp [hx]))
    simp only [List.flatten_cons, List.length_append, List.length_cons, h1, h2, Nat.add_mul]; omega
theorem flatten_get (k : Nat) : ∀ (ess : List (List Value)) (i j : Nat), (∀ e ∈ ess, e.length = k) → i < ess.length → j < k → ess.flatten[i * k + j]? = (ess.getD i [])[j]?
  | [], i, _, _, h, _ => by simp at h
  | e :: r, 0, j, hk, _, hj => by
    have h1 := hk e (by simp)
    rw [Nat.zero_mul, Nat.zero_add, List.flatten_cons, List.getElem?_append_left (by omega)]
    rfl
  | e :: r, i + 1, j, hk, hi, hj => by
    have h1 := hk e (by simp)
    have ih := flatten_get k r i j (fun x hx => hk x (by simp [hx])) (by simpa using hi) hj
    have e1 : (i + 1) * k + j = k + (i * k + j) := by rw [Nat.add_mul]; omega
    rw [List.flatten_cons, List.getElem?_append_right (by omega), h1, e1, Nat.add_sub_cancel_left, ih]
    rfl
theorem flatten_set (k : Nat) : ∀ (ess : List (List Value)) (i j : Nat) (v : Value), (∀ e ∈ ess, e.length = k) → i < ess.length → j < k → ess.flatten.set (i * k + j) v = (ess.set i ((ess.getD i []).set j v)).flatten
  | [], i, _, _, _, h, _ => by simp at h
  | e :: r, 0, j, v, hk, _, hj => by
    have h1 := hk e (by simp)
    rw [Nat.zero_mul, Nat.zero_add, List.flatten_cons, List.set_append_left _ _ (by omega)]
    rfl
  | e :: r, i + 1, j, v, hk, hi, hj => by
    have h1 := hk e (by simp)
    have ih := flatten_set k r i j v (fun x hx => hk x (by simp [hx])) (by simpa using hi) hj
    have e1 : (i + 1) * k + j = k + (i * k + j) := by rw [Nat.add_mul]; omega
    rw [List.flatten_cons, List.set_append_right _ _ (by omega), h1, e1, Nat.add_sub_cancel_left, ih]
    rfl
theorem set_all_len {k : Nat} {ess : List (List Value)} (h : ∀ e ∈ ess, e.length = k) (i : Nat) (c : List Value) (hc : c.length = k) : ∀ e ∈ ess.set i c, e.length = k := by
  intro e he
  rcases List.mem_or_eq_of_mem_set he with h' | h'
  · exact h e h'
  · rw [h']; exact hc
/-- A row of the call's own is not a block of another element type. -/
theorem owns_other' {w : World} {base : Nat} {e e' : TypeId} {size : Nat} {v : Value} {n : Nat} {xs : List Value} (h : w.ownsRow base e size v n xs) {g : Nat} {cs : Array Value} {fz : Nat × Nat} (hg : w.heap[g]? = some (.cells cs e' fz)) (hne : e ≠ e') : some g ≠ v.ownBlock := by
  rcases h.2 with ⟨rfl, _⟩ | ⟨g', cap, cur, rfl, _, hh, _⟩
  · simp [Value.ownBlock]
  · intro hb
    simp [Value.ownBlock] at hb
    subst hb
    rw [hg] at hh
    injection hh with hh
    injection hh with _ hh _
    exact hne hh.symm
def opCells (o : OpD) (hv : Value) : List Value := [.int .i64 o.code, .int .i64 o.line, .int .i64 o.a, .int .i64 o.b, .int .i64 o.c, hv]
def markOp : List Value := [.int .i64 0, .int .i64 77, .int .i64 0, .int .i64 0, .int .i64 0, .slice none 0 0]
theorem made_rows (z : List Value) (k n : Nat) (hk : z.length = k) (hp : 0 < k) : (madeCells z.toArray (n * k)).toList = (List.replicate n z).flatten := by
  apply List.ext_getElem?
  intro x
  have hall : ∀ e ∈ List.replicate n z, e.length = k := fun e he => by rw [List.eq_of_mem_replicate he]; exact hk
  by_cases hx : x < n * k
  · have hx2 : x / k < n := Nat.div_lt_of_lt_mul (by rw [Nat.mul_comm]; exact hx)
    have hm := Nat.mod_lt x hp
    have ex : x = x / k * k + x % k := by rw [Nat.mul_comm]; exact (Nat.div_add_mod x k).symm
    have hg := flatten_get k (List.replicate n z) (x / k) (x % k) hall (by simpa using hx2) hm
    rw [← ex] at hg
    rw [hg]
    have h1 : (List.replicate n z).getD (x / k) [] = z := by simp [List.getD, hx2]
    rw [h1]
    have h2 : z.toArray.size = k := by simpa using hk
    simp only [madeCells, Array.toList_map, Array.toList_range, List.getElem?_map, List.getElem?_range hx, Option.map_some, h2]
    rw [List.getElem?_eq_getElem (by omega)]
    congr 1
    rw [getElem!_pos _ _ (by simp; omega)]
    simp
  · rw [List.getElem?_eq_none (by rw [Array.length_toList, size_madeCells]; omega), List.getElem?_eq_none (by rw [flatten_len k _ hall]; simp; omega)]
end Go.Proofs.YtffnfjkjlmlonaaGreatDoor
namespace Go.Proofs.YtffnfjkjlmlonaaGreatDoor
open Go.RowKit
/-- A block of cells of this element type. -/
def IsE (w : World) (g : Nat) (e : TypeId) : Prop := ∃ cs fz, w.heap[g]? = some (.cells cs e fz)
theorem IsE.setCell {w : World} {g : Nat} {e : TypeId} (h : IsE w g e) (g' j : Nat) (u : Value) : IsE (w.setCell ⟨g', j, none⟩ u) g e := by
  obtain ⟨cs, fz, hg⟩ := h
  by_cases hne : g = g'
  · subst hne
    refine ⟨cs.setIfInBounds j u, fz, ?_⟩
    simp [World.setCell, Array.getElem?_modify, hg]
  · exact ⟨cs, fz, (Below.heap_setCell w ⟨g', j, none⟩ u g hne).trans hg⟩
/-- Of the ops that have been laid: each has the cells of its op, and numbers that were made to be handed in. -/
def Done (w : World) (base : Nat) (orig : Nat → Option Value) (l : List OpD) (done : List (List Value)) : Prop :=
  ∀ i o, i < done.length → l[i]? = some o → ∃ aa acap hv, orig i = some (.slice aa o.args.length acap) ∧ done[i]? = some (opCells o hv) ∧ HdI w base aa o.args hv
theorem Done.mono {w w' : World} {base : Nat} {orig : Nat → Option Value} {l : List OpD} {done : List (List Value)} (h : Done w base orig l done) (hm : ∀ aa l hv, HdI w base aa l hv → HdI w' base aa l hv) : Done w' base orig l done := by
  intro i o hi ho
  obtain ⟨aa, acap, hv, h1, h2, h3⟩ := h i o hi ho
  exact ⟨aa, acap, hv, h1, h2, hm _ _ _ h3⟩
theorem Done.snoc {w : World} {base : Nat} {orig : Nat → Option Value} {l : List OpD} {done : List (List Value)} (h : Done w base orig l done) (o : OpD) (ho : l[done.length]? = some o) (aa : Option Addr) (acap : Nat) (hv : Value)
    (h1 : orig done.length = some (.slice aa o.args.length acap)) (h2 : HdI w base aa o.args hv) : Done w base orig l (done ++ [opCells o hv]) := by
  intro i o' hi ho'
  rw [List.length_append, List.length_singleton] at hi
  by_cases hlt : i < done.length
  · obtain ⟨aa', acap', hv', e1, e2, e3⟩ := h i o' hlt ho'
    exact ⟨aa', acap', hv', e1, by rw [List.getElem?_append_left hlt]; exact e2, e3⟩
  · have : i = done.length := by omega
    subst this
    rw [ho] at ho'
    cases ho'
    exact ⟨aa, acap, hv, h1, by simp, h2⟩
/-- The body of a function that is handed in. -/
def HdB (w : World) (base : Nat) (orig : Nat → Option Value) (l : List OpD) (g : Nat) : Prop :=
  ∃ done, done.length = l.length ∧ (∀ e ∈ done, e.length = 6) ∧ Done w base orig l done ∧
    w.ownsRow base 183 6 (.slice (some ⟨g, 0, none⟩) (l.length + 8) (l.length + 8)) (l.length + 8) (done ++ List.replicate 8 markOp).flatten
theorem marks_set {α : Type} (done : List α) (m z : α) (k n : Nat) (hn : done.length = n) (h : k < 8) : (done ++ (List.replicate k m ++ List.replicate (8 - k) z)).set (n + k) m = done ++ (List.replicate (k + 1) m ++ List.replicate (8 - (k + 1)) z) := by
  rw [List.set_append_right _ _ (by omega), hn, Nat.add_sub_cancel_left, List.set_append_right _ _ (by simp), List.length_replicate, Nat.sub_self]
  obtain ⟨q, hq⟩ : ∃ q, 8 - k = q + 1 := ⟨8 - k - 1, by omega⟩
  have hq2 : 8 - (k + 1) = q := by omega
  rw [hq, hq2, List.replicate_succ, List.set_cons_zero, List.replicate_succ']
  simp
end Go.Proofs.YtffnfjkjlmlonaaGreatDoor
namespace Go.Proofs.YtffnfjkjlmlonaaGreatDoor
open Go.RowKit
theorem HdB.below {w w' : World} {base : Nat} {orig : Nat → Option Value} {l : List OpD} {g : Nat} (h : HdB w base orig l g) (hb : Below w.heap.size w w') : HdB w' base orig l g := by
  obtain ⟨done, h1, h2, h3, h4⟩ := h
  exact ⟨done, h1, h2, h3.mono (fun _ _ _ h => h.below hb), owns_below h4 hb⟩
/-- The cells of one op of a body that was handed in. -/
theorem HdB.at {w : World} {base : Nat} {orig : Nat → Option Value} {l : List OpD} {g : Nat} (h : HdB w base orig l g) (i : Nat) (o : OpD) (ho : l[i]? = some o) :
    ∃ aa acap hv, orig i = some (.slice aa o.args.length acap) ∧ HdI w base aa o.args hv ∧ ∀ j v, (opCells o hv)[j]? = some v → w.cell? ⟨g, i * 6 + j, none⟩ = some v := by
  obtain ⟨done, h1, h2, h3, h4⟩ := h
  have hi := (List.getElem?_eq_some_iff.1 ho).1
  obtain ⟨aa, acap, hv, e1, e2, e3⟩ := h3 i o (by omega) ho
  refine ⟨aa, acap, hv, e1, e3, fun j v hj => ?_⟩
  have hj6 : j < 6 := by
    rcases Nat.lt_or_ge j 6 with h | h
    · exact h
    · rw [List.getElem?_eq_none (by simpa [opCells] using h)] at hj; cases hj
  have hall : ∀ e ∈ done ++ List.replicate 8 markOp, e.length = 6 := by
    intro e he
    rcases List.mem_append.1 he with h | h
    · exact h2 e h
    · rw [List.eq_of_mem_replicate h]; rfl
  have := h4.cellAt (i * 6 + j) (by omega)
  rw [flatten_get 6 _ i j hall (by simp; omega) hj6] at this
  have hd : (done ++ List.replicate 8 markOp).getD i [] = opCells o hv := by
    simp only [List.getD]
    rw [List.getElem?_append_left (by omega), e2]
    rfl
  rw [hd, hj] at this
  exact this
/-- A body that was handed in reads as the body that it was made of. -/
theorem HdB.read {w : World} {base : Nat} {orig : Nat → Option Value} {l : List OpD} {g : Nat} (h : HdB w base orig l g) : RdL 6 RdOp w (some ⟨g, 0, none⟩) l.length (l.length + 8) l := by
  have hm : l.length + 8 ≤ maxLen := by
    obtain ⟨done, _, _, _, h4⟩ := h
    rcases h4.2 with ⟨h', _⟩ | ⟨g', cap', cur, h', _, _, _, hcm, _⟩
    · cases h'
    · cases h'; exact hcm
  refine ⟨rfl, by omega, hm, fun i o ho => ?_⟩
  obtain ⟨aa, acap, hv, _, hh, hc⟩ := h.at i o ho
  refine ⟨g, 0, opCells o hv, rfl, rfl, fun j v hj => by rw [Nat.zero_add]; exact hc j v hj, ?_⟩
  obtain ⟨a', cap', rfl, hr⟩ := hh.read
  exact ⟨a', cap', rfl, hr⟩
end Go.Proofs.YtffnfjkjlmlonaaGreatDoor
namespace Go.Proofs.YtffnfjkjlmlonaaGreatDoor
open Go.RowKit
theorem HdB.congr {w : World} {base : Nat} {orig orig' : Nat → Option Value} {l : List OpD} {g : Nat} (h : HdB w base orig l g) (he : ∀ i, i < l.length → orig i = orig' i) : HdB w base orig' l g := by
  obtain ⟨done, h1, h2, h3, h4⟩ := h
  refine ⟨done, h1, h2, ?_, h4⟩
  intro i o hi ho
  obtain ⟨aa, acap, hv, e1, e2, e3⟩ := h3 i o hi ho
  exact ⟨aa, acap, hv, by rw [← he i (List.getElem?_eq_some_iff.1 ho).1]; exact e1, e2, e3⟩
def fnCells (x : FnD) (g : Nat) : List Value := [.string x.name, .string x.file, .int .i64 x.params, .int .i64 x.locals, .slice (some ⟨g, 0, none⟩) x.body.length (x.body.length + 8)]
def markFn : List Value := [.string ⟨#[109, 97, 114, 107]⟩, .string ⟨#[]⟩, .int .i64 0, .int .i64 0, .slice none 0 0]
/-- Of the functions that have been laid. -/
def DoneF (w : World) (base : Nat) (w0 : World) (a : Option Addr) (p : List FnD) (done : List (List Value)) : Prop :=
  ∀ i x, i < done.length → p[i]? = some x → ∃ b off ba bcap g, a = some ⟨b, off, none⟩ ∧ w0.cell? ⟨b, off + i * 5 + 4, none⟩ = some (.slice ba x.body.length bcap) ∧ done[i]? = some (fnCells x g) ∧
    HdB w base (fun j => ba.bind fun c => w0.cell? ⟨c.block, c.off + j * 6 + 5, none⟩) x.body g
theorem DoneF.mono {w w' : World} {base : Nat} {w0 : World} {a : Option Addr} {p : List FnD} {done : List (List Value)} (h : DoneF w base w0 a p done) (hm : ∀ orig l g, HdB w base orig l g → HdB w' base orig l g) : DoneF w' base w0 a p done := by
  intro i x hi hx
  obtain ⟨b, off, ba, bcap, g, h1, h2, h3, h4⟩ := h i x hi hx
  exact ⟨b, off, ba, bcap, g, h1, h2, h3, hm _ _ _ h4⟩
theorem DoneF.snoc {w : World} {base : Nat} {w0 : World} {a : Option Addr} {p : List FnD} {done : List (List Value)} (h : DoneF w base w0 a p done) (x : FnD) (hx : p[done.length]? = some x) (b off : Nat) (ba : Option Addr) (bcap g : Nat)
    (h1 : a = some ⟨b, off, none⟩) (h2 : w0.cell? ⟨b, off + done.length * 5 + 4, none⟩ = some (.slice ba x.body.length bcap)) (h3 : HdB w base (fun j => ba.bind fun c => w0.cell? ⟨c.block, c.off + j * 6 + 5, none⟩) x.body g) : DoneF w base w0 a p (done ++ [fnCells x g]) := by
  intro i x' hi hx'
  rw [List.length_append, List.length_singleton] at hi
  by_cases hlt : i < done.length
  · obtain ⟨b', off', ba', bcap', g', e1, e2, e3, e4⟩ := h i x' hlt hx'
    exact ⟨b', off', ba', bcap', g', e1, e2, by rw [List.getElem?_append_left hlt]; exact e3, e4⟩
  · have : i = done.length := by omega
    subst this
    rw [hx] at hx'
    cases hx'
    exact ⟨b, off, ba, bcap, g, h1, h2, by simp, h3⟩
/-- The functions of a program that is handed in. -/
def HdP (w : World) (base : Nat) (w0 : World) (a : Option Addr) (p : List FnD) (g : Nat) : Prop :=
  ∃ done, done.length = p.length ∧ (∀ e ∈ done, e.length = 5) ∧ DoneF w base w0 a p done ∧
    w.ownsRow base 122 5 (.slice (some ⟨g, 0, none⟩) (p.length + 8) (p.length + 8)) (p.length + 8) (done ++ List.replicate 8 markFn).flatten
end Go.Proofs.YtffnfjkjlmlonaaGreatDoor
