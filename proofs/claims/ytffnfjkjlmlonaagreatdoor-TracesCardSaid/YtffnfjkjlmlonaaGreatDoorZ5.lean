/- Contracts of unfoldref.but and unfoldref.fresh: a frame written anew. Rows of entries of several cells each: reading, storing, and what make lays. Contract of unfoldref.under: frames written anew. Contract of unfoldref.Begun. -/
import Derived.Test.YtffnfjkjlmlonaaGreatDoorZ3
import Derived.Test.YtffnfjkjlmlonaaGreatDoorZ4
import Derived.OneCell
import Derived.RegionTactic
import Derived.BigRegion
namespace Go.Proofs.YtffnfjkjlmlonaaGreatDoor
open Go.RowKit

/-- A frame. -/
structure LiveD where
  fn : Int
  next : Int
  locals : List Int

def RdLive (w : World) (cs : List Value) (x : LiveD) : Prop :=
  ∃ a cap, cs = [.int .i64 x.fn, .int .i64 x.next, .slice a x.locals.length cap] ∧ Rd .i64 w a x.locals.length cap x.locals

theorem RdLive.below {w w' : World} {cs : List Value} {x : LiveD} (h : RdLive w cs x) (hb : Below w.heap.size w w') : RdLive w' cs x := by
  obtain ⟨a, cap, e, hr⟩ := h
  exact ⟨a, cap, e, hr.below hb (Nat.le_refl _)⟩

theorem rd_of_ints {w : World} {base g n : Nat} {l : List Int} (h : w.ownsRow base 3 1 (.slice (some ⟨g, 0, none⟩) n n) n (ints l)) (hl : l.length = n) (hm : n ≤ maxLen) : Rd .i64 w (some ⟨g, 0, none⟩) n n l := by
  refine ⟨hl, Nat.le_refl _, hm, fun i hi => ⟨g, 0, rfl, ?_⟩⟩
  have := h.cellAt i (by omega)
  rw [ints_get l i (by omega)] at this
  rw [Nat.zero_add]
  exact this

theorem Rd.setOther {w : World} {g off len cap : Nat} {l : List Int} (h : Rd .i64 w (some ⟨g, off, none⟩) len cap l) {b : Nat} (hb : g ≠ b) (j : Nat) (u : Value) : Rd .i64 (w.setCell ⟨b, j, none⟩ u) (some ⟨g, off, none⟩) len cap l := by
  refine ⟨h.hlen, h.hcap, h.hmax, fun i hi => ?_⟩
  obtain ⟨b', o', e, hc⟩ := h.cell i hi
  cases e
  refine ⟨g, off, rfl, ?_⟩
  rw [← hc]
  simp only [World.cell?]
  rw [Below.heap_setCell _ _ _ _ (by exact hb)]

set_option maxHeartbeats 2000000 in
set_option maxRecDepth 100000 in
theorem but_any (x : LiveD) (a : Option Addr) (cap : Nat) (k : Nat) (v next : Int) (w : World) (hr : Rd .i64 w a x.locals.length cap x.locals) (hk : k < x.locals.length) (hl : x.locals.length ≤ 1000) :
    Calls Tryz.prog 176 #[.agg #[.int .i64 x.fn, .int .i64 x.next, .slice a x.locals.length cap], .int .i64 k, .int .i64 v, .int .i64 next] w fun e w' =>
      ∃ cs, e = .returned (.agg cs.toArray) ∧ RdLive w' cs ⟨x.fn, next, x.locals.set k v⟩ ∧ (∃ g n c, w.heap.size ≤ g ∧ cs[2]? = some (.slice (some ⟨g, 0, none⟩) n c)) ∧ Below w.heap.size w w' := by
  obtain ⟨fn, nx, l⟩ := x
  simp only at hr hk hl ⊢
  obtain ⟨n, hn⟩ : ∃ n, n = l.length := ⟨_, rfl⟩
  rw [← hn] at hr hk hl ⊢
  have HL := hid hn
  clear hn
  obtain ⟨b0, off0, rfl, _⟩ := hr.cell 0 (by omega)
  have hcp := hr.hcap
  have hmx := hr.hmax
  unfold maxLen at hmx
  obtain ⟨i0, hi, hz0, hz1, hz2⟩ := info_parts Tryz.infoInt
  obtain ⟨wb, hwb⟩ : ∃ wb, wb = (w.alloc (Obj.cells #[.int .i64 fn, .int .i64 nx, .slice (some ⟨b0, off0, none⟩) n cap] 172)).alloc (Obj.cells #[.int .i64 0, .int .i64 0, .slice none 0 0] 172) := ⟨_, rfl⟩
  have hbb : Below w.heap.size w wb := by rw [hwb]; exact ((Below.refl _ _).alloc (Nat.le_refl _) _).alloc (by simp) _
  have hbs : wb.heap.size = w.heap.size + 2 := by rw [hwb]; simp
  have hk1 : wb.heap[w.heap.size]? = some (.cells #[.int .i64 fn, .int .i64 nx, .slice (some ⟨b0, off0, none⟩) n cap] 172 (0, 0)) := by
    rw [hwb, heap_alloc_old _ _ (by simp)]
    exact heap_alloc_new _ _
  have hk2 : wb.heap[w.heap.size + 1]? = some (.cells #[.int .i64 0, .int .i64 0, .slice none 0 0] 172 (0, 0)) := by
    rw [hwb]
    have := heap_alloc_new (w.alloc (Obj.cells #[.int .i64 fn, .int .i64 nx, .slice (some ⟨b0, off0, none⟩) n cap] 172)) (Obj.cells #[.int .i64 0, .int .i64 0, .slice none 0 0] 172)
    simpa using this
  obtain ⟨wm, hmk, hown, hgr⟩ := run_make_full (P := Tryz.prog) wb wb.heap.size 35 3 i0 (.int .i64 0) 1 Tryz.underlying35 hi hz0 hz1 .i64 .i64 n (by rw [hz2]; omega) (by unfold maxLen; omega) (Nat.le_refl _)
  rw [made_ints] at hown
  have hbm : Below wb.heap.size wb wm := (Below.refl _ _).grown hgr (Nat.le_refl _) (fun k hk => by cases hk)
  have hrm := (hr.below hbb (Nat.le_refl _)).below hbm (Nat.le_refl _)
  have HSRC := hid hrm.src
  have HO0 := hid hown
  have m1 := (hbm.block w.heap.size (by omega)).trans hk1
  have m2 := (hbm.block (w.heap.size + 1) (by omega)).trans hk2
  have r2 : wm.cell? ⟨w.heap.size, 2, none⟩ = some (.slice (some ⟨b0, off0, none⟩) n cap) := by simp [World.cell?, m1]
  have HM1 := hid m1
  have HM2 := hid m2
  clear hown hgr hrm hk1 hk2 hr m1 m2
  rw [hbs] at hmk HO0
  rw [hwb] at hmk
  clear hwb
  go_enter Tryz.func176, Tryz.ntmps176
  go_wp2_with (refine wpList_copy_wide rfl (.tmp 14) (.tmp 16) 35 35 rfl 3 1 (w.heap.size + 2) Tryz.underlying35 Tryz.infoInt1 (w.heap.size + 2) n n ⟨b0, off0, none⟩ n cap rfl rfl (ints (List.replicate n 0)) HO0.out (ints l) (by rw [ints_len, ← HL.out, Nat.mul_one]) (by omega) HSRC.out (ints_one l) ?_)
  intro wc hownc hgrc
  have hbc : Below (w.heap.size + 2) wb wc := by rw [← hbs]; exact hbm.grown hgrc hbm.size (fun k hk => by cases hk; exact Nat.le_of_eq hbs)
  have hfl : ints l ++ (ints (List.replicate n 0)).drop (ints l).length = ints l := by
    rw [List.drop_of_length_le (by rw [ints_len, ints_len, List.length_replicate, HL.out]; exact Nat.le_refl _), List.append_nil]
  rw [hfl] at hownc
  have m1 : wc.heap[w.heap.size]? = _ := ((hbc.block w.heap.size (by omega)).trans (hbm.block w.heap.size (by omega)).symm).trans HM1.out
  have m2 : wc.heap[w.heap.size + 1]? = _ := ((hbc.block (w.heap.size + 1) (by omega)).trans (hbm.block (w.heap.size + 1) (by omega)).symm).trans HM2.out
  have r0 : wc.cell? ⟨w.heap.size, 0, none⟩ = some (.int .i64 fn) := by simp [World.cell?, m1]
  have q0 : wc.cell? ⟨w.heap.size + 1, 0, none⟩ = some (.int .i64 0) := by simp [World.cell?, m2]
  have q1 : wc.cell? ⟨w.heap.size + 1, 1, none⟩ = some (.int .i64 0) := by simp [World.cell?, m2]
  have q2 : wc.cell? ⟨w.heap.size + 1, 2, none⟩ = some (.slice none 0 0) := by simp [World.cell?, m2]
  have z0 : wc.frozen? ⟨w.heap.size + 1, 0, none⟩ = false := by simp [World.frozen?, m2]
  have z1 : wc.frozen? ⟨w.heap.size + 1, 1, none⟩ = false := by simp [World.frozen?, m2]
  have z2 : wc.frozen? ⟨w.heap.size + 1, 2, none⟩ = false := by simp [World.frozen?, m2]
  have hc1 := hownc.cellAt k (by omega)
  rw [ints_get _ _ (by rw [← HL.out]; exact hk)] at hc1
  generalize l.getD k 0 = o1 at hc1
  have hf1 := hownc.frozenAt k
  have hs1 := (hownc.stored k (.int .i64 v)).1
  rw [ints_set] at hs1
  have HS := hid hs1
  have hkn : (k : Int) < (n : Int) := by omega
  clear hownc hgrc hfl hs1 HSRC HO0 hmk HM1 HM2 m1 m2 r2 hi hz0 hz1 hz2
  go_wp2
  have hne : ∀ j : Nat, (Value.slice (some ⟨w.heap.size + 2, 0, none⟩) n n).ownBlock ≠ some (⟨w.heap.size + 1, j, none⟩ : Addr).block := fun j => by simp [Value.ownBlock]
  have o1 := ownsRow_setCell_other (ownsRow_setCell_other (ownsRow_setCell_other HS.out (hne 0) (.int .i64 fn)) (hne 1) (.int .i64 next)) (hne 2) (.slice (some ⟨w.heap.size + 2, 0, none⟩) n n)
  have hbw : Below w.heap.size w wc := hbb.trans (hbc.mono (by omega))
  have hbe := (((hbw.setCell (p := ⟨w.heap.size + 2, k, none⟩) (by show w.heap.size ≤ w.heap.size + 2; omega) (.int .i64 v)).setCell (p := ⟨w.heap.size + 1, 0, none⟩) (by show w.heap.size ≤ w.heap.size + 1; omega) (.int .i64 fn)).setCell (p := ⟨w.heap.size + 1, 1, none⟩) (by show w.heap.size ≤ w.heap.size + 1; omega) (.int .i64 next)).setCell (p := ⟨w.heap.size + 1, 2, none⟩) (by show w.heap.size ≤ w.heap.size + 1; omega) (.slice (some ⟨w.heap.size + 2, 0, none⟩) n n)
  have hls : (l.set k v).length = n := by rw [List.length_set, HL.out]
  have hrd := rd_of_ints o1 hls (by unfold maxLen; omega)
  refine bodyPost_ret (v := .agg #[.int .i64 fn, .int .i64 next, .slice (some ⟨w.heap.size + 2, 0, none⟩) n n]) (by simp [results, Tryz.results176, go_sem, q0, q1, q2]) rfl ⟨[.int .i64 fn, .int .i64 next, .slice (some ⟨w.heap.size + 2, 0, none⟩) n n], rfl, ⟨some ⟨w.heap.size + 2, 0, none⟩, n, ?_, ?_⟩, ⟨w.heap.size + 2, n, n, by omega, rfl⟩, hbe⟩
  · simp [hls]
  · simp only [hls]
    exact hrd

/-- The locals of a frame that begins: the arguments, and noughts. -/
def fillI (args : List Int) (n j : Nat) : List Int := args.take j ++ List.replicate (n - j) 0

theorem fillI_len (args : List Int) (n j : Nat) (h : j ≤ args.length) (hn : args.length ≤ n) : (fillI args n j).length = n := by
  simp [fillI]; omega
theorem fillI_set (args : List Int) (n j : Nat) (h : j < args.length) (hn : args.length ≤ n) : (fillI args n j).set j (args.getD j 0) = fillI args n (j + 1) := by
  unfold fillI
  rw [List.set_append_right _ _ (by simp; omega)]
  have e : j - (args.take j).length = 0 := by simp; omega
  have e2 : n - j = (n - (j + 1)) + 1 := by omega
  rw [e, e2, List.replicate_succ, List.set_cons_zero, List.take_succ_eq_append_getElem h, List.append_assoc]
  simp [List.getD, h]

set_option maxHeartbeats 2000000 in
set_option maxRecDepth 100000 in
theorem fresh_any (pa : Option Addr) (pcap : Nat) (p : List FnD) (f : Nat) (x : FnD) (n : Nat) (aa : Option Addr) (acap : Nat) (args : List Int) (w : World) (hr : RdP w pa p.length pcap p) (hx : p[f]? = some x) (hn : x.locals = n) (hn1 : n ≤ 1000)
    (ha : Rd .i64 w aa args.length acap args) (hal : args.length ≤ n) :
    Calls Tryz.prog 172 #[.agg #[.slice pa p.length pcap], .int .i64 f, .slice aa args.length acap] w fun e w' =>
      ∃ cs, e = .returned (.agg cs.toArray) ∧ RdLive w' cs ⟨f, 0, fillI args n args.length⟩ ∧ (∃ g n c, w.heap.size ≤ g ∧ cs[2]? = some (.slice (some ⟨g, 0, none⟩) n c)) ∧ Below w.heap.size w w' := by
  have hfl : f < p.length := (List.getElem?_eq_some_iff.1 hx).1
  have hpm := hr.2.2.1
  have hpc := hr.2.1
  unfold maxLen at hpm
  obtain ⟨b, off, ba, bcap, rfl, hbl, c0, c1, c2, c3, c4, _, _, _⟩ := hr.at f x hx
  rw [hn] at c3
  have hfl' : (f : Int) < (p.length : Int) := by omega
  generalize p.length = pl at *
  obtain ⟨al, hal'⟩ : ∃ al, al = args.length := ⟨_, rfl⟩
  rw [← hal'] at ha hal ⊢
  have HL := hid hal'
  clear hal' hr
  obtain ⟨i0, hi, hz0, hz1, hz2⟩ := info_parts Tryz.infoInt
  obtain ⟨wb, hwb⟩ : ∃ wb, wb = (w.alloc (Obj.cells #[.slice (some ⟨b, off, none⟩) pl pcap] 44)).alloc (Obj.cells #[.int .i64 0, .int .i64 0, .slice none 0 0] 172) := ⟨_, rfl⟩
  have hbb : Below w.heap.size w wb := by rw [hwb]; exact ((Below.refl _ _).alloc (Nat.le_refl _) _).alloc (by simp) _
  have hbs : wb.heap.size = w.heap.size + 2 := by rw [hwb]; simp
  have hk2 : wb.heap[w.heap.size + 1]? = some (.cells #[.int .i64 0, .int .i64 0, .slice none 0 0] 172 (0, 0)) := by
    rw [hwb]
    have := heap_alloc_new (w.alloc (Obj.cells #[.slice (some ⟨b, off, none⟩) pl pcap] 44)) (Obj.cells #[.int .i64 0, .int .i64 0, .slice none 0 0] 172)
    simpa using this
  obtain ⟨wm, hmk, hown, hgr⟩ := run_make_full (P := Tryz.prog) wb wb.heap.size 35 3 i0 (.int .i64 0) 1 Tryz.underlying35 hi hz0 hz1 .i64 .i64 n (by rw [hz2]; omega) (by unfold maxLen; omega) (Nat.le_refl _)
  rw [made_ints] at hown
  have hbm : Below wb.heap.size wb wm := (Below.refl _ _).grown hgr (Nat.le_refl _) (fun k hk => by cases hk)
  have m2 := (hbm.block (w.heap.size + 1) (by omega)).trans hk2
  have hbwm : Below w.heap.size w wm := hbb.trans (hbm.mono hbb.size)
  rw [hbs] at hmk hown
  have e0 : List.replicate n (0 : Int) = fillI args n 0 := by simp [fillI]
  rw [e0] at hown
  have HO := hid hown
  have HM := hid m2
  have HA := hid ha
  have hac := ha.hcap
  have ham := ha.hmax
  unfold maxLen at ham
  rw [hwb] at hmk
  clear hown hgr hk2 m2 hwb hi hz0 hz1 hz2 ha e0
  go_enter Tryz.func172, Tryz.ntmps172
  go_wp2
  go_loopw [8] (fun i wr => ∃ j : Nat, i = .int .i64 j ∧ j ≤ al ∧ wr.ownsRow (w.heap.size + 2) 3 1 (.slice (some ⟨w.heap.size + 2, 0, none⟩) n n) n (ints (fillI args n j)) ∧ Below w.heap.size w wr ∧ wr.heap[w.heap.size + 1]? = some (.cells #[.int .i64 0, .int .i64 0, .slice none 0 0] 172 (0, 0))) (fun i _ => al - (intOf i).toNat)
  case atStart => exact ⟨0, rfl, by omega, HO.out, hbwm, HM.out⟩
  case round =>
    clear HO HM hbwm hmk hbm
    obtain ⟨j, rfl, hj, hown, hbel, hbox⟩ := hrel
    by_cases hja : j < al
    · obtain ⟨ab, aoff, rfl, hcell⟩ := (HA.out.below hbel (Nat.le_refl _)).cell j hja
      have hlt : (j : Int) < (al : Int) := by omega
      have hjn : (j : Int) < (n : Int) := by omega
      have hc1 := hown.cellAt j (by omega)
      rw [ints_get _ _ (by rw [fillI_len args n j (by rw [← HL.out]; omega) (by rw [← HL.out]; omega)]; omega)] at hc1
      generalize (fillI args n j).getD j 0 = o1 at hc1
      have hf1 := hown.frozenAt j
      have hs1 := (hown.stored j (.int .i64 (args.getD j 0))).1
      rw [ints_set, fillI_set args n j (by rw [← HL.out]; omega) (by rw [← HL.out]; omega)] at hs1
      have HS := hid hs1
      have HBX := hid hbox
      clear hown hs1 hbox
      generalize args.getD j 0 = av at *
      go_wp2
      go_roundw
      case rel => exact ⟨j + 1, by go_num, by omega, HS.out, hbel.setCell (by show w.heap.size ≤ w.heap.size + 2; omega) _, by rw [Below.heap_setCell _ _ _ _ (by show w.heap.size + 1 ≠ w.heap.size + 2; omega)]; exact HBX.out⟩
      case measure => simp [intOf]; omega
    · have hje : j = al := by omega
      subst hje
      have q0 : wr.cell? ⟨w.heap.size + 1, 0, none⟩ = some (.int .i64 0) := by simp [World.cell?, hbox]
      have q1 : wr.cell? ⟨w.heap.size + 1, 1, none⟩ = some (.int .i64 0) := by simp [World.cell?, hbox]
      have q2 : wr.cell? ⟨w.heap.size + 1, 2, none⟩ = some (.slice none 0 0) := by simp [World.cell?, hbox]
      have z0 : wr.frozen? ⟨w.heap.size + 1, 0, none⟩ = false := by simp [World.frozen?, hbox]
      have z1 : wr.frozen? ⟨w.heap.size + 1, 1, none⟩ = false := by simp [World.frozen?, hbox]
      have z2 : wr.frozen? ⟨w.heap.size + 1, 2, none⟩ = false := by simp [World.frozen?, hbox]
      have HS := hid hown
      clear hown hbox
      go_wp2
      have hne : ∀ k : Nat, (Value.slice (some ⟨w.heap.size + 2, 0, none⟩) n n).ownBlock ≠ some (⟨w.heap.size + 1, k, none⟩ : Addr).block := fun k => by simp [Value.ownBlock]
      have o1 := ownsRow_setCell_other (ownsRow_setCell_other (ownsRow_setCell_other HS.out (hne 0) (.int .i64 f)) (hne 1) (.int .i64 0)) (hne 2) (.slice (some ⟨w.heap.size + 2, 0, none⟩) n n)
      have hbe := ((hbel.setCell (p := ⟨w.heap.size + 1, 0, none⟩) (by show w.heap.size ≤ w.heap.size + 1; omega) (.int .i64 f)).setCell (p := ⟨w.heap.size + 1, 1, none⟩) (by show w.heap.size ≤ w.heap.size + 1; omega) (.int .i64 0)).setCell (p := ⟨w.heap.size + 1, 2, none⟩) (by show w.heap.size ≤ w.heap.size + 1; omega) (.slice (some ⟨w.heap.size + 2, 0, none⟩) n n)
      have hls : (fillI args n j).length = n := fillI_len args n j (by rw [← HL.out]; omega) (by rw [← HL.out]; omega)
      have hrd := rd_of_ints o1 hls (by unfold maxLen; omega)
      refine bodyPost_ret (v := .agg #[.int .i64 f, .int .i64 0, .slice (some ⟨w.heap.size + 2, 0, none⟩) n n]) (by simp [results, Tryz.results172, go_sem, q0, q1, q2]) rfl ⟨[.int .i64 f, .int .i64 0, .slice (some ⟨w.heap.size + 2, 0, none⟩) n n], rfl, ⟨some ⟨w.heap.size + 2, 0, none⟩, n, ?_, ?_⟩, ⟨w.heap.size + 2, n, n, by omega, rfl⟩, hbe⟩
      · simp [hls]
      · simp only [hls]
        exact hrd
end Go.Proofs.YtffnfjkjlmlonaaGreatDoor
namespace Go.Proofs.YtffnfjkjlmlonaaGreatDoor
open Go.RowKit

theorem flatten_len (k : Nat) : ∀ (ess : List (List Value)), (∀ e ∈ ess, e.length = k) → ess.flatten.length = ess.length * k
  | [], _ => by simp
  | e :: r, h => by
    have h1 := h e (by simp)
    have h2 := flatten_len k r (fun x hx => h x (by simp [hx]))
    simp only [List.flatten_cons, List.length_append, List.length_cons, h1, h2, Nat.add_mul]; omega
theorem flatten_get (k : Nat) : ∀ (ess : List (List Value)) (i j : Nat), (∀ e ∈ ess, e.length = k) → i < ess.length → j < k → ess.flatten[i * k + j]? = (ess.getD i [])[j]?
  | [], i, _, _, h, _ => by simp at h
  | e :: r, 0, j, hk, _, hj => by
    have h1 := hk e (by simp)
    rw [Nat.zero_mul, Nat.zero_add, List.flatten_cons, List.getElem?_append_left (by omega)]
    rfl
  | e :: r, i + 1, j, hk, hi, hj => by
    have h1 := hk e (by simp)
    have ih := flatten_get k r i j (fun x hx => hk x (by simp [hx])) (by simpa using hi) hj
    have e1 : (i + 1) * k + j = k + (i * k + j) := by rw [Nat.add_mul]; omega
    rw [List.flatten_cons, List.getElem?_append_right (by omega), h1, e1, Nat.add_sub_cancel_left, ih]
    rfl
theorem flatten_set (k : Nat) : ∀ (ess : List (List Value)) (i j : Nat) (v : Value), (∀ e ∈ ess, e.length = k) → i < ess.length → j < k → ess.flatten.set (i * k + j) v = (ess.set i ((ess.getD i []).set j v)).flatten
  | [], i, _, _, _, h, _ => by simp at h
  | e :: r, 0, j, v, hk, _, hj => by
    have h1 := hk e (by simp)
    rw [Nat.zero_mul, Nat.zero_add, List.flatten_cons, List.set_append_left _ _ (by omega)]
    rfl
  | e :: r, i + 1, j, v, hk, hi, hj => by
    have h1 := hk e (by simp)
    have ih := flatten_set k r i j v (fun x hx => hk x (by simp [hx])) (by simpa using hi) hj
    have e1 : (i + 1) * k + j = k + (i * k + j) := by rw [Nat.add_mul]; omega
    rw [List.flatten_cons, List.set_append_right _ _ (by omega), h1, e1, Nat.add_sub_cancel_left, ih]
    rfl
theorem set_all_len {k : Nat} {ess : List (List Value)} (h : ∀ e ∈ ess, e.length = k) (i : Nat) (c : List Value) (hc : c.length = k) : ∀ e ∈ ess.set i c, e.length = k := by
  intro e he
  rcases List.mem_or_eq_of_mem_set he with h' | h'
  · exact h e h'
  · rw [h']; exact hc

/-- A row of the call's own is not a block of another element type. -/
theorem owns_other' {w : World} {base : Nat} {e e' : TypeId} {size : Nat} {v : Value} {n : Nat} {xs : List Value} (h : w.ownsRow base e size v n xs) {g : Nat} {cs : Array Value} {fz : Nat × Nat} (hg : w.heap[g]? = some (.cells cs e' fz)) (hne : e ≠ e') : some g ≠ v.ownBlock := by
  rcases h.2 with ⟨rfl, _⟩ | ⟨g', cap, cur, rfl, _, hh, _⟩
  · simp [Value.ownBlock]
  · intro hb
    simp [Value.ownBlock] at hb
    subst hb
    rw [hg] at hh
    injection hh with hh
    injection hh with _ hh _
    exact hne hh.symm

def opCells (o : OpD) (hv : Value) : List Value := [.int .i64 o.code, .int .i64 o.line, .int .i64 o.a, .int .i64 o.b, .int .i64 o.c, hv]
def zeroOp : List Value := [.int .i64 0, .int .i64 0, .int .i64 0, .int .i64 0, .int .i64 0, .slice none 0 0]
def markOp : List Value := [.int .i64 0, .int .i64 77, .int .i64 0, .int .i64 0, .int .i64 0, .slice none 0 0]

theorem Tryz.infoOp : (Tryz.prog.info? 183).map (fun i => (i.zero, i.size, i.bytes)) = some (some (.agg #[.int .i64 0, .int .i64 0, .int .i64 0, .int .i64 0, .int .i64 0, .slice none 0 0]), 6, 64) := by kernel_rfl

theorem made_rows (z : List Value) (k n : Nat) (hk : z.length = k) (hp : 0 < k) : (madeCells z.toArray (n * k)).toList = (List.replicate n z).flatten := by
  apply List.ext_getElem?
  intro x
  have hall : ∀ e ∈ List.replicate n z, e.length = k := fun e he => by rw [List.eq_of_mem_replicate he]; exact hk
  by_cases hx : x < n * k
  · have hx2 : x / k < n := Nat.div_lt_of_lt_mul (by rw [Nat.mul_comm]; exact hx)
    have hm := Nat.mod_lt x hp
    have ex : x = x / k * k + x % k := by rw [Nat.mul_comm]; exact (Nat.div_add_mod x k).symm
    have hg := flatten_get k (List.replicate n z) (x / k) (x % k) hall (by simpa using hx2) hm
    rw [← ex] at hg
    rw [hg]
    have h1 : (List.replicate n z).getD (x / k) [] = z := by simp [List.getD, hx2]
    rw [h1]
    have h2 : z.toArray.size = k := by simpa using hk
    simp only [madeCells, Array.toList_map, Array.toList_range, List.getElem?_map, List.getElem?_range hx, Option.map_some, h2]
    rw [List.getElem?_eq_getElem (by omega)]
    congr 1
    rw [getElem!_pos _ _ (by simp; omega)]
    simp
  · rw [List.getElem?_eq_none (by rw [Array.length_toList, size_madeCells]; omega), List.getElem?_eq_none (by rw [flatten_len k _ hall]; simp; omega)]
end Go.Proofs.YtffnfjkjlmlonaaGreatDoor
namespace Go.Proofs.YtffnfjkjlmlonaaGreatDoor
open Go.RowKit

theorem add0' (g j : Nat) : (⟨g, 0, none⟩ : Addr).add j = ⟨g, 0 + j, none⟩ := by unfold Addr.add; split <;> simp_all
theorem Tryz.infoLive : (Tryz.prog.info? 172).map (fun i => (i.zero, i.size, i.bytes)) = some (some (.agg #[.int .i64 0, .int .i64 0, .slice none 0 0]), 3, 40) := by kernel_rfl

theorem RdL_of_owns {α : Type} {size : Nat} {R : World → List Value → α → Prop} {w : World} {base : Nat} {e : TypeId} {v : Value} {n : Nat} {css : List (List Value)} {ls : List α} (h : w.ownsRow base e size v n css.flatten) (hk : ∀ c ∈ css, c.length = size) (hl : css.length = n) (hls : ls.length = n)
    (hR : ∀ (i : Nat) (x : α) (cs : List Value), ls[i]? = some x → css[i]? = some cs → R w cs x) : ∃ a cap, v = .slice a n cap ∧ RdL size R w a n cap ls := by
  have hc := fun g hg => h.cells (g := g) hg
  rcases h.2 with ⟨rfl, rfl⟩ | ⟨g, cap, cur, rfl, _, hh, h1, h2, _⟩
  · exact ⟨none, 0, rfl, hls, Nat.le_refl _, by unfold maxLen; omega, fun i x hx => by
      have := (List.getElem?_eq_some_iff.1 hx).1
      omega⟩
  · refine ⟨_, cap, rfl, hls, h1, h2, fun i x hx => ?_⟩
    have hi : i < css.length := by
      have := (List.getElem?_eq_some_iff.1 hx).1
      omega
    have hcs : css[i]? = some (css.getD i []) := by simp [List.getD, hi]
    have hlen := hk _ (List.mem_of_getElem? hcs)
    refine ⟨g, 0, css.getD i [], rfl, hlen, fun j v hj => ?_, hR i x _ hx hcs⟩
    have hj' : j < size := by
      have := (List.getElem?_eq_some_iff.1 hj).1
      omega
    have := hc g rfl (i * size + j) v (by rw [flatten_get size css i j hk hi hj']; exact hj)
    rw [add0'] at this
    rw [Nat.add_assoc]
    exact this

set_option maxHeartbeats 2000000 in
set_option maxRecDepth 100000 in
theorem under_any (R : World → List Value → LiveD → Prop) (a : Option Addr) (cap : Nat) (ls : List LiveD) (k : Nat) (w : World) (hsh : ∀ cs x, R w cs x → ∃ la lcap, cs = [.int .i64 x.fn, .int .i64 x.next, .slice la x.locals.length lcap]) (hr : RdL 3 R w a ls.length cap ls) (hk : k ≤ ls.length) (hl : ls.length ≤ 1000) :
    Calls Tryz.prog 177 #[.slice a ls.length cap, .int .i64 k] w fun e w' => ∃ (v : Value) (css : List (List Value)), e = .returned v ∧ w'.ownsRow w.heap.size 172 3 v (ls.length - k) css.flatten ∧ css.length = ls.length - k ∧ (∀ c ∈ css, c.length = 3) ∧ (∀ (i : Nat) (x : LiveD) (cs : List Value), ls[i]? = some x → css[i]? = some cs → R w cs x) ∧ Below w.heap.size w w' := by
  obtain ⟨n, hn⟩ : ∃ n, n = ls.length := ⟨_, rfl⟩
  rw [← hn] at hr hk hl ⊢
  have HR := hid hr
  have HL := hid hn
  have hcap := hr.2.1
  have hmax := hr.2.2.1
  unfold maxLen at hmax
  clear hr hn
  go_enter Tryz.func177, Tryz.ntmps177
  go_wp2
  go_loopw [5, 6] (fun ov i wr => ∃ (j : Nat) (css : List (List Value)), i = .int .i64 j ∧ j ≤ n - k ∧ wr.ownsRow w.heap.size 172 3 ov j css.flatten ∧ css.length = j ∧ (∀ c ∈ css, c.length = 3) ∧ (∀ (i : Nat) (x : LiveD) (cs : List Value), ls[i]? = some x → css[i]? = some cs → R w cs x) ∧ Below w.heap.size w wr) (fun _ i _ => (n - k) - (intOf i).toNat)
  case atStart => exact ⟨0, [], rfl, by omega, ⟨rfl, .inl ⟨rfl, rfl⟩⟩, rfl, by simp, by simp, Below.refl _ _⟩
  case round =>
    obtain ⟨j, css, rfl, hj, hown, hcl, hc3, hcr, hbel⟩ := hrel
    have HC3 := hid hc3
    have HCR := hid hcr
    have HCL := hid hcl
    clear hc3 hcr hcl
    have hsz := hbel.size
    by_cases hjn : j < n - k
    · obtain ⟨x, hx⟩ : ∃ x, ls[j]? = some x := ⟨_, List.getElem?_eq_getElem (by rw [← HL.out]; omega)⟩
      obtain ⟨b, off, cs, rfl, hcs3, hcells, hlive⟩ := HR.out.2.2.2 j x hx
      have HLV := hid hlive
      obtain ⟨la, lcap, rfl⟩ := hsh _ _ hlive
      have hc : ∀ i v, [Value.int .i64 x.fn, .int .i64 x.next, .slice la x.locals.length lcap][i]? = some v → wr.cell? ⟨b, off + j * 3 + i, none⟩ = some v := fun i v h => by
        have := hcells i v h
        exact (hbel.cell (p := ⟨b, off + j * 3 + i, none⟩) (World.block_lt_of_cell? w _ this)).trans this
      have c0 : wr.cell? ⟨b, off + j * 3, none⟩ = _ := hc 0 _ rfl
      have c1 := hc 1 _ rfl
      have c2 := hc 2 _ rfl
      have hlt : (j : Int) < (n : Int) - k := by omega
      have hlt2 : (j : Int) < (n : Int) := by omega
      obtain ⟨i0, hi, hz0, hz1, hz2⟩ := info_parts Tryz.infoLive
      have HX := hid hx
      clear hcells hc hx
      generalize x.locals.length = ll at *
      go_wp2_with (at_builtin; refine wpList_append_own _ rfl (.tmp 15) (.tmp 20) 93 rfl w.heap.size 172 i0 (.agg #[.int .i64 0, .int .i64 0, .slice none 0 0]) 3 40 Tryz.underlying93 hi hz0 hz1 hz2 rfl (by decide) _ _ _ rfl (hown.alloc _) ⟨wr.heap.size, 0, none⟩ 1 1 [.int .i64 x.fn, .int .i64 x.next, .slice la ll lcap] rfl rfl ?d1 ?d2 ?d3 ?d4 ?d5 ?_)
      case d1 =>
        intro i u hu
        match i, hu with
        | 0, hu => simp at hu; subst hu; simp [Addr.add]
        | 1, hu => simp at hu; subst hu; simp [Addr.add]
        | 2, hu => simp at hu; subst hu; simp [Addr.add]
      case d2 => intro u hu; simp at hu; rcases hu with rfl | rfl | rfl <;> rfl
      case d3 => unfold maxLen; omega
      case d4 => omega
      case d5 => simp; omega
      intro v' w2 hown' hgrow _
      have hb2 : Below w.heap.size w w2 := (hbel.alloc (by omega) _).grown hgrow (by simp; omega) (fun k hk => (hown.lt k hk).1)
      have hfl : css.flatten ++ [Value.int .i64 x.fn, .int .i64 x.next, .slice la ll lcap] = (css ++ [[Value.int .i64 x.fn, .int .i64 x.next, .slice la ll lcap]]).flatten := by simp
      rw [hfl] at hown'
      have HO := hid hown'
      clear hown' hgrow hown hbel hfl
      go_wp2
      go_roundw
      case rel =>
        refine ⟨j + 1, css ++ [[.int .i64 x.fn, .int .i64 x.next, .slice la ll lcap]], by go_num, by omega, HO.out, by simp [HCL.out], ?_, ?_, hb2⟩
        · intro c hc
          rcases List.mem_append.1 hc with h | h
          · exact HC3.out c h
          · rw [List.mem_singleton.1 h]; rfl
        · intro i y cs hy hcs
          by_cases hij : i < css.length
          · rw [List.getElem?_append_left hij] at hcs
            exact HCR.out i y cs hy hcs
          · have hi2 : i < (css ++ [[Value.int .i64 x.fn, .int .i64 x.next, .slice la ll lcap]]).length := (List.getElem?_eq_some_iff.1 hcs).1
            simp at hi2
            have hie : i = j := by have := HCL.out; omega
            subst hie
            rw [HX.out] at hy
            cases hy
            rw [List.getElem?_append_right (by omega)] at hcs
            have he : i - css.length = 0 := by omega
            rw [he] at hcs
            simp at hcs
            subst hcs
            exact HLV.out
      case measure => simp [intOf]; omega
    · have hje : j = n - k := by omega
      have hge : ¬ ((j : Int) < (n : Int) - k) := by omega
      have HO := hid hown
      clear hown
      go_wp2
      go_ret
      refine ⟨_, rfl, css, by first | exact HO.out | (rw [← hje]; exact HO.out), by first | exact HCL.out | (rw [← hje]; exact HCL.out), HC3.out, HCR.out, hbel⟩
end Go.Proofs.YtffnfjkjlmlonaaGreatDoor
namespace Go.Proofs.YtffnfjkjlmlonaaGreatDoor
open Go.RowKit

/-- How a run stands. -/
structure StandD where
  status : Int
  value : Int
  live : List LiveD
def RdStand (w : World) (cs : List Value) (s : StandD) : Prop :=
  ∃ a cap, cs = [.int .i64 s.status, .int .i64 s.value, .slice a s.live.length cap] ∧ RdL 3 RdLive w a s.live.length cap s.live
theorem RdStand.below {w w' : World} {cs : List Value} {s : StandD} (h : RdStand w cs s) (hb : Below w.heap.size w w') : RdStand w' cs s := by
  obtain ⟨a, cap, e, hr⟩ := h
  exact ⟨a, cap, e, hr.below hb (fun _ _ h => h.below hb)⟩

set_option maxHeartbeats 2000000 in
set_option maxRecDepth 100000 in
theorem Begun_any (pa : Option Addr) (pcap : Nat) (p : List FnD) (x : FnD) (n : Nat) (aa : Option Addr) (acap : Nat) (args : List Int) (w : World) (hr : RdP w pa p.length pcap p) (hx : p[0]? = some x) (hn : x.locals = n) (hn1 : n ≤ 1000)
    (ha : Rd .i64 w aa args.length acap args) (hal : args.length ≤ n) :
    Calls Tryz.prog 120 #[.agg #[.slice pa p.length pcap], .slice aa args.length acap] w fun e w' =>
      ∃ cs, e = .returned (.agg cs.toArray) ∧ RdStand w' cs ⟨0, 0, [⟨0, 0, fillI args n args.length⟩]⟩ ∧ Below w.heap.size w w' := by
  have HF := hid (fun (W : World) (hW : Below w.heap.size w W) => fresh_any pa pcap p 0 x n aa acap args W (hr.below hW) hx hn hn1 (ha.below hW (Nat.le_refl _)) hal)
  clear hr ha hx hn hal
  generalize fillI args n args.length = loc at *
  generalize p.length = pl at *
  generalize args.length = al at *
  go_enter Tryz.func120, Tryz.ntmps120
  go_wp2_with fail
  obtain ⟨wb, hwb⟩ : ∃ wb, wb = (w.alloc (Obj.cells #[.slice pa pl pcap] 44)).alloc (Obj.cells #[.int .i64 0, .int .i64 0, .slice none 0 0] 95) := ⟨_, rfl⟩
  have hbb : Below w.heap.size w wb := by rw [hwb]; exact ((Below.refl _ _).alloc (Nat.le_refl _) _).alloc (by simp) _
  have hbs : wb.heap.size = w.heap.size + 2 := by rw [hwb]; simp
  have hk2 : wb.heap[w.heap.size + 1]? = some (.cells #[.int .i64 0, .int .i64 0, .slice none 0 0] 95 (0, 0)) := by
    rw [hwb]
    have := heap_alloc_new (w.alloc (Obj.cells #[.slice pa pl pcap] 44)) (Obj.cells #[.int .i64 0, .int .i64 0, .slice none 0 0] 95)
    simpa using this
  rw [← hwb]
  clear hwb
  refine (HF.out wb hbb).mono ?_
  rintro e w2 ⟨cs, rfl, hlive, ⟨g, gn, gc, hg, hg2⟩, hb2⟩
  obtain ⟨la, lcap, rfl, hrd⟩ := hlive
  simp at hg2
  obtain ⟨rfl, rfl, rfl⟩ := hg2
  have HRD := hid hrd
  clear hrd
  have hs2 := hb2.size
  have m2 := (hb2.block (w.heap.size + 1) (by omega)).trans hk2
  have q0 : w2.cell? ⟨w.heap.size + 1, 0, none⟩ = some (.int .i64 0) := by simp [World.cell?, m2]
  have q1 : w2.cell? ⟨w.heap.size + 1, 1, none⟩ = some (.int .i64 0) := by simp [World.cell?, m2]
  have q2 : w2.cell? ⟨w.heap.size + 1, 2, none⟩ = some (.slice none 0 0) := by simp [World.cell?, m2]
  have z0 : w2.frozen? ⟨w.heap.size + 1, 0, none⟩ = false := by simp [World.frozen?, m2]
  have z1 : w2.frozen? ⟨w.heap.size + 1, 1, none⟩ = false := by simp [World.frozen?, m2]
  have z2 : w2.frozen? ⟨w.heap.size + 1, 2, none⟩ = false := by simp [World.frozen?, m2]
  have m3 : ((w2.alloc (Obj.cells #[.int .i64 0, .int .i64 0, .slice (some ⟨g, 0, none⟩) loc.length lcap] 172)).alloc (Obj.cells #[.int .i64 0, .int .i64 0, .slice (some ⟨g, 0, none⟩) loc.length lcap] 172)).heap[w.heap.size + 1]? = some (.cells #[.int .i64 0, .int .i64 0, .slice none 0 0] 95 (0, 0)) := by
    rw [heap_alloc_old _ _ (by simp; omega), heap_alloc_old _ _ (by omega)]
    exact m2
  obtain ⟨w3, hw3⟩ : ∃ w3, w3 = (w2.alloc (Obj.cells #[.int .i64 0, .int .i64 0, .slice (some ⟨g, 0, none⟩) loc.length lcap] 172)).alloc (Obj.cells #[.int .i64 0, .int .i64 0, .slice (some ⟨g, 0, none⟩) loc.length lcap] 172) := ⟨_, rfl⟩
  rw [← hw3] at m3
  have hb3 : Below w.heap.size w w3 := by rw [hw3]; exact (((hbb.trans (hb2.mono (by omega))).alloc (by omega) _).alloc (by simp; omega) _)
  have hb23 : Below w2.heap.size w2 w3 := by rw [hw3]; exact ((Below.refl _ _).alloc (Nat.le_refl _) _).alloc (by simp) _
  have k3 : w3.heap[w2.heap.size + 1]? = some (.cells #[.int .i64 0, .int .i64 0, .slice (some ⟨g, 0, none⟩) loc.length lcap] 172 (0, 0)) := by
    rw [hw3]
    have := heap_alloc_new (w2.alloc (Obj.cells #[.int .i64 0, .int .i64 0, .slice (some ⟨g, 0, none⟩) loc.length lcap] 172)) (Obj.cells #[.int .i64 0, .int .i64 0, .slice (some ⟨g, 0, none⟩) loc.length lcap] 172)
    simpa using this
  clear hk2 m2 q0 q1 q2 z0 z1 z2
  have q0 : w3.cell? ⟨w.heap.size + 1, 0, none⟩ = some (.int .i64 0) := by simp [World.cell?, m3]
  have q1 : w3.cell? ⟨w.heap.size + 1, 1, none⟩ = some (.int .i64 0) := by simp [World.cell?, m3]
  have q2 : w3.cell? ⟨w.heap.size + 1, 2, none⟩ = some (.slice none 0 0) := by simp [World.cell?, m3]
  have z0 : w3.frozen? ⟨w.heap.size + 1, 0, none⟩ = false := by simp [World.frozen?, m3]
  have z1 : w3.frozen? ⟨w.heap.size + 1, 1, none⟩ = false := by simp [World.frozen?, m3]
  have z2 : w3.frozen? ⟨w.heap.size + 1, 2, none⟩ = false := by simp [World.frozen?, m3]
  rw [hw3] at q0 q1 q2 z0 z1 z2
  have hgw : w.heap.size + 2 ≤ g := by omega
  clear hg
  go_wp2
  rw [← hw3] at q0 q1 q2 ⊢
  have hbe := ((hb3.setCell (p := ⟨w.heap.size + 1, 0, none⟩) (by show w.heap.size ≤ w.heap.size + 1; omega) (.int .i64 0)).setCell (p := ⟨w.heap.size + 1, 1, none⟩) (by show w.heap.size ≤ w.heap.size + 1; omega) (.int .i64 0)).setCell (p := ⟨w.heap.size + 1, 2, none⟩) (by show w.heap.size ≤ w.heap.size + 1; omega) (.slice (some ⟨w2.heap.size + 1, 0, none⟩) 1 1)
  have hr3 := (((HRD.out.below hb23 (Nat.le_refl _)).setOther (b := w.heap.size + 1) (by omega) 0 (.int .i64 0)).setOther (b := w.heap.size + 1) (by omega) 1 (.int .i64 0)).setOther (b := w.heap.size + 1) (by omega) 2 (.slice (some ⟨w2.heap.size + 1, 0, none⟩) 1 1)
  have k4 : (((w3.setCell ⟨w.heap.size + 1, 0, none⟩ (.int .i64 0)).setCell ⟨w.heap.size + 1, 1, none⟩ (.int .i64 0)).setCell ⟨w.heap.size + 1, 2, none⟩ (.slice (some ⟨w2.heap.size + 1, 0, none⟩) 1 1)).heap[w2.heap.size + 1]? = some (.cells #[.int .i64 0, .int .i64 0, .slice (some ⟨g, 0, none⟩) loc.length lcap] 172 (0, 0)) := by
    rw [Below.heap_setCell _ _ _ _ (by show w2.heap.size + 1 ≠ w.heap.size + 1; omega), Below.heap_setCell _ _ _ _ (by show w2.heap.size + 1 ≠ w.heap.size + 1; omega), Below.heap_setCell _ _ _ _ (by show w2.heap.size + 1 ≠ w.heap.size + 1; omega)]
    exact k3
  refine bodyPost_ret (v := .agg #[.int .i64 0, .int .i64 0, .slice (some ⟨w2.heap.size + 1, 0, none⟩) 1 1]) (by simp [results, Tryz.results120, go_sem, q0, q1, q2]) rfl ⟨[.int .i64 0, .int .i64 0, .slice (some ⟨w2.heap.size + 1, 0, none⟩) 1 1], rfl, ⟨some ⟨w2.heap.size + 1, 0, none⟩, 1, rfl, rfl, Nat.le_refl _, by unfold maxLen; simp, fun i x hx => ?_⟩, hbe⟩
  have hi0 : i = 0 := by
    have := (List.getElem?_eq_some_iff.1 hx).1
    simpa using this
  subst hi0
  simp at hx
  subst hx
  refine ⟨w2.heap.size + 1, 0, [.int .i64 0, .int .i64 0, .slice (some ⟨g, 0, none⟩) loc.length lcap], rfl, rfl, fun j v hj => ?_, some ⟨g, 0, none⟩, lcap, rfl, hr3⟩
  match j, hj with
  | 0, hj => simp at hj; subst hj; simp [World.cell?, k4]
  | 1, hj => simp at hj; subst hj; simp [World.cell?, k4]
  | 2, hj => simp at hj; subst hj; simp [World.cell?, k4]
end Go.Proofs.YtffnfjkjlmlonaaGreatDoor
