/- Contracts of unfoldref.but and unfoldref.fresh: a frame written anew. -/
import Derived.Test.YtooinlilplecpaaGreatDoorH1
import Derived.Test.YtooinlilplecpaaGreatDoorR1
namespace Go.Proofs.YtooinlilplecpaaGreatDoor
open Go.RowKit

/-- A frame. -/
structure LiveD where
  fn : Int
  next : Int
  locals : List Int

def RdLive (w : World) (cs : List Value) (x : LiveD) : Prop :=
  ∃ a cap, cs = [.int .i64 x.fn, .int .i64 x.next, .slice a x.locals.length cap] ∧ Rd .i64 w a x.locals.length cap x.locals

theorem RdLive.below {w w' : World} {cs : List Value} {x : LiveD} (h : RdLive w cs x) (hb : Below w.heap.size w w') : RdLive w' cs x := by
  obtain ⟨a, cap, e, hr⟩ := h
  exact ⟨a, cap, e, hr.below hb (Nat.le_refl _)⟩

theorem rd_of_ints {w : World} {base g n : Nat} {l : List Int} (h : w.ownsRow base 3 1 (.slice (some ⟨g, 0, none⟩) n n) n (ints l)) (hl : l.length = n) (hm : n ≤ maxLen) : Rd .i64 w (some ⟨g, 0, none⟩) n n l := by
  refine ⟨hl, Nat.le_refl _, hm, fun i hi => ⟨g, 0, rfl, ?_⟩⟩
  have := h.cellAt i (by omega)
  rw [ints_get l i (by omega)] at this
  rw [Nat.zero_add]
  exact this

theorem Rd.setOther {w : World} {g off len cap : Nat} {l : List Int} (h : Rd .i64 w (some ⟨g, off, none⟩) len cap l) {b : Nat} (hb : g ≠ b) (j : Nat) (u : Value) : Rd .i64 (w.setCell ⟨b, j, none⟩ u) (some ⟨g, off, none⟩) len cap l := by
  refine ⟨h.hlen, h.hcap, h.hmax, fun i hi => ?_⟩
  obtain ⟨b', o', e, hc⟩ := h.cell i hi
  cases e
  refine ⟨g, off, rfl, ?_⟩
  rw [← hc]
  simp only [World.cell?]
  rw [Below.heap_setCell _ _ _ _ (by exact hb)]

set_option maxHeartbeats 2000000 in
set_option maxRecDepth 100000 in
theorem but_any (x : LiveD) (a : Option Addr) (cap : Nat) (k : Nat) (v next : Int) (w : World) (hr : Rd .i64 w a x.locals.length cap x.locals) (hk : k < x.locals.length) (hl : x.locals.length ≤ 1000) :
    Calls Tryz.prog 181 #[.agg #[.int .i64 x.fn, .int .i64 x.next, .slice a x.locals.length cap], .int .i64 k, .int .i64 v, .int .i64 next] w fun e w' =>
      ∃ cs, e = .returned (.agg cs.toArray) ∧ RdLive w' cs ⟨x.fn, next, x.locals.set k v⟩ ∧ (∃ g n c, w.heap.size ≤ g ∧ cs[2]? = some (.slice (some ⟨g, 0, none⟩) n c)) ∧ Below w.heap.size w w' := by
  obtain ⟨fn, nx, l⟩ := x
  simp only at hr hk hl ⊢
  obtain ⟨n, hn⟩ : ∃ n, n = l.length := ⟨_, rfl⟩
  rw [← hn] at hr hk hl ⊢
  have HL := hid hn
  clear hn
  obtain ⟨b0, off0, rfl, _⟩ := hr.cell 0 (by omega)
  have hcp := hr.hcap
  have hmx := hr.hmax
  unfold maxLen at hmx
  obtain ⟨i0, hi, hz0, hz1, hz2⟩ := info_parts Tryz.infoInt
  obtain ⟨wb, hwb⟩ : ∃ wb, wb = (w.alloc (Obj.cells #[.int .i64 fn, .int .i64 nx, .slice (some ⟨b0, off0, none⟩) n cap] 172)).alloc (Obj.cells #[.int .i64 0, .int .i64 0, .slice none 0 0] 172) := ⟨_, rfl⟩
  have hbb : Below w.heap.size w wb := by rw [hwb]; exact ((Below.refl _ _).alloc (Nat.le_refl _) _).alloc (by simp) _
  have hbs : wb.heap.size = w.heap.size + 2 := by rw [hwb]; simp
  have hk1 : wb.heap[w.heap.size]? = some (.cells #[.int .i64 fn, .int .i64 nx, .slice (some ⟨b0, off0, none⟩) n cap] 172 (0, 0)) := by
    rw [hwb, heap_alloc_old _ _ (by simp)]
    exact heap_alloc_new _ _
  have hk2 : wb.heap[w.heap.size + 1]? = some (.cells #[.int .i64 0, .int .i64 0, .slice none 0 0] 172 (0, 0)) := by
    rw [hwb]
    have := heap_alloc_new (w.alloc (Obj.cells #[.int .i64 fn, .int .i64 nx, .slice (some ⟨b0, off0, none⟩) n cap] 172)) (Obj.cells #[.int .i64 0, .int .i64 0, .slice none 0 0] 172)
    simpa using this
  obtain ⟨wm, hmk, hown, hgr⟩ := run_make_full (P := Tryz.prog) wb wb.heap.size 35 3 i0 (.int .i64 0) 1 Tryz.underlying35 hi hz0 hz1 .i64 .i64 n (by rw [hz2]; omega) (by unfold maxLen; omega) (Nat.le_refl _)
  rw [made_ints] at hown
  have hbm : Below wb.heap.size wb wm := (Below.refl _ _).grown hgr (Nat.le_refl _) (fun k hk => by cases hk)
  have hrm := (hr.below hbb (Nat.le_refl _)).below hbm (Nat.le_refl _)
  have HSRC := hid hrm.src
  have HO0 := hid hown
  have m1 := (hbm.block w.heap.size (by omega)).trans hk1
  have m2 := (hbm.block (w.heap.size + 1) (by omega)).trans hk2
  have r2 : wm.cell? ⟨w.heap.size, 2, none⟩ = some (.slice (some ⟨b0, off0, none⟩) n cap) := by simp [World.cell?, m1]
  have HM1 := hid m1
  have HM2 := hid m2
  clear hown hgr hrm hk1 hk2 hr m1 m2
  rw [hbs] at hmk HO0
  rw [hwb] at hmk
  clear hwb
  go_enter Tryz.func181, Tryz.ntmps181
  go_wp2_with (refine wpList_copy_wide rfl (.tmp 14) (.tmp 16) 35 35 rfl 3 1 (w.heap.size + 2) Tryz.underlying35 Tryz.infoInt1 (w.heap.size + 2) n n ⟨b0, off0, none⟩ n cap rfl rfl (ints (List.replicate n 0)) HO0.out (ints l) (by rw [ints_len, ← HL.out, Nat.mul_one]) (by omega) HSRC.out (ints_one l) ?_)
  intro wc hownc hgrc
  have hbc : Below (w.heap.size + 2) wb wc := by rw [← hbs]; exact hbm.grown hgrc hbm.size (fun k hk => by cases hk; exact Nat.le_of_eq hbs)
  have hfl : ints l ++ (ints (List.replicate n 0)).drop (ints l).length = ints l := by
    rw [List.drop_of_length_le (by rw [ints_len, ints_len, List.length_replicate, HL.out]; exact Nat.le_refl _), List.append_nil]
  rw [hfl] at hownc
  have m1 : wc.heap[w.heap.size]? = _ := ((hbc.block w.heap.size (by omega)).trans (hbm.block w.heap.size (by omega)).symm).trans HM1.out
  have m2 : wc.heap[w.heap.size + 1]? = _ := ((hbc.block (w.heap.size + 1) (by omega)).trans (hbm.block (w.heap.size + 1) (by omega)).symm).trans HM2.out
  have r0 : wc.cell? ⟨w.heap.size, 0, none⟩ = some (.int .i64 fn) := by simp [World.cell?, m1]
  have q0 : wc.cell? ⟨w.heap.size + 1, 0, none⟩ = some (.int .i64 0) := by simp [World.cell?, m2]
  have q1 : wc.cell? ⟨w.heap.size + 1, 1, none⟩ = some (.int .i64 0) := by simp [World.cell?, m2]
  have q2 : wc.cell? ⟨w.heap.size + 1, 2, none⟩ = some (.slice none 0 0) := by simp [World.cell?, m2]
  have z0 : wc.frozen? ⟨w.heap.size + 1, 0, none⟩ = false := by simp [World.frozen?, m2]
  have z1 : wc.frozen? ⟨w.heap.size + 1, 1, none⟩ = false := by simp [World.frozen?, m2]
  have z2 : wc.frozen? ⟨w.heap.size + 1, 2, none⟩ = false := by simp [World.frozen?, m2]
  have hc1 := hownc.cellAt k (by omega)
  rw [ints_get _ _ (by rw [← HL.out]; exact hk)] at hc1
  generalize l.getD k 0 = o1 at hc1
  have hf1 := hownc.frozenAt k
  have hs1 := (hownc.stored k (.int .i64 v)).1
  rw [ints_set] at hs1
  have HS := hid hs1
  have hkn : (k : Int) < (n : Int) := by omega
  clear hownc hgrc hfl hs1 HSRC HO0 hmk HM1 HM2 m1 m2 r2 hi hz0 hz1 hz2
  go_wp2
  have hne : ∀ j : Nat, (Value.slice (some ⟨w.heap.size + 2, 0, none⟩) n n).ownBlock ≠ some (⟨w.heap.size + 1, j, none⟩ : Addr).block := fun j => by simp [Value.ownBlock]
  have o1 := ownsRow_setCell_other (ownsRow_setCell_other (ownsRow_setCell_other HS.out (hne 0) (.int .i64 fn)) (hne 1) (.int .i64 next)) (hne 2) (.slice (some ⟨w.heap.size + 2, 0, none⟩) n n)
  have hbw : Below w.heap.size w wc := hbb.trans (hbc.mono (by omega))
  have hbe := (((hbw.setCell (p := ⟨w.heap.size + 2, k, none⟩) (by show w.heap.size ≤ w.heap.size + 2; omega) (.int .i64 v)).setCell (p := ⟨w.heap.size + 1, 0, none⟩) (by show w.heap.size ≤ w.heap.size + 1; omega) (.int .i64 fn)).setCell (p := ⟨w.heap.size + 1, 1, none⟩) (by show w.heap.size ≤ w.heap.size + 1; omega) (.int .i64 next)).setCell (p := ⟨w.heap.size + 1, 2, none⟩) (by show w.heap.size ≤ w.heap.size + 1; omega) (.slice (some ⟨w.heap.size + 2, 0, none⟩) n n)
  have hls : (l.set k v).length = n := by rw [List.length_set, HL.out]
  have hrd := rd_of_ints o1 hls (by unfold maxLen; omega)
  refine bodyPost_ret (v := .agg #[.int .i64 fn, .int .i64 next, .slice (some ⟨w.heap.size + 2, 0, none⟩) n n]) (by simp [results, Tryz.results181, go_sem, q0, q1, q2]) rfl ⟨[.int .i64 fn, .int .i64 next, .slice (some ⟨w.heap.size + 2, 0, none⟩) n n], rfl, ⟨some ⟨w.heap.size + 2, 0, none⟩, n, ?_, ?_⟩, ⟨w.heap.size + 2, n, n, by omega, rfl⟩, hbe⟩
  · simp [hls]
  · simp only [hls]
    exact hrd

/-- The locals of a frame that begins: the arguments, and noughts. -/
def fillI (args : List Int) (n j : Nat) : List Int := args.take j ++ List.replicate (n - j) 0

theorem fillI_len (args : List Int) (n j : Nat) (h : j ≤ args.length) (hn : args.length ≤ n) : (fillI args n j).length = n := by
  simp [fillI]; omega
theorem fillI_set (args : List Int) (n j : Nat) (h : j < args.length) (hn : args.length ≤ n) : (fillI args n j).set j (args.getD j 0) = fillI args n (j + 1) := by
  unfold fillI
  rw [List.set_append_right _ _ (by simp; omega)]
  have e : j - (args.take j).length = 0 := by simp; omega
  have e2 : n - j = (n - (j + 1)) + 1 := by omega
  rw [e, e2, List.replicate_succ, List.set_cons_zero, List.take_succ_eq_append_getElem h, List.append_assoc]
  simp [List.getD, h]

set_option maxHeartbeats 2000000 in
set_option maxRecDepth 100000 in
theorem fresh_any (pa : Option Addr) (pcap : Nat) (p : List FnD) (f : Nat) (x : FnD) (n : Nat) (aa : Option Addr) (acap : Nat) (args : List Int) (w : World) (hr : RdP w pa p.length pcap p) (hx : p[f]? = some x) (hn : x.locals = n) (hn1 : n ≤ 1000)
    (ha : Rd .i64 w aa args.length acap args) (hal : args.length ≤ n) :
    Calls Tryz.prog 177 #[.agg #[.slice pa p.length pcap], .int .i64 f, .slice aa args.length acap] w fun e w' =>
      ∃ cs, e = .returned (.agg cs.toArray) ∧ RdLive w' cs ⟨f, 0, fillI args n args.length⟩ ∧ (∃ g n c, w.heap.size ≤ g ∧ cs[2]? = some (.slice (some ⟨g, 0, none⟩) n c)) ∧ Below w.heap.size w w' := by
  have hfl : f < p.length := (List.getElem?_eq_some_iff.1 hx).1
  have hpm := hr.2.2.1
  have hpc := hr.2.1
  unfold maxLen at hpm
  obtain ⟨b, off, ba, bcap, rfl, hbl, c0, c1, c2, c3, c4, _, _, _⟩ := hr.at f x hx
  rw [hn] at c3
  have hfl' : (f : Int) < (p.length : Int) := by omega
  generalize p.length = pl at *
  obtain ⟨al, hal'⟩ : ∃ al, al = args.length := ⟨_, rfl⟩
  rw [← hal'] at ha hal ⊢
  have HL := hid hal'
  clear hal' hr
  obtain ⟨i0, hi, hz0, hz1, hz2⟩ := info_parts Tryz.infoInt
  obtain ⟨wb, hwb⟩ : ∃ wb, wb = (w.alloc (Obj.cells #[.slice (some ⟨b, off, none⟩) pl pcap] 44)).alloc (Obj.cells #[.int .i64 0, .int .i64 0, .slice none 0 0] 172) := ⟨_, rfl⟩
  have hbb : Below w.heap.size w wb := by rw [hwb]; exact ((Below.refl _ _).alloc (Nat.le_refl _) _).alloc (by simp) _
  have hbs : wb.heap.size = w.heap.size + 2 := by rw [hwb]; simp
  have hk2 : wb.heap[w.heap.size + 1]? = some (.cells #[.int .i64 0, .int .i64 0, .slice none 0 0] 172 (0, 0)) := by
    rw [hwb]
    have := heap_alloc_new (w.alloc (Obj.cells #[.slice (some ⟨b, off, none⟩) pl pcap] 44)) (Obj.cells #[.int .i64 0, .int .i64 0, .slice none 0 0] 172)
    simpa using this
  obtain ⟨wm, hmk, hown, hgr⟩ := run_make_full (P := Tryz.prog) wb wb.heap.size 35 3 i0 (.int .i64 0) 1 Tryz.underlying35 hi hz0 hz1 .i64 .i64 n (by rw [hz2]; omega) (by unfold maxLen; omega) (Nat.le_refl _)
  rw [made_ints] at hown
  have hbm : Below wb.heap.size wb wm := (Below.refl _ _).grown hgr (Nat.le_refl _) (fun k hk => by cases hk)
  have m2 := (hbm.block (w.heap.size + 1) (by omega)).trans hk2
  have hbwm : Below w.heap.size w wm := hbb.trans (hbm.mono hbb.size)
  rw [hbs] at hmk hown
  have e0 : List.replicate n (0 : Int) = fillI args n 0 := by simp [fillI]
  rw [e0] at hown
  have HO := hid hown
  have HM := hid m2
  have HA := hid ha
  have hac := ha.hcap
  have ham := ha.hmax
  unfold maxLen at ham
  rw [hwb] at hmk
  clear hown hgr hk2 m2 hwb hi hz0 hz1 hz2 ha e0
  go_enter Tryz.func177, Tryz.ntmps177
  go_wp2
  go_loopw [8] (fun i wr => ∃ j : Nat, i = .int .i64 j ∧ j ≤ al ∧ wr.ownsRow (w.heap.size + 2) 3 1 (.slice (some ⟨w.heap.size + 2, 0, none⟩) n n) n (ints (fillI args n j)) ∧ Below w.heap.size w wr ∧ wr.heap[w.heap.size + 1]? = some (.cells #[.int .i64 0, .int .i64 0, .slice none 0 0] 172 (0, 0))) (fun i _ => al - (intOf i).toNat)
  case atStart => exact ⟨0, rfl, by omega, HO.out, hbwm, HM.out⟩
  case round =>
    clear HO HM hbwm hmk hbm
    obtain ⟨j, rfl, hj, hown, hbel, hbox⟩ := hrel
    by_cases hja : j < al
    · obtain ⟨ab, aoff, rfl, hcell⟩ := (HA.out.below hbel (Nat.le_refl _)).cell j hja
      have hlt : (j : Int) < (al : Int) := by omega
      have hjn : (j : Int) < (n : Int) := by omega
      have hc1 := hown.cellAt j (by omega)
      rw [ints_get _ _ (by rw [fillI_len args n j (by rw [← HL.out]; omega) (by rw [← HL.out]; omega)]; omega)] at hc1
      generalize (fillI args n j).getD j 0 = o1 at hc1
      have hf1 := hown.frozenAt j
      have hs1 := (hown.stored j (.int .i64 (args.getD j 0))).1
      rw [ints_set, fillI_set args n j (by rw [← HL.out]; omega) (by rw [← HL.out]; omega)] at hs1
      have HS := hid hs1
      have HBX := hid hbox
      clear hown hs1 hbox
      generalize args.getD j 0 = av at *
      go_wp2
      go_roundw
      case rel => exact ⟨j + 1, by go_num, by omega, HS.out, hbel.setCell (by show w.heap.size ≤ w.heap.size + 2; omega) _, by rw [Below.heap_setCell _ _ _ _ (by show w.heap.size + 1 ≠ w.heap.size + 2; omega)]; exact HBX.out⟩
      case measure => simp [intOf]; omega
    · have hje : j = al := by omega
      subst hje
      have q0 : wr.cell? ⟨w.heap.size + 1, 0, none⟩ = some (.int .i64 0) := by simp [World.cell?, hbox]
      have q1 : wr.cell? ⟨w.heap.size + 1, 1, none⟩ = some (.int .i64 0) := by simp [World.cell?, hbox]
      have q2 : wr.cell? ⟨w.heap.size + 1, 2, none⟩ = some (.slice none 0 0) := by simp [World.cell?, hbox]
      have z0 : wr.frozen? ⟨w.heap.size + 1, 0, none⟩ = false := by simp [World.frozen?, hbox]
      have z1 : wr.frozen? ⟨w.heap.size + 1, 1, none⟩ = false := by simp [World.frozen?, hbox]
      have z2 : wr.frozen? ⟨w.heap.size + 1, 2, none⟩ = false := by simp [World.frozen?, hbox]
      have HS := hid hown
      clear hown hbox
      go_wp2
      have hne : ∀ k : Nat, (Value.slice (some ⟨w.heap.size + 2, 0, none⟩) n n).ownBlock ≠ some (⟨w.heap.size + 1, k, none⟩ : Addr).block := fun k => by simp [Value.ownBlock]
      have o1 := ownsRow_setCell_other (ownsRow_setCell_other (ownsRow_setCell_other HS.out (hne 0) (.int .i64 f)) (hne 1) (.int .i64 0)) (hne 2) (.slice (some ⟨w.heap.size + 2, 0, none⟩) n n)
      have hbe := ((hbel.setCell (p := ⟨w.heap.size + 1, 0, none⟩) (by show w.heap.size ≤ w.heap.size + 1; omega) (.int .i64 f)).setCell (p := ⟨w.heap.size + 1, 1, none⟩) (by show w.heap.size ≤ w.heap.size + 1; omega) (.int .i64 0)).setCell (p := ⟨w.heap.size + 1, 2, none⟩) (by show w.heap.size ≤ w.heap.size + 1; omega) (.slice (some ⟨w.heap.size + 2, 0, none⟩) n n)
      have hls : (fillI args n j).length = n := fillI_len args n j (by rw [← HL.out]; omega) (by rw [← HL.out]; omega)
      have hrd := rd_of_ints o1 hls (by unfold maxLen; omega)
      refine bodyPost_ret (v := .agg #[.int .i64 f, .int .i64 0, .slice (some ⟨w.heap.size + 2, 0, none⟩) n n]) (by simp [results, Tryz.results177, go_sem, q0, q1, q2]) rfl ⟨[.int .i64 f, .int .i64 0, .slice (some ⟨w.heap.size + 2, 0, none⟩) n n], rfl, ⟨some ⟨w.heap.size + 2, 0, none⟩, n, ?_, ?_⟩, ⟨w.heap.size + 2, n, n, by omega, rfl⟩, hbe⟩
      · simp [hls]
      · simp only [hls]
        exact hrd
end Go.Proofs.YtooinlilplecpaaGreatDoor
