/- The contract of the statement's own function funcStill: at a function as it was handed in it returns true; nothing that was there is written. -/
import Derived.Test.YtooinlilplecpaaGreatDoorH4
namespace Go.Proofs.YtooinlilplecpaaGreatDoor
open Go.RowKit

theorem HdB.below {w w' : World} {base : Nat} {orig : Nat → Option Value} {l : List OpD} {g : Nat} (h : HdB w base orig l g) (hb : Below w.heap.size w w') : HdB w' base orig l g := by
  obtain ⟨done, h1, h2, h3, h4⟩ := h
  exact ⟨done, h1, h2, h3.mono (fun _ _ _ h => h.below hb), owns_below h4 hb⟩
theorem HdB.lower {w : World} {base base' : Nat} {orig : Nat → Option Value} {l : List OpD} {g : Nat} (h : HdB w base orig l g) (hb : base' ≤ base) : HdB w base' orig l g := by
  obtain ⟨done, h1, h2, h3, h4⟩ := h
  refine ⟨done, h1, h2, ?_, owns_lower h4 hb⟩
  intro i o hi ho
  obtain ⟨aa, acap, hv, e1, e2, e3⟩ := h3 i o hi ho
  exact ⟨aa, acap, hv, e1, e2, e3.lower hb⟩

/-- The cells of one op of a body that was handed in. -/
theorem HdB.at {w : World} {base : Nat} {orig : Nat → Option Value} {l : List OpD} {g : Nat} (h : HdB w base orig l g) (i : Nat) (o : OpD) (ho : l[i]? = some o) :
    ∃ aa acap hv, orig i = some (.slice aa o.args.length acap) ∧ HdI w base aa o.args hv ∧ ∀ j v, (opCells o hv)[j]? = some v → w.cell? ⟨g, i * 6 + j, none⟩ = some v := by
  obtain ⟨done, h1, h2, h3, h4⟩ := h
  have hi := (List.getElem?_eq_some_iff.1 ho).1
  obtain ⟨aa, acap, hv, e1, e2, e3⟩ := h3 i o (by omega) ho
  refine ⟨aa, acap, hv, e1, e3, fun j v hj => ?_⟩
  have hj6 : j < 6 := by
    rcases Nat.lt_or_ge j 6 with h | h
    · exact h
    · rw [List.getElem?_eq_none (by simpa [opCells] using h)] at hj; cases hj
  have hall : ∀ e ∈ done ++ List.replicate 8 markOp, e.length = 6 := by
    intro e he
    rcases List.mem_append.1 he with h | h
    · exact h2 e h
    · rw [List.eq_of_mem_replicate h]; rfl
  have := h4.cellAt (i * 6 + j) (by omega)
  rw [flatten_get 6 _ i j hall (by simp; omega) hj6] at this
  have hd : (done ++ List.replicate 8 markOp).getD i [] = opCells o hv := by
    simp only [List.getD]
    rw [List.getElem?_append_left (by omega), e2]
    rfl
  rw [hd, hj] at this
  exact this
/-- The marks behind a body that was handed in. -/
theorem HdB.mark {w : World} {base : Nat} {orig : Nat → Option Value} {l : List OpD} {g : Nat} (h : HdB w base orig l g) (k : Nat) (hk : k < 8) : ∀ j v, markOp[j]? = some v → w.cell? ⟨g, (l.length + k) * 6 + j, none⟩ = some v := by
  intro j v hj
  obtain ⟨done, h1, h2, _, h4⟩ := h
  have hj6 : j < 6 := by
    rcases Nat.lt_or_ge j 6 with h | h
    · exact h
    · rw [List.getElem?_eq_none (by simpa [markOp] using h)] at hj; cases hj
  have hall : ∀ e ∈ done ++ List.replicate 8 markOp, e.length = 6 := by
    intro e he
    rcases List.mem_append.1 he with h | h
    · exact h2 e h
    · rw [List.eq_of_mem_replicate h]; rfl
  have := h4.cellAt ((l.length + k) * 6 + j) (by omega)
  rw [flatten_get 6 _ (l.length + k) j hall (by simp; omega) hj6] at this
  have hd : (done ++ List.replicate 8 markOp).getD (l.length + k) [] = markOp := by
    simp only [List.getD]
    rw [List.getElem?_append_right (by omega), h1, Nat.add_sub_cancel_left, List.getElem?_replicate_of_lt hk]
    rfl
  rw [hd, hj] at this
  exact this
/-- A body that was handed in reads as the body that it was made of. -/
theorem HdB.read {w : World} {base : Nat} {orig : Nat → Option Value} {l : List OpD} {g : Nat} (h : HdB w base orig l g) : RdL 6 RdOp w (some ⟨g, 0, none⟩) l.length (l.length + 8) l := by
  have hm : l.length + 8 ≤ maxLen := by
    obtain ⟨done, _, _, _, h4⟩ := h
    rcases h4.2 with ⟨h', _⟩ | ⟨g', cap', cur, h', _, _, _, hcm, _⟩
    · cases h'
    · cases h'; exact hcm
  refine ⟨rfl, by omega, hm, fun i o ho => ?_⟩
  obtain ⟨aa, acap, hv, _, hh, hc⟩ := h.at i o ho
  refine ⟨g, 0, opCells o hv, rfl, rfl, fun j v hj => by rw [Nat.zero_add]; exact hc j v hj, ?_⟩
  obtain ⟨a', cap', rfl, hr⟩ := hh.read
  exact ⟨a', cap', rfl, hr⟩

set_option maxHeartbeats 4000000 in
set_option maxRecDepth 100000 in
theorem funcStill_any (base : Nat) (orig : Nat → Option Value) (g : Nat) (f : FnD) (ba : Option Addr) (bcap : Nat) (w : World) (hh : HdB w base orig f.body g) (hr : RdL 6 RdOp w ba f.body.length bcap f.body)
    (hor : ∀ i, i < f.body.length → orig i = ba.bind fun a => w.cell? ⟨a.block, a.off + i * 6 + 5, none⟩) (hlen : f.body.length ≤ 2199023255552) (hargs : ∀ o ∈ f.body, o.args.length ≤ 17592186044416) :
    Calls Tryz.prog 92 #[.agg #[.string f.name, .string f.file, .int .i64 f.params, .int .i64 f.locals, .slice (some ⟨g, 0, none⟩) f.body.length (f.body.length + 8)], .agg #[.string f.name, .string f.file, .int .i64 f.params, .int .i64 f.locals, .slice ba f.body.length bcap]] w
      fun e w' => e = .returned (.bool true) ∧ Below w.heap.size w w' := by
  have hsame := fun (W : World) (hW : Below w.heap.size w W) => sameFunc_any f _ _ ba bcap W (hh.below hW).read (hr.below hW (fun _ _ h => h.below hW))
  obtain ⟨nm, fl, pr, lo, l⟩ := f
  simp only at hr hh hlen hargs hor hsame ⊢
  obtain ⟨n, hn⟩ : ∃ n, n = l.length := ⟨_, rfl⟩
  rw [← hn] at hr hlen hor hsame ⊢
  have HN := hid hn
  have HSAME := hid hsame
  have HOR := hid hor
  clear hn hsame hor
  have hc1 := hr.2.1
  have hc2 := hr.2.2.1
  unfold maxLen at hc2
  obtain ⟨wb, hwb⟩ : ∃ wb, wb = (w.alloc (Obj.cells #[.string nm, .string fl, .int .i64 pr, .int .i64 lo, .slice (some ⟨g, 0, none⟩) n (n + 8)] 122)).alloc (Obj.cells #[.string nm, .string fl, .int .i64 pr, .int .i64 lo, .slice ba n bcap] 122) := ⟨_, rfl⟩
  have hbb : Below w.heap.size w wb := by rw [hwb]; exact ((Below.refl _ _).alloc (Nat.le_refl _) _).alloc (by simp) _
  have hbs : wb.heap.size = w.heap.size + 2 := by rw [hwb]; simp
  have hk1 : wb.heap[w.heap.size]? = some (.cells #[.string nm, .string fl, .int .i64 pr, .int .i64 lo, .slice (some ⟨g, 0, none⟩) n (n + 8)] 122 (0, 0)) := by
    rw [hwb, Below.heap_alloc _ _ _ (by simp)]; exact heap_alloc_new _ _
  have hk2 : wb.heap[w.heap.size + 1]? = some (.cells #[.string nm, .string fl, .int .i64 pr, .int .i64 lo, .slice ba n bcap] 122 (0, 0)) := by
    rw [hwb]
    have := heap_alloc_new (w.alloc (Obj.cells #[.string nm, .string fl, .int .i64 pr, .int .i64 lo, .slice (some ⟨g, 0, none⟩) n (n + 8)] 122)) (Obj.cells #[.string nm, .string fl, .int .i64 pr, .int .i64 lo, .slice ba n bcap] 122)
    simpa using this
  have hge : decide ((n : Int) + 8 < (n : Int) + 8) = false := by simp
  go_enter Tryz.func92, Tryz.ntmps92
  go_wp2_with fail
  rw [← hwb]
  clear hwb
  refine (HSAME.out wb hbb).mono ?_
  rintro e w1 ⟨rfl, hb1⟩
  have hbel1 := hbb.trans (hb1.mono hbb.size)
  have m1 := (hb1.block w.heap.size (by omega)).trans hk1
  have m2 := (hb1.block (w.heap.size + 1) (by omega)).trans hk2
  have p4 : w1.cell? ⟨w.heap.size, 4, none⟩ = some (.slice (some ⟨g, 0, none⟩) n (n + 8)) := by simp [World.cell?, m1]
  have q4 : w1.cell? ⟨w.heap.size + 1, 4, none⟩ = some (.slice ba n bcap) := by simp [World.cell?, m2]
  have hs1 := hb1.size
  have HM2 := hid m2
  clear HSAME hk1 hk2 hb1 hbb m1 m2
  go_wp2
  go_loopw [8, 9] (fun i _ wr => ∃ j : Nat, i = .int .i64 j ∧ j ≤ n ∧ Below w1.heap.size w1 wr) (fun i _ _ => n - (intOf i).toNat)
  case atStart => exact ⟨0, rfl, by omega, Below.refl _ _⟩
  case round =>
    clear p4 q4
    obtain ⟨j, rfl, hj, hbel⟩ := hrel
    have hsz := hbel.size
    have hbe := hbel1.trans (hbel.mono hbel1.size)
    have hmr := (hbel.block (w.heap.size + 1) (by omega)).trans HM2.out
    have q4 : wr.cell? ⟨w.heap.size + 1, 4, none⟩ = some (.slice ba n bcap) := by simp [World.cell?, hmr]
    clear hmr
    by_cases hlt : j < n
    · obtain ⟨o, ho⟩ : ∃ o, l[j]? = some o := ⟨_, List.getElem?_eq_getElem (by rw [← HN.out]; exact hlt)⟩
      obtain ⟨b, off, aa, acap, rfl, hb, d5, hra⟩ : ∃ b off aa acap, ba = some ⟨b, off, none⟩ ∧ b < wr.heap.size ∧ wr.cell? ⟨b, off + j * 6 + 5, none⟩ = some (.slice aa o.args.length acap) ∧ Rd .i64 wr aa o.args.length acap o.args := by
        obtain ⟨b, off, aa, acap, e, hb, _, _, _, _, _, d5, hra⟩ := (hr.below hbe (fun _ _ h => h.below hbe)).opAt j o ho
        exact ⟨b, off, aa, acap, e, hb, d5, hra⟩
      obtain ⟨aa2, acap2, hv, horg, hhi, hcells⟩ := (hh.below hbe).at j o ho
      have haa : aa2 = aa := by
        have h1 := HOR.out j hlt
        rw [horg] at h1
        obtain ⟨b', off', aa', acap', e', hb', _, _, _, _, _, d5', _⟩ := hr.opAt j o ho
        cases e'
        have h2 : w.cell? ⟨b, off + j * 6 + 5, none⟩ = some (.slice aa o.args.length acap) := by
          rw [← (hbe.cell (p := ⟨b, off + j * 6 + 5, none⟩) hb')]; exact d5
        have h3 : some (Value.slice aa2 o.args.length acap2) = some (.slice aa o.args.length acap) := h1.trans h2
        injection h3 with h3
        injection h3
      subst haa
      have hc5 : wr.cell? ⟨g, j * 6 + 5, none⟩ = some hv := hcells 5 hv rfl
      have HST := hid (fun (W : World) (hW : Below wr.heap.size wr W) => intsStill_any base aa2 o.args.length acap o.args hv W (hhi.below hW) (hra.below hW (Nat.le_refl _)) (hargs o (List.mem_of_getElem? ho)))
      clear hr hh ho hra hcells horg HOR hargs hhi
      have hj8 : (j : Int) < (n : Int) + 8 := by omega
      go_wp2
      go_region_with (go_at_call 51; refine (HST.out _ ?_).mono ?_; exact (Below.refl _ _).drew; rintro e w2 ⟨rfl, hb2⟩)
      all_goals
        go_wp2
        go_roundw
        case rel => exact ⟨j + 1, by go_num, by omega, hbel.trans (((Below.refl _ _).drew.trans hb2).mono hsz)⟩
        case measure => simp [intOf]; omega
    · have hjn : j = n := by omega
      subst hjn
      clear q4
      go_wp2
      go_loopw [10] (fun i wr => ∃ k : Nat, i = .int .i64 ((j : Int) + k) ∧ k ≤ 8 ∧ Below w1.heap.size w1 wr) (fun i _ => (j + 8) - (intOf i).toNat)
      case atStart => exact ⟨0, by go_num, by omega, hbel⟩
      case round =>
        clear hbel hbe hsz
        obtain ⟨k, rfl, hk, hbel⟩ := hrel
        have hsz := hbel.size
        have hbe := hbel1.trans (hbel.mono hbel1.size)
        by_cases hk8 : k < 8
        · have hlt8 : (j : Int) + k < (j : Int) + 8 := by omega
          have e0 : ((j : Int) + (k : Int)).toNat = j + k := by omega
          have hm := (hh.below hbe).mark k hk8
          rw [← HN.out] at hm
          have x0 : wr.cell? ⟨g, (j + k) * 6, none⟩ = some (.int .i64 0) := hm 0 _ rfl
          have x1 : wr.cell? ⟨g, (j + k) * 6 + 1, none⟩ = some (.int .i64 77) := hm 1 _ rfl
          have x2 : wr.cell? ⟨g, (j + k) * 6 + 2, none⟩ = some (.int .i64 0) := hm 2 _ rfl
          have x3 : wr.cell? ⟨g, (j + k) * 6 + 3, none⟩ = some (.int .i64 0) := hm 3 _ rfl
          have x4 : wr.cell? ⟨g, (j + k) * 6 + 4, none⟩ = some (.int .i64 0) := hm 4 _ rfl
          have x5 : wr.cell? ⟨g, (j + k) * 6 + 5, none⟩ = some (.slice none 0 0) := hm 5 _ rfl
          have hneq := fun W => run_neq_slice_nil_any (P := Tryz.prog) W 35 3 none 0 0 0 0 Tryz.underlying35
          clear hm hh hr HOR hargs
          go_wp2
          go_roundw
          case rel => exact ⟨k + 1, by go_num, by omega, hbel.alloc hsz _⟩
          case measure => simp [intOf]; omega
        · have hk' : k = 8 := by omega
          subst hk'
          go_wp2
          go_ret
          exact ⟨rfl, hbe⟩
end Go.Proofs.YtooinlilplecpaaGreatDoor
