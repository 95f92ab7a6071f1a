/- The contract of the statement's own function programStill: at a program as it was handed in it returns true; nothing that was there is written. -/
import Derived.Test.YtooinlilplecpaaGreatDoorH6
namespace Go.Proofs.YtooinlilplecpaaGreatDoor
open Go.RowKit

theorem HdP.below {w w' : World} {base : Nat} {w0 : World} {a : Option Addr} {p : List FnD} {g : Nat} (h : HdP w base w0 a p g) (hb : Below w.heap.size w w') : HdP w' base w0 a p g := by
  obtain ⟨done, h1, h2, h3, h4⟩ := h
  exact ⟨done, h1, h2, h3.mono (fun _ _ _ h => h.below hb), owns_below h4 hb⟩

/-- The cells of one function that was handed in. -/
theorem HdP.at {w : World} {base : Nat} {w0 : World} {a : Option Addr} {p : List FnD} {g : Nat} (h : HdP w base w0 a p g) (i : Nat) (x : FnD) (hx : p[i]? = some x) :
    ∃ b off ba bcap gi, a = some ⟨b, off, none⟩ ∧ w0.cell? ⟨b, off + i * 5 + 4, none⟩ = some (.slice ba x.body.length bcap) ∧ HdB w base (fun j => ba.bind fun c => w0.cell? ⟨c.block, c.off + j * 6 + 5, none⟩) x.body gi ∧
      ∀ j v, (fnCells x gi)[j]? = some v → w.cell? ⟨g, i * 5 + j, none⟩ = some v := by
  obtain ⟨done, h1, h2, h3, h4⟩ := h
  have hi := (List.getElem?_eq_some_iff.1 hx).1
  obtain ⟨b, off, ba, bcap, gi, e1, e2, e3, e4⟩ := h3 i x (by omega) hx
  refine ⟨b, off, ba, bcap, gi, e1, e2, e4, fun j v hj => ?_⟩
  have hj5 : j < 5 := by
    rcases Nat.lt_or_ge j 5 with h | h
    · exact h
    · rw [List.getElem?_eq_none (by simpa [fnCells] using h)] at hj; cases hj
  have hall : ∀ e ∈ done ++ List.replicate 8 markFn, e.length = 5 := by
    intro e he
    rcases List.mem_append.1 he with h | h
    · exact h2 e h
    · rw [List.eq_of_mem_replicate h]; rfl
  have := h4.cellAt (i * 5 + j) (by omega)
  rw [flatten_get 5 _ i j hall (by simp; omega) hj5] at this
  have hd : (done ++ List.replicate 8 markFn).getD i [] = fnCells x gi := by
    simp only [List.getD]
    rw [List.getElem?_append_left (by omega), e3]
    rfl
  rw [hd, hj] at this
  exact this
theorem HdP.mark {w : World} {base : Nat} {w0 : World} {a : Option Addr} {p : List FnD} {g : Nat} (h : HdP w base w0 a p g) (k : Nat) (hk : k < 8) : ∀ j v, markFn[j]? = some v → w.cell? ⟨g, (p.length + k) * 5 + j, none⟩ = some v := by
  intro j v hj
  obtain ⟨done, h1, h2, _, h4⟩ := h
  have hj5 : j < 5 := by
    rcases Nat.lt_or_ge j 5 with h | h
    · exact h
    · rw [List.getElem?_eq_none (by simpa [markFn] using h)] at hj; cases hj
  have hall : ∀ e ∈ done ++ List.replicate 8 markFn, e.length = 5 := by
    intro e he
    rcases List.mem_append.1 he with h | h
    · exact h2 e h
    · rw [List.eq_of_mem_replicate h]; rfl
  have := h4.cellAt ((p.length + k) * 5 + j) (by omega)
  rw [flatten_get 5 _ (p.length + k) j hall (by simp; omega) hj5] at this
  have hd : (done ++ List.replicate 8 markFn).getD (p.length + k) [] = markFn := by
    simp only [List.getD]
    rw [List.getElem?_append_right (by omega), h1, Nat.add_sub_cancel_left, List.getElem?_replicate_of_lt hk]
    rfl
  rw [hd, hj] at this
  exact this
/-- A program that was handed in reads as the program that it was made of. -/
theorem HdP.read {w : World} {base : Nat} {w0 : World} {a : Option Addr} {p : List FnD} {g : Nat} (h : HdP w base w0 a p g) (hs : ∀ x ∈ p, x.name.size ≤ maxLen ∧ x.file.size ≤ maxLen) : RdP w (some ⟨g, 0, none⟩) p.length (p.length + 8) p := by
  have hm : p.length + 8 ≤ maxLen := by
    obtain ⟨done, _, _, _, h4⟩ := h
    rcases h4.2 with ⟨h', _⟩ | ⟨g', cap', cur, h', _, _, _, hcm, _⟩
    · cases h'
    · cases h'; exact hcm
  refine ⟨rfl, by omega, hm, fun i x hx => ?_⟩
  obtain ⟨_, _, _, _, gi, _, _, hh, hc⟩ := h.at i x hx
  have hsz := hs x (List.mem_of_getElem? hx)
  exact ⟨g, 0, fnCells x gi, rfl, rfl, fun j v hj => by rw [Nat.zero_add]; exact hc j v hj, some ⟨gi, 0, none⟩, x.body.length + 8, rfl, hh.read, hsz.1, hsz.2⟩

set_option maxHeartbeats 4000000 in
set_option maxRecDepth 100000 in
theorem programStill_any (base : Nat) (w0 : World) (g : Nat) (p : List FnD) (a : Option Addr) (cap : Nat) (w : World) (hh : HdP w base w0 a p g) (hr : RdP w a p.length cap p) (h0 : Below w0.heap.size w0 w)
    (hlen : p.length ≤ 2199023255552) (hbody : ∀ x ∈ p, x.body.length ≤ 2199023255552 ∧ ∀ o ∈ x.body, o.args.length ≤ 17592186044416) :
    Calls Tryz.prog 46 #[.agg #[.slice (some ⟨g, 0, none⟩) p.length (p.length + 8)], .agg #[.slice a p.length cap]] w fun e w' => e = .returned (.bool true) ∧ Below w.heap.size w w' := by
  obtain ⟨n, hn⟩ : ∃ n, n = p.length := ⟨_, rfl⟩
  rw [← hn] at hr hlen ⊢
  have HN := hid hn
  clear hn
  have hc1 := hr.2.1
  have hc2 := hr.2.2.1
  unfold maxLen at hc2
  obtain ⟨wb, hwb⟩ : ∃ wb, wb = (w.alloc (Obj.cells #[.slice (some ⟨g, 0, none⟩) n (n + 8)] 44)).alloc (Obj.cells #[.slice a n cap] 44) := ⟨_, rfl⟩
  have hbb : Below w.heap.size w wb := by rw [hwb]; exact ((Below.refl _ _).alloc (Nat.le_refl _) _).alloc (by simp) _
  have hbs : wb.heap.size = w.heap.size + 2 := by rw [hwb]; simp
  have hk2 : wb.heap[w.heap.size + 1]? = some (.cells #[.slice a n cap] 44 (0, 0)) := by
    rw [hwb]
    have := heap_alloc_new (w.alloc (Obj.cells #[.slice (some ⟨g, 0, none⟩) n (n + 8)] 44)) (Obj.cells #[.slice a n cap] 44)
    simpa using this
  have hge : decide ((n : Int) + 8 < (n : Int) + 8) = false := by simp
  have HK2 := hid hk2
  clear hk2
  go_enter Tryz.func46, Tryz.ntmps46
  go_wp2
  rw [← hwb]
  clear hwb
  go_loopw [7, 8] (fun i _ wr => ∃ j : Nat, i = .int .i64 j ∧ j ≤ n ∧ Below wb.heap.size wb wr) (fun i _ _ => n - (intOf i).toNat)
  case atStart => exact ⟨0, rfl, by omega, Below.refl _ _⟩
  case round =>
    obtain ⟨j, rfl, hj, hbel⟩ := hrel
    have hsz := hbel.size
    have hbe := hbb.trans (hbel.mono hbb.size)
    have hmr := (hbel.block (w.heap.size + 1) (by omega)).trans HK2.out
    have q0 : wr.cell? ⟨w.heap.size + 1, 0, none⟩ = some (.slice a n cap) := by simp [World.cell?, hmr]
    clear hmr
    by_cases hlt : j < n
    · obtain ⟨x, hx⟩ : ∃ x, p[j]? = some x := ⟨_, List.getElem?_eq_getElem (by rw [← HN.out]; exact hlt)⟩
      obtain ⟨b, off, ba, bcap, rfl, hb, d0, d1, d2, d3, d4, hrb, _, _⟩ := (hr.below hbe).at j x hx
      obtain ⟨b2, off2, ba2, bcap2, gi, eA, horg, hhb, hcells⟩ := (hh.below hbe).at j x hx
      cases eA
      have h0e : Below w0.heap.size w0 wr := h0.trans (hbe.mono h0.size)
      have hbae : ba2 = ba ∧ bcap2 = bcap := by
        have h2 := (h0e.cell (p := ⟨b, off + j * 5 + 4, none⟩) (World.block_lt_of_cell? w0 _ horg)).trans horg
        rw [d4] at h2
        injection h2 with h2
        injection h2 with e1 _ e3
        exact ⟨e1.symm, e3.symm⟩
      obtain ⟨rfl, rfl⟩ := hbae
      have hbd := hbody x (List.mem_of_getElem? hx)
      have HST := hid (fun (W : World) (hW : Below wr.heap.size wr W) => funcStill_any base _ gi x ba2 bcap2 W (hhb.below hW) (hrb.below hW (fun _ _ h => h.below hW)) (fun i hi => by
        obtain ⟨o, ho⟩ : ∃ o, x.body[i]? = some o := ⟨_, List.getElem?_eq_getElem hi⟩
        obtain ⟨_, _, _, ho1, _, _⟩ := hhb.at i o ho
        cases ba2 with
        | none => rfl
        | some c => exact (((h0e.trans (hW.mono h0e.size)).cell (p := ⟨c.block, c.off + i * 6 + 5, none⟩) (World.block_lt_of_cell? w0 _ ho1))).symm) hbd.1 hbd.2)
      have c0 : wr.cell? ⟨g, j * 5, none⟩ = some (.string x.name) := hcells 0 _ rfl
      have c1 : wr.cell? ⟨g, j * 5 + 1, none⟩ = some (.string x.file) := hcells 1 _ rfl
      have c2 : wr.cell? ⟨g, j * 5 + 2, none⟩ = some (.int .i64 x.params) := hcells 2 _ rfl
      have c3 : wr.cell? ⟨g, j * 5 + 3, none⟩ = some (.int .i64 x.locals) := hcells 3 _ rfl
      have c4 : wr.cell? ⟨g, j * 5 + 4, none⟩ = some (.slice (some ⟨gi, 0, none⟩) x.body.length (x.body.length + 8)) := hcells 4 _ rfl
      have hj8 : (j : Int) < (n : Int) + 8 := by omega
      clear hr hh hx hcells horg hhb hrb hbody hbd h0 h0e
      go_wp2
      go_region_with (go_at_call 92; refine (HST.out _ ?_).mono ?_; exact (Below.refl _ _).drew; rintro e w2 ⟨rfl, hb2⟩)
      all_goals
        go_wp2
        go_roundw
        case rel => exact ⟨j + 1, by go_num, by omega, hbel.trans (((Below.refl _ _).drew.trans hb2).mono hsz)⟩
        case measure => simp [intOf]; omega
    · have hjn : j = n := by omega
      subst hjn
      clear q0
      go_wp2
      go_loopw [9] (fun i wr => ∃ k : Nat, i = .int .i64 ((j : Int) + k) ∧ k ≤ 8 ∧ Below wb.heap.size wb wr) (fun i _ => (j + 8) - (intOf i).toNat)
      case atStart => exact ⟨0, by go_num, by omega, hbel⟩
      case round =>
        clear hbel hbe hsz
        obtain ⟨k, rfl, hk, hbel⟩ := hrel
        have hsz := hbel.size
        have hbe := hbb.trans (hbel.mono hbb.size)
        by_cases hk8 : k < 8
        · have hlt8 : (j : Int) + k < (j : Int) + 8 := by omega
          have e0 : ((j : Int) + (k : Int)).toNat = j + k := by omega
          have hm := (hh.below hbe).mark k hk8
          rw [← HN.out] at hm
          have x0 : wr.cell? ⟨g, (j + k) * 5, none⟩ = some (.string ⟨#[109, 97, 114, 107]⟩) := hm 0 _ rfl
          have x1 : wr.cell? ⟨g, (j + k) * 5 + 1, none⟩ = some (.string ⟨#[]⟩) := hm 1 _ rfl
          have x2 : wr.cell? ⟨g, (j + k) * 5 + 2, none⟩ = some (.int .i64 0) := hm 2 _ rfl
          have x3 : wr.cell? ⟨g, (j + k) * 5 + 3, none⟩ = some (.int .i64 0) := hm 3 _ rfl
          have x4 : wr.cell? ⟨g, (j + k) * 5 + 4, none⟩ = some (.slice none 0 0) := hm 4 _ rfl
          have hneq := fun W => run_neq_slice_nil_any (P := Tryz.prog) W 120 183 none 0 0 0 0 Tryz.underlying120
          clear hm hh hr hbody
          go_wp2
          go_roundw
          case rel => exact ⟨k + 1, by go_num, by omega, hbel.alloc hsz _⟩
          case measure => simp [intOf]; omega
        · have hk' : k = 8 := by omega
          subst hk'
          go_wp2
          go_ret
          exact ⟨rfl, hbe⟩
end Go.Proofs.YtooinlilplecpaaGreatDoor
