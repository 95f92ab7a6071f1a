/- Contract of the developers' code.Lay: the codes of a program's functions, or what is wrong with it, the budget, or their size. Contract of the developers' run.result: the plain functions of Set, Add, Sub, Div; nothing that was there is written. -/
import Derived.Test.YtffnfjkjlmlonaaGreatDoorQ1
import Derived.Test.YtffnfjkjlmlonaaGreatDoorZ27
import Derived.Test.YtffnfjkjlmlonaaGreatDoorR13
import Derived.Test.YtffnfjkjlmlonaaGreatDoorZ10
namespace Go.Proofs.YtffnfjkjlmlonaaGreatDoor
open Go.RowKit

/-- How places, a code and codes lie, only read. -/
def RdPl (w : World) (a : Option Addr) (len cap : Nat) (l : List PlD) : Prop := RdL 3 (fun _ cs x => cs = plCells x) w a len cap l
def RdNd (w : World) (a : Option Addr) (len cap : Nat) (l : List (Int × Int)) : Prop := RdL 2 (fun _ cs x => cs = ndCells x) w a len cap l
def RdCode (w : World) (cs : List Value) (c : CodeD) : Prop := ∃ pa pcap ta tcap, cs = [.int .i64 c.first, .slice pa c.places.length pcap, .slice ta c.tree.length tcap] ∧ RdPl w pa c.places.length pcap c.places ∧ RdNd w ta c.tree.length tcap c.tree
def RdC (w : World) (a : Option Addr) (len cap : Nat) (l : List CodeD) : Prop := RdL 3 RdCode w a len cap l

theorem rows_get {α : Type} (g : α → List Value) (k : Nat) (hg : ∀ x, (g x).length = k) : ∀ (l : List α) (i : Nat) (x : α), l[i]? = some x → ∀ (j : Nat) (v : Value), (g x)[j]? = some v → ((l.map g).flatten)[i * k + j]? = some v
  | [], i, x, h, _, _, _ => by simp at h
  | y :: r, 0, x, h, j, v, hv => by
    simp at h
    subst h
    have hj : j < (g y).length := (List.getElem?_eq_some_iff.1 hv).1
    rw [List.map_cons, List.flatten_cons, Nat.zero_mul, Nat.zero_add, List.getElem?_append_left hj]
    exact hv
  | y :: r, i + 1, x, h, j, v, hv => by
    have ih := rows_get g k hg r i x (by simpa using h) j v hv
    rw [List.map_cons, List.flatten_cons, List.getElem?_append_right (by rw [hg, Nat.succ_mul]; omega), hg]
    have : (i + 1) * k + j - k = i * k + j := by rw [Nat.succ_mul]; omega
    rw [this]
    exact ih

/-- A row that is owned, read in any world that has its block as it was. -/
theorem rd_row {α : Type} (g : α → List Value) (k : Nat) (hg : ∀ x, (g x).length = k) {w W : World} {base : Nat} {e : TypeId} {v : Value} {l : List α} (h : w.ownsRow base e k v l.length (l.map g).flatten) (hW : ∀ b, v.ownBlock = some b → W.heap[b]? = w.heap[b]?) :
    ∃ a cap, v = .slice a l.length cap ∧ RdL k (fun _ cs x => cs = g x) W a l.length cap l := by
  rcases h.2 with ⟨h1, h2⟩ | ⟨b, cap, cur, h1, h2, h3, h4, h5, h6, h7⟩
  · refine ⟨none, 0, by rw [h1, h2], rfl, by omega, by unfold maxLen; omega, fun i x hx => ?_⟩
    have := (List.getElem?_eq_some_iff.1 hx).1
    omega
  · refine ⟨some ⟨b, 0, none⟩, cap, h1, rfl, h4, h5, fun i x hx => ⟨b, 0, g x, rfl, hg x, fun j v' hv' => ?_, rfl⟩⟩
    have hget := rows_get g k hg l i x hx j v' hv'
    have hlt : i * k + j < l.length * k := by
      have := (List.getElem?_eq_some_iff.1 hget).1
      rw [h.1] at this
      exact this
    rw [h1] at h
    have hc := h.cellAt (i * k + j) hlt
    rw [hget] at hc
    have he : W.cell? ⟨b, i * k + j, none⟩ = w.cell? ⟨b, i * k + j, none⟩ := World.cell?_of_block (hW b (by rw [h1]; rfl))
    rw [Nat.zero_add]
    exact he.trans hc

/-- A code whose rows are owned, apart from the box wb and from the block L. -/
def CodeIn (wb : Nat) (L : Option Nat) (w : World) (cs : List Value) (c : CodeD) : Prop := ∃ pl tr, cs = [.int .i64 c.first, pl, tr] ∧ w.ownsRow (wb + 1) 270 3 pl c.places.length (c.places.map plCells).flatten ∧ w.ownsRow (wb + 1) 112 2 tr c.tree.length (c.tree.map ndCells).flatten ∧
  (∀ b, pl.ownBlock = some b → L ≠ some b) ∧ (∀ b, tr.ownBlock = some b → L ≠ some b)
theorem owns_same {w w' : World} {base : Nat} {e : TypeId} {size : Nat} {v : Value} {n : Nat} {xs : List Value} (h : w.ownsRow base e size v n xs) (hs : ∀ b, v.ownBlock = some b → w'.heap[b]? = w.heap[b]?) : w'.ownsRow base e size v n xs := by
  refine ⟨h.1, ?_⟩
  rcases h.2 with h2 | ⟨g, cap, cur, h1, h2, h3, h4⟩
  · exact .inl h2
  · exact .inr ⟨g, cap, cur, h1, h2, (hs g (by rw [h1]; rfl)).trans h3, h4⟩
theorem CodeIn.same {wb : Nat} {L L' : Option Nat} {w w' : World} {cs : List Value} {c : CodeD} (h : CodeIn wb L w cs c) (hs : ∀ b, wb + 1 ≤ b → b < w.heap.size → L ≠ some b → w'.heap[b]? = w.heap[b]? ∧ L' ≠ some b) : CodeIn wb L' w' cs c := by
  obtain ⟨pl, tr, e, h1, h2, h3, h4⟩ := h
  exact ⟨pl, tr, e, owns_same h1 (fun b hb => (hs b (h1.lt b hb).1 (h1.lt b hb).2 (h3 b hb)).1), owns_same h2 (fun b hb => (hs b (h2.lt b hb).1 (h2.lt b hb).2 (h4 b hb)).1), fun b hb => (hs b (h1.lt b hb).1 (h1.lt b hb).2 (h3 b hb)).2, fun b hb => (hs b (h2.lt b hb).1 (h2.lt b hb).2 (h4 b hb)).2⟩
theorem CodeIn.rd {wb : Nat} {L : Option Nat} {w W : World} {cs : List Value} {c : CodeD} (h : CodeIn wb L w cs c) (hW : ∀ b, wb ≤ b → b < w.heap.size → W.heap[b]? = w.heap[b]?) : RdCode W cs c := by
  obtain ⟨pl, tr, e, h1, h2, h3, h4⟩ := h
  obtain ⟨pa, pcap, e1, k1⟩ := rd_row plCells 3 (fun _ => rfl) h1 (fun b hb => hW b (by have := (h1.lt b hb).1; omega) (h1.lt b hb).2)
  obtain ⟨ta, tcap, e2, k2⟩ := rd_row ndCells 2 (fun _ => rfl) h2 (fun b hb => hW b (by have := (h2.lt b hb).1; omega) (h2.lt b hb).2)
  exact ⟨pa, pcap, ta, tcap, by rw [e, e1, e2], k1, k2⟩

theorem Tryz.infoCode : (Tryz.prog.info? 220).map (fun i => (i.zero, i.size, i.bytes)) = some (some (.agg #[.int .i64 0, .slice none 0 0, .slice none 0 0]), 3, 56) := by kernel_rfl
theorem oneC (n : Int) (a b : Option Addr) (i j k l : Nat) : ∀ u ∈ [Value.int .i64 n, .slice a i j, .slice b k l], u.oneCell' = true := by
  intro u hu; simp at hu; rcases hu with rfl | rfl | rfl <;> rfl

/-- Codes that were laid, read in any world that has the blocks from B on as they were. -/
def RdCFrom (B : Nat) (w : World) (a : Option Addr) (len cap : Nat) (l : List CodeD) : Prop := ∀ W : World, (∀ b, B ≤ b → b < w.heap.size → W.heap[b]? = w.heap[b]?) → RdC W a len cap l

set_option maxHeartbeats 4000000 in
set_option maxRecDepth 100000 in
theorem Lay_any (pa : Option Addr) (pcap : Nat) (p : List FnD) (bud : Int) (w : World) (hp : RdP w pa p.length pcap p) (hbd : R64 bud) :
    Calls Tryz.prog 168 #[.agg #[.slice pa p.length pcap], .int .i64 bud] w fun e w' => Below w.heap.size w w' ∧
      ((layE p bud ≠ 0 ∧ e = .returned (.tuple #[.slice none 0 0, .int .i64 (layE p bud)])) ∨
       (layE p bud = 0 ∧ ∃ cs a cap, codesD p bud = some cs ∧ e = .returned (.tuple #[.slice a cs.length cap, .int .i64 0]) ∧ RdCFrom w.heap.size w' a cs.length cap cs)) := by
  have HCK := hid (fun (W : World) (hW : Below w.heap.size w W) => pCheck_any pa p.length pcap p W (hp.below hW))
  obtain ⟨hb1, hb2⟩ := hbd
  have hpl := hp.2.2.1
  have hpl1 := hp.2.1
  unfold maxLen at hpl
  have HP := hid hp
  obtain ⟨LE, hLE⟩ : ∃ v, v = layE p bud := ⟨_, rfl⟩
  rw [← hLE]
  have HLE : Hid (LE = if (chk p).1 ≠ 0 then (chk p).1 else if 0 ≤ bud ∧ bud ≤ 30 then (if (codesD p bud).isSome = true then 0 else 11) else 1) := hLE
  obtain ⟨pl, hpl2⟩ : ∃ v, v = p.length := ⟨_, rfl⟩
  rw [← hpl2] at HP HCK hpl1 ⊢
  have HPL := hid hpl2
  clear hpl2 hp hLE
  go_enter Tryz.func168, Tryz.ntmps168
  obtain ⟨wa, hwa⟩ : ∃ v, v = w.alloc (Obj.cells #[.slice pa pl pcap] 44) := ⟨_, rfl⟩
  have hba : Below w.heap.size w wa := by rw [hwa]; exact (Below.refl _ _).alloc (Nat.le_refl _) _
  have hsa : wa.heap.size = w.heap.size + 1 := by rw [hwa]; simp
  have ka : wa.heap[w.heap.size]? = some (.cells #[.slice pa pl pcap] 44 (0, 0)) := by rw [hwa]; exact heap_new_at rfl
  go_wp2_with fail
  rw [← hwa]
  clear hwa
  refine (HCK.out wa hba).mono ?_
  clear HCK
  rintro e w1 ⟨rfl, hb1'⟩
  have hsz1 := hb1'.size
  have hbw1 := hba.trans (hb1'.mono hba.size)
  have j0 := (hb1'.block w.heap.size (by omega)).trans ka
  have r0 : w1.cell? ⟨w.heap.size, 0, none⟩ = some (.slice pa pl pcap) := by simp [World.cell?, j0]
  clear ka
  by_cases hc : (chk p).1 = 0
  · have hck := chk_zero hc
    have hg := good_of hck
    have hlen := hg.len
    have HG := hid hg
    have HLE2 : Hid (LE = if 0 ≤ bud ∧ bud ≤ 30 then (if (codesD p bud).isSome = true then 0 else 11) else 1) := by
      have h := HLE.out
      rw [if_neg (by simpa using hc)] at h
      exact h
    rw [hck]
    clear HLE hc hck hg
    by_cases hn0 : bud < 0
    · have hLE1 : LE = 1 := by rw [HLE2.out, if_neg (by omega)]
      subst hLE1
      clear HLE2
      go_wp2
      exact bodyPost_ret (v := .tuple #[.slice none 0 0, .int .i64 1]) (by simp [results, Tryz.results168, go_sem]) rfl ⟨hbw1, .inl ⟨by decide, rfl⟩⟩
    · have hn0' : decide (bud < 0) = false := by simpa using hn0
      by_cases hn3 : (30 : Int) < bud
      · have hLE1 : LE = 1 := by rw [HLE2.out, if_neg (by omega)]
        subst hLE1
        clear HLE2
        go_wp2
        exact bodyPost_ret (v := .tuple #[.slice none 0 0, .int .i64 1]) (by simp [results, Tryz.results168, go_sem]) rfl ⟨hbw1, .inl ⟨by decide, rfl⟩⟩
      · have hn3' : decide ((30 : Int) < bud) = false := by simpa using hn3
        have HLE3 : Hid (LE = if (codesD p bud).isSome = true then 0 else 11) := by
          have h := HLE2.out
          rw [if_pos (by omega)] at h
          exact h
        clear HLE2
        have ltp : w.heap.size < w1.heap.size := by omega
        obtain ⟨WB, hWB⟩ : ∃ v, v = w1.heap.size := ⟨_, rfl⟩
        obtain ⟨wc, hwc⟩ : ∃ v, v = w1.alloc (Obj.cells #[.slice pa pl pcap, .int .i64 bud, .int .i64 1000, .int .i64 0, .slice none 0 0, .slice none 0 0] 266) := ⟨_, rfl⟩
        have hbc : Below w.heap.size w wc := by rw [hwc]; exact hbw1.alloc (by omega) _
        have hsc : wc.heap.size = WB + 1 := by rw [hwc, hWB]; simp
        have kc : wc.heap[WB]? = some (.cells #[.slice pa pl pcap, .int .i64 bud, .int .i64 1000, .int .i64 0, .slice none 0 0, .slice none 0 0] 266 (0, 0)) := by rw [hwc, hWB]; exact heap_new_at rfl
        have HKC := hid kc
        have HWB := hid hWB
        have hwWB : w.heap.size < WB := by omega
        have hpl12 : pl ≤ 12 := by have := HPL.out; omega
        go_wp2
        rw [← hwc, ← HWB.out]
        clear hwc r0 j0 kc hWB hba hb1' hbw1
        go_loopw [10, 34] (fun lv i wr => ∃ (k : Nat) (cs : List CodeD) (room : Int) (css : List (List Value)) (first : Int) (pv tv : Value) (qa : Option Addr) (qcap : Nat), i = .int .i64 k ∧ k ≤ pl ∧ 0 ≤ room ∧ room ≤ 1000 ∧ cs.length = k ∧ css.length = k ∧ (∀ c ∈ css, c.length = 3) ∧ codesD p bud = layAll p bud (pl - k) k room cs ∧ Below w.heap.size w wr ∧ RdP w qa pl qcap p ∧
          wr.heap[WB]? = some (.cells #[.slice qa pl qcap, .int .i64 bud, .int .i64 room, .int .i64 first, pv, tv] 266 (0, 0)) ∧ wr.ownsRow (WB + 1) 220 3 lv k css.flatten ∧ (∀ (i : Nat) c x, cs[i]? = some c → css[i]? = some x → CodeIn WB lv.ownBlock wr x c)) (fun _ i _ => pl - (intOf i).toNat)
        case atStart => exact ⟨0, [], 1000, [], 0, _, _, pa, pcap, rfl, by omega, by decide, by decide, rfl, rfl, fun c h => by simp at h, by unfold codesD; rw [HPL.out]; rfl, hbc, HP.out, HKC.out, World.ownsRow_nil _ _ _ _, fun i c x h => by simp at h⟩
        case round =>
          clear HKC hbc hsc
          obtain ⟨k, cs, room, css, first, pv, tv, qa, qcap, rfl, hk, hr0, hr1, hcl, hxl, hx3, hcod, hbel, hrp, hbox, hown, hcin⟩ := hrel
          by_cases hkn : k < pl
          · have hkn' : (k : Int) < (pl : Int) := by omega
            have ew : IntKind.i64.wrap (1000 - room) = 1000 - room := by rw [IntKind.wrap_i64]; omega
            have ltWB : WB < wr.heap.size := (Array.getElem?_eq_some_iff.1 hbox).1
            have c2 : wr.cell? ⟨WB, 2, none⟩ = some (.int .i64 room) := by simp [World.cell?, hbox]
            have c3 : wr.cell? ⟨WB, 3, none⟩ = some (.int .i64 first) := by simp [World.cell?, hbox]
            have c4 : wr.cell? ⟨WB, 4, none⟩ = some pv := by simp [World.cell?, hbox]
            have c5 : wr.cell? ⟨WB, 5, none⟩ = some tv := by simp [World.cell?, hbox]
            have f3 : wr.frozen? ⟨WB, 3, none⟩ = false := by simp [World.frozen?, hbox]
            have f4 : wr.frozen? ⟨WB, 4, none⟩ = false := by simp [World.frozen?, hbox]
            have f5 : wr.frozen? ⟨WB, 5, none⟩ = false := by simp [World.frozen?, hbox]
            obtain ⟨K, hK⟩ : ∃ f : Nat → Option Obj, f = fun b => if b < wr.heap.size ∧ b ≠ WB then wr.heap[b]? else none := ⟨_, rfl⟩
            obtain ⟨wd, hwd⟩ : ∃ v, v = ((wr.setCell ⟨WB, 3, none⟩ (.int .i64 (1000 - room))).setCell ⟨WB, 4, none⟩ (.slice none 0 0)).setCell ⟨WB, 5, none⟩ (.slice none 0 0) := ⟨_, rfl⟩
            have kd : ∀ b, b ≠ WB → wd.heap[b]? = wr.heap[b]? := fun b hb => by
              rw [hwd]
              iterate 3 rw [heap_setCell_other _ _ _ _ (by show b ≠ WB; exact hb)]
            have kbx : wd.heap[WB]? = some (.cells #[.slice qa pl qcap, .int .i64 bud, .int .i64 room, .int .i64 (1000 - room), .slice none 0 0, .slice none 0 0] 266 (0, 0)) := by
              rw [hwd]
              rw [heap_setCell_same _ WB 5 _ _ _ (heap_setCell_same _ WB 4 _ _ _ (heap_setCell_same _ WB 3 _ _ _ hbox))]
              rfl
            have hbd : Below w.heap.size w wd := by rw [hwd]; exact ((hbel.setCell (p := ⟨WB, 3, none⟩) (by show w.heap.size ≤ WB; omega) _).setCell (p := ⟨WB, 4, none⟩) (by show w.heap.size ≤ WB; omega) _).setCell (p := ⟨WB, 5, none⟩) (by show w.heap.size ≤ WB; omega) _
            have hkw : KeptW K WB wd (.slice none 0 0) (.slice none 0 0) := fun b o h => by
              rw [hK] at h
              dsimp only at h
              split at h
              · next hb => exact ⟨(kd b hb.2).trans h, hb.2, by simp [Value.ownBlock], by simp [Value.ownBlock]⟩
              · cases h
            have HIN : Hid (WrAt K w p bud (1000 - room) WB wd ⟨room, [], []⟩) := ⟨qa, qcap, .slice none 0 0, .slice none 0 0, by rw [← HPL.out]; exact kbx, by rw [← HPL.out]; exact hrp, hbd, by omega, World.ownsRow_nil _ _ _ _, World.ownsRow_nil _ _ _ _, (fun b h => by cases h), hkw⟩
            have HCI := hid (instance_any p HG.out bud w (1000 - room) WB 12 K k [] wd ⟨room, [], []⟩ (by omega) (by have := freeN_le [] p.length; omega) (by have := HPL.out; omega) (by simp) ⟨by dsimp only; omega, by dsimp only [List.length_nil]; omega, by simp⟩ HIN.out)
            obtain ⟨t, ht⟩ : ∃ t, t = layI p bud 12 k [] ⟨room, [], []⟩ := ⟨_, rfl⟩
            have hbt : BndL 12 t := by rw [ht]; exact layI_bnd p bud 12 k [] _ ⟨by dsimp only; omega, by dsimp only [List.length_nil]; omega, by simp⟩
            have hcod2 : codesD p bud = if t.room < 0 then none else layAll p bud (pl - (k + 1)) (k + 1) t.room (cs ++ [⟨1000 - room, t.places, t.tree⟩]) := by
              rw [hcod, show pl - k = (pl - (k + 1)) + 1 by omega, ht]
              rfl
            rw [← ht] at HCI
            have HWD := hid hwd
            have HCOD := hid hcod2
            have HOWN := hid hown
            have HCIN := hid hcin
            have HKK := hid hK
            have HX := hid (⟨hcl, hxl, hx3⟩ : cs.length = k ∧ css.length = k ∧ ∀ c ∈ css, c.length = 3)
            have HKD := hid kd
            have hro := hbt.1
            have hsd : wd.heap.size = wr.heap.size := by rw [hwd]; simp
            have HSD := hid hsd
            have HBD := hid hbd
            have hup : t.room ≤ 1000 := by have := hbt.2.1; omega
            have htp : t.places.length ≤ 1012 := by have := hbt.2.1; omega
            have htt : t.tree.length ≤ 1012 := by have := hbt.2.2; omega
            clear hwd hcod hcod2 hown hcin hK hcl hxl hx3 kd kbx hbox hrp ht hsd hbd hbt HIN hkw
            go_wp2_with fail
            rw [← HWD.out]
            refine HCI.out.mono ?_
            clear HCI HWD c2 c3 c4 c5 f3 f4 f5
            rintro e w2 ⟨rfl, xa, xcap, plv, trv, hin⟩
            obtain ⟨s0, s1, s2, s3, s4, s5, sf⟩ := hin.cell
            have hb2w := hin.old
            have hkeep : ∀ b, b < wr.heap.size → b ≠ WB → w2.heap[b]? = wr.heap[b]? ∧ plv.ownBlock ≠ some b ∧ trv.ownBlock ≠ some b := fun b hb hne => by
              obtain ⟨o, ho⟩ : ∃ o, wr.heap[b]? = some o := ⟨_, Array.getElem?_eq_getElem hb⟩
              obtain ⟨h1, h2, h3⟩ := hin.kept b o (by rw [HKK.out]; dsimp only; rw [if_pos ⟨hb, hne⟩]; exact ho)
              exact ⟨h1.trans ho.symm, h3⟩
            by_cases htr : t.room < 0
            · have hco : codesD p bud = none := by rw [HCOD.out, if_pos htr]
              have hLE1 : LE = 11 := by rw [HLE3.out, hco]; rfl
              subst hLE1
              clear hco HCOD HLE3 hkeep hin
              go_wp2
              exact bodyPost_ret (v := .tuple #[.slice none 0 0, .int .i64 11]) (by simp [results, Tryz.results168, go_sem]) rfl ⟨hb2w, .inl ⟨by decide, rfl⟩⟩
            · have htr' : decide (t.room < 0) = false := by simpa using htr
              have hcod : codesD p bud = layAll p bud (pl - (k + 1)) (k + 1) t.room (cs ++ [⟨1000 - room, t.places, t.tree⟩]) := by rw [HCOD.out, if_neg htr]
              obtain ⟨ya, ycap, rfl⟩ : ∃ a c, plv = .slice a t.places.length c := by
                rcases hin.pls.2 with ⟨h1, h2⟩ | ⟨g, c, cur, h1, _⟩
                · exact ⟨none, 0, by rw [h1, h2]⟩
                · exact ⟨_, _, h1⟩
              obtain ⟨za, zcap, rfl⟩ : ∃ a c, trv = .slice a t.tree.length c := by
                rcases hin.trs.2 with ⟨h1, h2⟩ | ⟨g, c, cur, h1, _⟩
                · exact ⟨none, 0, by rw [h1, h2]⟩
                · exact ⟨_, _, h1⟩
              have hlv : ∀ b, u10.ownBlock = some b → b < wr.heap.size ∧ b ≠ WB := fun b hb => ⟨(HOWN.out.lt b hb).2, by have := (HOWN.out.lt b hb).1; omega⟩
              have how2 : w2.ownsRow (WB + 1) 220 3 u10 k css.flatten := owns_same HOWN.out (fun b hb => (hkeep b (hlv b hb).1 (hlv b hb).2).1)
              have hsz2 : wr.heap.size ≤ w2.heap.size := by
                refine Decidable.byContradiction fun h => ?_
                have hb : w2.heap.size < wr.heap.size := by omega
                have hw2 := hin.lt
                obtain ⟨o, ho⟩ : ∃ o, wr.heap[w2.heap.size]? = some o := ⟨_, Array.getElem?_eq_getElem hb⟩
                have := (hkeep w2.heap.size hb (by omega)).1
                rw [ho] at this
                have := (Array.getElem?_eq_some_iff.1 this).1
                omega
              have HIN := hid hin
              have HKEEP := hid hkeep
              have HCOD2 := hid hcod
              have HOW2 := hid how2
              have HLV := hid hlv
              obtain ⟨npl, hnpl⟩ : ∃ v, v = t.places.length := ⟨_, rfl⟩
              obtain ⟨ntr, hntr⟩ : ∃ v, v = t.tree.length := ⟨_, rfl⟩
              rw [← hnpl] at s4
              rw [← hntr] at s5
              have HNPL := hid hnpl
              have HNTR := hid hntr
              have ltw2 := hin.lt
              clear hnpl hntr hin hkeep hcod how2 hlv HCOD s0 s1 sf
              obtain ⟨i0, hi, hz0, hz1, hz2⟩ := info_parts Tryz.infoCode
              go_wp2_with (at_builtin; refine wpList_append_lies _ rfl (.tmp 48) (.tmp 51) 165 rfl (WB + 1) 220 i0 (.agg #[.int .i64 0, .slice none 0 0, .slice none 0 0]) 3 56 Tryz.underlying165 hi hz0 hz1 hz2 rfl (by decide) _ _ _ rfl (HOW2.out.alloc _) ⟨w2.heap.size, 0, none⟩ 1 1 [.int .i64 (1000 - room), .slice ya npl ycap, .slice za ntr zcap] rfl rfl (new3_at rfl _ _ _ _) (oneC _ _ _ _ _ _ _) (by decide) (by unfold maxLen; omega) (by omega) (by simp; omega) _ rfl ?_)
              intro g c w3 hown3 hgrow3 hat3 hlt3
              have hin := HIN.out
              have hgs := hgrow3.size
              have hLg : ∀ b, b < w2.heap.size → u10.ownBlock ≠ some b → w3.heap[b]? = w2.heap[b]? ∧ (some g : Option Nat) ≠ some b := fun b hb hne => by
                refine ⟨(hgrow3.block b (by simp; omega) (fun e => hne e.symm)).trans (heap_alloc_old _ _ hb), fun e => ?_⟩
                cases e
                rcases hat3 with h | h
                · exact hne h
                · omega
              have hbw3 : Below w.heap.size w w3 := (hb2w.alloc hb2w.size _).grown hgrow3 (by simp; have := hb2w.size; omega) (fun b hb => by have := (HOWN.out.lt b hb).1; omega)
              have hbox3 : w3.heap[WB]? = some (.cells #[.slice xa pl xcap, .int .i64 bud, .int .i64 t.room, .int .i64 (1000 - room), .slice ya npl ycap, .slice za ntr zcap] 266 (0, 0)) := by
                refine (hLg WB ltw2 (fun e => (HLV.out WB e).2 rfl)).1.trans ?_
                rw [HPL.out, HNPL.out, HNTR.out]
                exact hin.box
              have hpr : RdP w xa pl xcap p := by rw [HPL.out]; exact hin.prog
              have hnpl2 := HNPL.out
              have hntr2 := HNTR.out
              have hcl' : (cs ++ [(⟨1000 - room, t.places, t.tree⟩ : CodeD)]).length = k + 1 := by rw [List.length_append, HX.out.1]; rfl
              have hxl' : (css ++ [[Value.int .i64 (1000 - room), .slice ya npl ycap, .slice za ntr zcap]]).length = k + 1 := by rw [List.length_append, HX.out.2.1]; rfl
              have hx3' : ∀ x ∈ css ++ [[Value.int .i64 (1000 - room), .slice ya npl ycap, .slice za ntr zcap]], x.length = 3 := fun x hx => by
                rcases List.mem_append.1 hx with h | h
                · exact HX.out.2.2 x h
                · rw [List.mem_singleton.1 h]; rfl
              have hfl : (css ++ [[Value.int .i64 (1000 - room), .slice ya npl ycap, .slice za ntr zcap]]).flatten = css.flatten ++ [Value.int .i64 (1000 - room), .slice ya npl ycap, .slice za ntr zcap] := by simp
              have hcin' : ∀ (i : Nat) c' x, (cs ++ [(⟨1000 - room, t.places, t.tree⟩ : CodeD)])[i]? = some c' → (css ++ [[Value.int .i64 (1000 - room), .slice ya npl ycap, .slice za ntr zcap]])[i]? = some x → CodeIn WB (some g) w3 x c' := fun i c' x hi hx => by
                rcases getElem?_snoc hi with h1 | ⟨h1, h2⟩
                · rcases getElem?_snoc hx with h3 | ⟨h3, h4⟩
                  · refine (HCIN.out i c' x h1 h3).same (fun b hb1 hb2 hne => ?_)
                    obtain ⟨q1, q2⟩ := hLg b (by omega) hne
                    exact ⟨q1.trans (HKEEP.out b hb2 (by omega)).1, q2⟩
                  · have := (List.getElem?_eq_some_iff.1 h1).1
                    have := HX.out.1
                    have := HX.out.2.1
                    omega
                · rcases getElem?_snoc hx with h3 | ⟨h3, h4⟩
                  · have := (List.getElem?_eq_some_iff.1 h3).1
                    have := HX.out.1
                    have := HX.out.2.1
                    omega
                  · subst h2 h4
                    have hp1 : ∀ b, (Value.slice ya t.places.length ycap).ownBlock = some b → b < w2.heap.size ∧ u10.ownBlock ≠ some b := fun b hb => ⟨(hin.pls.lt b hb).2, fun e => (HKEEP.out b (HLV.out b e).1 (HLV.out b e).2).2.1 hb⟩
                    have hp2 : ∀ b, (Value.slice za t.tree.length zcap).ownBlock = some b → b < w2.heap.size ∧ u10.ownBlock ≠ some b := fun b hb => ⟨(hin.trs.lt b hb).2, fun e => (HKEEP.out b (HLV.out b e).1 (HLV.out b e).2).2.2 hb⟩
                    refine ⟨.slice ya t.places.length ycap, .slice za t.tree.length zcap, by rw [← hnpl2, ← hntr2], owns_same hin.pls (fun b hb => (hLg b (hp1 b hb).1 (hp1 b hb).2).1), owns_same hin.trs (fun b hb => (hLg b (hp2 b hb).1 (hp2 b hb).2).1), fun b hb => (hLg b (hp1 b hb).1 (hp1 b hb).2).2, fun b hb => (hLg b (hp2 b hb).1 (hp2 b hb).2).2⟩
              rw [← hfl] at hown3
              have HREL := hid (⟨hcl', hxl', hx3', HCOD2.out, hbw3, hpr, hbox3, hown3, hcin'⟩ : _ ∧ _ ∧ _ ∧ _ ∧ _ ∧ _ ∧ _ ∧ _ ∧ _)
              clear hin hgs hLg hbw3 hbox3 hpr hnpl2 hntr2 hcl' hxl' hx3' hfl hcin' hown3 hgrow3 hat3 hlt3 HIN HKEEP HCOD2 HOW2 HLV HOWN HCIN HKK HX HKD s2 s3 s4 s5
              go_wp2
              go_roundw
              case rel =>
                obtain ⟨x1, x2, x3, x4, x5, x6, x7, x8, x9⟩ := HREL.out
                exact ⟨k + 1, _, t.room, _, _, _, _, xa, xcap, by go_num, by omega, by omega, hup, x1, x2, x3, x4, x5, x6, x7, x8, x9⟩
              case measure => simp [intOf]; omega
          · have hke : k = pl := by omega
            subst hke
            have hkn' : decide ((k : Int) < (k : Int)) = false := by simp
            have hco : codesD p bud = some cs := by rw [hcod, Nat.sub_self]; rfl
            have hLE1 : LE = 0 := by rw [HLE3.out, hco]; rfl
            subst hLE1
            obtain ⟨va, vcap, rfl, hvc, hvm⟩ : ∃ va vcap, u10 = .slice va k vcap ∧ k ≤ vcap ∧ vcap ≤ maxLen := by
              rcases hown.2 with ⟨h1, h2⟩ | ⟨g, c', cur, h1, _, _, h3, h4, _⟩
              · exact ⟨none, 0, by rw [h1, h2], by omega, by unfold maxLen; omega⟩
              · exact ⟨_, c', h1, h3, h4⟩
            have hrd : RdCFrom w.heap.size wr va cs.length vcap cs := fun W hW => by
              refine ⟨rfl, by omega, hvm, fun i c hi => ?_⟩
              have hil := (List.getElem?_eq_some_iff.1 hi).1
              obtain ⟨x, hx⟩ : ∃ x, css[i]? = some x := ⟨_, List.getElem?_eq_getElem (by omega)⟩
              have hcd := hcin i c x hi hx
              have hx3i := hx3 x (List.mem_of_getElem? hx)
              rcases hown.2 with ⟨h1, h2⟩ | ⟨g, c', cur, h1, h2, h3, _⟩
              · omega
              · simp only [Value.slice.injEq] at h1
                obtain ⟨rfl, -, rfl⟩ := h1
                refine ⟨g, 0, x, rfl, hx3i, fun j v hv => ?_, hcd.rd (fun b hb hb2 => hW b (by omega) hb2)⟩
                have hj : j < 3 := by have := (List.getElem?_eq_some_iff.1 hv).1; omega
                have hcell := hown.cellAt (i * 3 + j) (by omega)
                rw [flatten_get 3 css i j hx3 (by omega) hj] at hcell
                have hgd : css.getD i [] = x := by simp [List.getD, hx]
                rw [hgd, hv] at hcell
                rw [Nat.zero_add]
                exact (World.cell?_of_block (hW g (by omega) (Array.getElem?_eq_some_iff.1 h3).1)).trans hcell
            have HRD := hid hrd
            have HCO := hid hco
            have HCL := hid hcl
            clear hrd hco hcl hcin hown hbox hcod HLE3
            go_wp2
            exact bodyPost_ret (v := .tuple #[.slice va k vcap, .int .i64 0]) (by simp [results, Tryz.results168, go_sem]) rfl ⟨hbel, cs, HCO.out, va, vcap, by rw [HCL.out], HRD.out⟩
  · have hLE1 : LE = (chk p).1 := by rw [HLE.out, if_pos hc]
    rw [← hLE1] at hc ⊢
    have hc' : (LE != 0) = true := by simpa using hc
    clear HLE hLE1
    go_wp2
    exact bodyPost_ret (v := .tuple #[.slice none 0 0, .int .i64 LE]) (by simp [results, Tryz.results168, go_sem]) rfl ⟨hbw1, .inl ⟨hc, rfl⟩⟩
end Go.Proofs.YtffnfjkjlmlonaaGreatDoor
namespace Go.Proofs.YtffnfjkjlmlonaaGreatDoor
open Go.RowKit

theorem arr_get (x y : Value) (L : List Value) (k : Nat) : (x :: y :: L).toArray[2 + k]? = L[k]? := by
  rw [List.getElem?_toArray, Nat.add_comm 2 k]
  simp

set_option maxHeartbeats 4000000 in
set_option maxRecDepth 100000 in
theorem result_set (x : LiveD) (oa ol ob od : Int) (aa : Option Addr) (na acap : Nat) (w : World) (hl : x.locals.length ≤ 8) :
    Calls Tryz.prog 221 #[.agg (frmCells x).toArray, .agg #[.int .i64 0, .int .i64 ol, .int .i64 oa, .int .i64 ob, .int .i64 od, .slice aa na acap]] w fun e w' => e = .returned (.tuple #[.int .i64 ob, .bool true]) ∧ Below w.heap.size w w' := by
  obtain ⟨fn, nx, l⟩ := x
  simp only at hl
  have hpl := pad8_len hl
  unfold frmCells
  simp only
  generalize pad8 l = q at *
  obtain ⟨a, b, c, d, e, f, g, i, rfl⟩ := eight hpl
  clear hpl hl
  go_enter Tryz.func221, Tryz.ntmps221
  go_wp2
  refine bodyPost_ret ?h rfl ⟨rfl, ?b⟩
  case h => simp [results, Tryz.results221, go_sem]
  case b => exact ((Below.refl _ _).alloc (Nat.le_refl _) _).alloc (by simp) _

set_option maxHeartbeats 4000000 in
set_option maxRecDepth 100000 in
theorem result_num (x : LiveD) (oc oa ol : Int) (bN dN : Nat) (aa : Option Addr) (na acap : Nat) (w : World) (hl : x.locals.length ≤ 8) (hb : bN < x.locals.length) (hd : dN < x.locals.length) (hv : ∀ v ∈ x.locals, 0 ≤ v ∧ v < 1000) (hoc : oc = 1 ∨ oc = 2 ∨ oc = 3) :
    Calls Tryz.prog 221 #[.agg (frmCells x).toArray, .agg #[.int .i64 oc, .int .i64 ol, .int .i64 oa, .int .i64 bN, .int .i64 dN, .slice aa na acap]] w fun e w' =>
      e = .returned (.tuple #[.int .i64 (if oc = 3 ∧ locOf x dN = 0 then 0 else cnt oc (locOf x bN) (locOf x dN)), .bool (!decide (oc = 3 ∧ locOf x dN = 0))]) ∧ Below w.heap.size w w' := by
  have e1 : (pad8 x.locals)[bN]? = some (locOf x bN) := by
    unfold pad8 locOf
    rw [List.getElem?_append_left hb, List.getElem?_eq_getElem hb]; simp [hb]
  have e2 : (pad8 x.locals)[dN]? = some (locOf x dN) := by
    unfold pad8 locOf
    rw [List.getElem?_append_left hd, List.getElem?_eq_getElem hd]; simp [hd]
  have r1 : 0 ≤ locOf x bN ∧ locOf x bN < 1000 := hv _ (by unfold locOf; rw [Int.toNat_natCast, List.getElem?_eq_getElem hb]; exact List.getElem_mem _)
  have r2 : 0 ≤ locOf x dN ∧ locOf x dN < 1000 := hv _ (by unfold locOf; rw [Int.toNat_natCast, List.getElem?_eq_getElem hd]; exact List.getElem_mem _)
  have hpl := pad8_len hl
  generalize locOf x bN = vb at *
  generalize locOf x dN = vd at *
  obtain ⟨fn, nx, l⟩ := x
  simp only at *
  unfold frmCells
  simp only
  generalize pad8 l = q at *
  obtain ⟨a, b, c, d, e, f, g, i, rfl⟩ := eight hpl
  have hb8 : bN < 8 := by omega
  have hd8 : dN < 8 := by omega
  clear hpl hl hb hd hv
  obtain ⟨r11, r12⟩ := r1
  obtain ⟨r21, r22⟩ := r2
  have g1 : (#[Value.int .i64 fn, .int .i64 nx, .int .i64 a, .int .i64 b, .int .i64 c, .int .i64 d, .int .i64 e, .int .i64 f, .int .i64 g, .int .i64 i] : Array Value)[2 + bN]? = some (.int .i64 vb) := by
    have h := arr_get (.int .i64 fn) (.int .i64 nx) ([a, b, c, d, e, f, g, i].map (Value.int .i64)) bN
    rw [List.getElem?_map, e1] at h
    exact h
  have g2 : (#[Value.int .i64 fn, .int .i64 nx, .int .i64 a, .int .i64 b, .int .i64 c, .int .i64 d, .int .i64 e, .int .i64 f, .int .i64 g, .int .i64 i] : Array Value)[2 + dN]? = some (.int .i64 vd) := by
    have h := arr_get (.int .i64 fn) (.int .i64 nx) ([a, b, c, d, e, f, g, i].map (Value.int .i64)) dN
    rw [List.getElem?_map, e2] at h
    exact h
  clear e1 e2
  have hb8' : (bN : Int) < 8 := by omega
  have hd8' : (dN : Int) < 8 := by omega
  rcases hoc with rfl | rfl | rfl
  · have hc : cnt 1 vb vd = (vb + vd) % 1000 := by unfold cnt; rw [if_neg (by decide), if_neg (by decide)]
    rw [hc]
    go_enter Tryz.func221, Tryz.ntmps221
    go_wp2
    refine bodyPost_ret ?h rfl ⟨rfl, ?b⟩
    case h => simp [results, Tryz.results221, go_sem]
    case b => exact ((Below.refl _ _).alloc (Nat.le_refl _) _).alloc (by simp) _
  · have hc : cnt 2 vb vd = (vb - vd + 1000) % 1000 := by unfold cnt; rw [if_neg (by decide), if_pos rfl]; omega
    rw [hc]
    go_enter Tryz.func221, Tryz.ntmps221
    go_wp2
    refine bodyPost_ret ?h rfl ⟨rfl, ?b⟩
    case h => simp [results, Tryz.results221, go_sem]
    case b => exact ((Below.refl _ _).alloc (Nat.le_refl _) _).alloc (by simp) _
  · by_cases hv0 : vd = 0
    · subst hv0
      go_enter Tryz.func221, Tryz.ntmps221
      go_wp2
      refine bodyPost_ret ?h rfl ⟨rfl, ?b⟩
      case h => simp [results, Tryz.results221, go_sem]
      case b => exact ((Below.refl _ _).alloc (Nat.le_refl _) _).alloc (by simp) _
    · have hc : cnt 3 vb vd = vb / vd := by unfold cnt; rw [if_pos rfl]
      rw [if_neg (fun h => hv0 h.2), decide_eq_false (fun h => hv0 h.2), hc]
      have hv0' : (vd == 0) = false := by simpa using hv0
      go_enter Tryz.func221, Tryz.ntmps221
      go_wp2
      refine bodyPost_ret ?h rfl ⟨rfl, ?b⟩
      case h => simp [results, Tryz.results221, go_sem]
      case b => exact ((Below.refl _ _).alloc (Nat.le_refl _) _).alloc (by simp) _
end Go.Proofs.YtffnfjkjlmlonaaGreatDoor
