/- Contract of unfoldref.left: a Ret. -/
import Derived.Test.YtffnfjkjlmlonaaGreatDoorZ8
import Derived.Deep.AppendLies
import Derived.Deep.RegionLaw
import Derived.Deep.RegionHeld
namespace Go.Proofs.YtffnfjkjlmlonaaGreatDoor
open Go.RowKit

set_option maxHeartbeats 4000000 in
set_option maxRecDepth 100000 in
theorem left_any (U : Nat → Prop) (pa : Option Addr) (pcap : Nat) (p : List FnD) (sa : Option Addr) (scap : Nat) (ini : List LiveD) (x : LiveD) (v : Int) (w : World)
    (hg : Good p) (hp : RdP w pa p.length pcap p) (hs : RdL 3 (RdLiveU U) w sa (ini ++ [x]).length scap (ini ++ [x])) (hsU : InU U sa (ini ++ [x]).length) (hlen : ini.length + 1 ≤ 20) (hw : ∀ y ∈ ini, WfLive p y ∧ (opOf p y).code = 5) :
    Calls Tryz.prog 174 #[.agg #[.slice pa p.length pcap], .agg #[.int .i64 0, .int .i64 0, .slice sa (ini ++ [x]).length scap], .int .i64 v] w fun e w' =>
      ∃ cs, e = .returned (.agg cs.toArray) ∧ RdStandU (OrNew U w.heap.size) w' cs (match ini.getLast? with | none => ⟨1, v, []⟩ | some c => ⟨0, 0, ini.dropLast ++ [setL c (opOf p c).a v (c.next + 1)]⟩) ∧ Below w.heap.size w w' := by
  cases hlast : ini.getLast? with
  | none =>
    have hi0 : ini = [] := List.getLast?_eq_none_iff.1 hlast
    subst hi0
    clear hs hsU hp hg
    show Calls _ _ #[_, .agg #[.int .i64 0, .int .i64 0, .slice sa 1 scap], _] _ _
    go_enter Tryz.func174, Tryz.ntmps174
    generalize p.length = pl
    go_wp2
    refine bodyPost_ret (v := .agg #[.int .i64 1, .int .i64 v, .slice none 0 0]) (by simp [results, Tryz.results174, go_sem]) rfl ⟨[.int .i64 1, .int .i64 v, .slice none 0 0], rfl, ⟨none, 0, rfl, ⟨rfl, Nat.le_refl _, by unfold maxLen; omega, fun i x hx => by simp at hx⟩, fun h => by simp at h⟩, ?_⟩
    exact (((Below.refl _ _).alloc (Nat.le_refl _) _).alloc (by simp) _).alloc (by simp; omega) _
  | some c =>
    replace hs := rdL_old hs hsU
    clear hsU
    obtain ⟨hs, hsU⟩ := hs
    have e0 := dropLast_getLast hlast
    obtain ⟨rest, hrest⟩ : ∃ r, r = ini.dropLast := ⟨_, rfl⟩
    rw [← hrest] at e0 ⊢
    have hci : c ∈ ini := List.mem_of_getLast? hlast
    obtain ⟨hwc, hc5⟩ := hw c hci
    subst e0
    clear hrest hlast hw
    have hl2 : ((rest ++ [c]) ++ [x]).length = rest.length + 2 := by simp
    rw [hl2] at hs hsU ⊢
    have hl3 : rest.length + 2 ≤ 20 := by simp at hlen; omega
    obtain ⟨m, hm⟩ : ∃ m, m = rest.length := ⟨_, rfl⟩
    rw [← hm] at hs hsU hl3 ⊢
    have hcx : ((rest ++ [c]) ++ [x])[m]? = some c := by simp [hm]
    obtain ⟨b, off, cs, e1, _, hcells, hlive⟩ := hs.2.2.2 m c hcx
    have hliveC := hlive
    obtain ⟨la, lcap, rfl, hrdc, hrdU⟩ := hlive
    have hok := hwc.opOk hg
    have hfk := hwc.fnOk hg
    have hfl := hfk.locals
    have hloc := hwc.locals
    have hlt := hok.last (by omega)
    have hcn := hwc.next
    have hcf := hwc.fn
    have ha := hok.a
    have hplen := hg.len
    obtain ⟨pb, poff, ba, bcap, rfl, -, -, -, -, -, c4, hrb, -, -⟩ := hp.at c.fn.toNat _ (fnOf_some hwc)
    obtain ⟨qb, qoff, _, _, rfl, -, -, -, q2, -, -, -, -⟩ := hrb.opAt c.next.toNat _ (opOf_some hwc)
    have hbl1 := hrb.2.1
    have hbl2 := hrb.2.2.1
    have hpc1 := hp.2.1
    have hpc2 := hp.2.2.1
    have hsc1 := hs.2.1
    have hsc2 := hs.2.2.1
    unfold maxLen at hbl2 hpc2 hsc2
    have HUN := hid (fun (W : World) (hW : Below w.heap.size w W) => under_any (RdLiveU (Old U w)) sa scap ((rest ++ [c]) ++ [x]) 2 W RdLiveU.shape (by rw [hl2, ← hm]; exact hs.below hW (fun _ _ h => h.below hW)) (by omega) (by omega))
    have HBU := hid (fun (W : World) (hW : Below w.heap.size w W) (nx : Int) => but_any c la lcap (opOf p c).a.toNat v nx W (hrdc.below hW (Nat.le_refl _)) (by omega) (by omega))
    have HP := hid hp
    have hcell : ∀ j u, [Value.int .i64 c.fn, .int .i64 c.next, .slice la c.locals.length lcap][j]? = some u → w.cell? ⟨b, off + m * 3 + j, none⟩ = some u := hcells
    have c0 : w.cell? ⟨b, off + m * 3, none⟩ = _ := hcell 0 _ rfl
    have c1 := hcell 1 _ rfl
    have c2 := hcell 2 _ rfl
    subst e1
    clear hcells hcell hg hp hs hok hfk hrb
    obtain ⟨fN, hfN⟩ : ∃ n : Nat, c.fn = n := ⟨c.fn.toNat, by omega⟩
    obtain ⟨sN, hsN⟩ : ∃ n : Nat, c.next = n := ⟨c.next.toNat, by omega⟩
    obtain ⟨aN, haN⟩ : ∃ n : Nat, (opOf p c).a = n := ⟨(opOf p c).a.toNat, by omega⟩
    have HSET : Hid (setL c (opOf p c).a v (c.next + 1) = ⟨fN, sN + 1, c.locals.set aN v⟩) := by
      show (⟨c.fn, c.next + 1, c.locals.set (opOf p c).a.toNat v⟩ : LiveD) = _
      rw [hfN, hsN, haN]; simp
    have hfp : fN < p.length := by omega
    have hsb : sN < (fnOf p c).body.length := by omega
    rw [hfN, hsN, haN] at HBU
    rw [hfN] at c0 c4
    rw [hsN] at c1 q2
    rw [haN] at q2
    simp only [Int.toNat_natCast] at c4 q2 HBU
    generalize c.locals.length = cl at *
    generalize (fnOf p c).body.length = bl at *
    obtain ⟨pl, hpl⟩ : ∃ v, v = p.length := ⟨_, rfl⟩
    rw [← hpl] at HP hpc1 hfp ⊢
    clear hpl
    have HL2 := hid hl2
    rw [← hm] at HL2
    have HNL := hid hm
    clear hl2 hm hfN hsN haN hcf hcn ha hlt hloc hplen hc5 hfl hlen hcx
    obtain ⟨wb, hwb⟩ : ∃ wb, wb = ((w.alloc (Obj.cells #[.slice (some ⟨pb, poff, none⟩) pl pcap] 44)).alloc (Obj.cells #[.int .i64 0, .int .i64 0, .slice (some ⟨b, off, none⟩) (m + 2) scap] 95)).alloc (Obj.cells #[.int .i64 0, .int .i64 0, .slice none 0 0] 95) := ⟨_, rfl⟩
    have hbb : Below w.heap.size w wb := by rw [hwb]; exact (((Below.refl _ _).alloc (Nat.le_refl _) _).alloc (by simp) _).alloc (by simp; omega) _
    have hbs : wb.heap.size = w.heap.size + 3 := by rw [hwb]; simp
    have k0 : wb.heap[w.heap.size]? = some (.cells #[.slice (some ⟨pb, poff, none⟩) pl pcap] 44 (0, 0)) := by rw [hwb]; exact heap_at1 (by simp <;> omega) (heap_at1 (by simp <;> omega) (heap_new_at (by simp)))
    have k1 : wb.heap[w.heap.size + 1]? = some (.cells #[.int .i64 0, .int .i64 0, .slice (some ⟨b, off, none⟩) (m + 2) scap] 95 (0, 0)) := by rw [hwb]; exact heap_at1 (by simp <;> omega) (heap_new_at (by simp))
    have k2 : wb.heap[w.heap.size + 1 + 1]? = some (.cells #[.int .i64 0, .int .i64 0, .slice none 0 0] 95 (0, 0)) := by rw [hwb]; exact heap_new_at (by simp)
    have HUW := hid (HUN.out wb hbb)
    rw [HL2.out] at HUW
    have h2i : (((2 : Nat) : Int)) = 2 := rfl
    rw [h2i] at HUW
    have hm2 : ((m + 2 : Nat) : Int) = (m : Int) + 2 := by omega
    have hne1 : (((m : Int) + 2) == 1) = false := by simp; omega
    have hbwt := Below.size hbb
    clear HUN HL2 h2i
    go_enter Tryz.func174, Tryz.ntmps174
    go_wp2_with fail
    rw [← hwb]
    clear hwb
    refine HUW.out.mono ?_
    rintro e w2 ⟨v4, css, rfl, hown4, hcl, hc3, hcR, hb2⟩
    have hsz2 := hb2.size
    have d0 := (hb2.block w.heap.size (by omega)).trans k0
    have d1 := (hb2.block (w.heap.size + 1) (by omega)).trans k1
    have d2 := (hb2.block (w.heap.size + 1 + 1) (by omega)).trans k2
    have hbw2 := hbb.trans (hb2.mono hbb.size)
    have up : ∀ (q : Addr) (u : Value), w.cell? q = some u → w2.cell? q = some u := fun q u h => (hbw2.cell (World.block_lt_of_cell? w _ h)).trans h
    have c0' := up _ _ c0
    have c1' := up _ _ c1
    have c2' := up _ _ c2
    have r0 : w2.cell? ⟨w.heap.size, 0, none⟩ = some (.slice (some ⟨pb, poff, none⟩) pl pcap) := by simp [World.cell?, d0]
    have r1 : w2.cell? ⟨w.heap.size + 1, 2, none⟩ = some (.slice (some ⟨b, off, none⟩) (m + 2) scap) := by simp [World.cell?, d1]
    obtain ⟨w3, hw3⟩ : ∃ w3, w3 = w2.alloc (Obj.cells #[.int .i64 fN, .int .i64 sN, .slice la cl lcap] 172) := ⟨_, rfl⟩
    have hb3 : Below w2.heap.size w2 w3 := by rw [hw3]; exact (Below.refl _ _).alloc (Nat.le_refl _) _
    have hs3 : w3.heap.size = w2.heap.size + 1 := by rw [hw3]; simp
    have hbw3 := hbw2.trans (hb3.mono hbw2.size)
    have m3 : w3.heap[w2.heap.size]? = some (.cells #[.int .i64 fN, .int .i64 sN, .slice la cl lcap] 172 (0, 0)) := by rw [hw3]; exact heap_alloc_new _ _
    have hm1 : ((m : Int) + 2 - 2) = (m : Int) := by omega
    have HC3 := hid hc3
    have HCL := hid hcl
    have HCR := hid hcR
    have HOW := hid hown4
    have hlt4 : ∀ k, v4.ownBlock = some k → wb.heap.size ≤ k := fun k hk => (hown4.lt k hk).1
    have HLT : Hid (∀ k, v4.ownBlock = some k → k < w2.heap.size) := fun k hk => (hown4.lt k hk).2
    have HD2 := hid d2
    clear hc3 hcl hcR hown4 d0 d1 d2 k0 k1 k2 HUW c0 c1 c2
    go_wp2
    rw [← hw3]
    have up3 : ∀ (q : Addr) (u : Value), w.cell? q = some u → w3.cell? q = some u := fun q u h => (hbw3.cell (World.block_lt_of_cell? w _ h)).trans h
    have s0 : w3.cell? ⟨w2.heap.size, 0, none⟩ = some (.int .i64 fN) := by simp [World.cell?, m3]
    have s1 : w3.cell? ⟨w2.heap.size, 1, none⟩ = some (.int .i64 sN) := by simp [World.cell?, m3]
    have s2 : w3.cell? ⟨w2.heap.size, 2, none⟩ = some (.slice la cl lcap) := by simp [World.cell?, m3]
    have s3 : w3.cell? ⟨w.heap.size, 0, none⟩ = some (.slice (some ⟨pb, poff, none⟩) pl pcap) := (hb3.cell (World.block_lt_of_cell? w2 _ r0)).trans r0
    have s4 := up3 _ _ c4
    have s5 := up3 _ _ q2
    have HU3 := hid (fun (W : World) (h : Below w3.heap.size w3 W) (q : Addr) (u : Value) (hc : w3.cell? q = some u) => (h.cell (World.block_lt_of_cell? w3 _ hc)).trans hc)
    have HB3 := hid (fun (W : World) (h : Below w3.heap.size w3 W) => hbw3.trans (h.mono hbw3.size))
    clear hw3 up3 up c0' c1' c2' r0 r1 q2 c4
    have KS := hid (fun (W : World) (h : Below w3.heap.size w3 W) => (⟨h, HU3.out W h _ _ s0, HU3.out W h _ _ s1, HU3.out W h _ _ s2, HU3.out W h _ _ s3, HU3.out W h _ _ s4, HU3.out W h _ _ s5⟩ : Below w3.heap.size w3 W ∧ W.cell? ⟨w2.heap.size, 0, none⟩ = some (.int .i64 fN) ∧ W.cell? ⟨w2.heap.size, 1, none⟩ = some (.int .i64 sN) ∧ W.cell? ⟨w2.heap.size, 2, none⟩ = some (.slice la cl lcap) ∧
      W.cell? ⟨w.heap.size, 0, none⟩ = some (.slice (some ⟨pb, poff, none⟩) pl pcap) ∧ W.cell? ⟨pb, poff + fN * 5 + 4, none⟩ = some (.slice (some ⟨qb, qoff, none⟩) bl bcap) ∧ W.cell? ⟨qb, qoff + sN * 6 + 2, none⟩ = some (.int .i64 aN)))
    clear s0 s1 s2 s3 s4 s5
    have hwrap : IntKind.i64.wrap ((sN : Int) + 1) = (sN : Int) + 1 := by rw [IntKind.wrap_i64]; omega
    have HS3 := hid hs3
    have HBS := hid hbs
    clear hs3 hbs
    apply cutB
    case k =>
      intro key
      go_region_held (fun W => Below w3.heap.size w3 W ∧ W.cell? ⟨w2.heap.size, 0, none⟩ = some (.int .i64 fN) ∧ W.cell? ⟨w2.heap.size, 1, none⟩ = some (.int .i64 sN) ∧ W.cell? ⟨w2.heap.size, 2, none⟩ = some (.slice la cl lcap) ∧
        W.cell? ⟨w.heap.size, 0, none⟩ = some (.slice (some ⟨pb, poff, none⟩) pl pcap) ∧ W.cell? ⟨pb, poff + fN * 5 + 4, none⟩ = some (.slice (some ⟨qb, qoff, none⟩) bl bcap) ∧ W.cell? ⟨qb, qoff + sN * 6 + 2, none⟩ = some (.int .i64 aN))
        ((refine KS.out _ ?_; first | exact (Below.refl _ _).drew | exact (‹Below w3.heap.size w3 _ ∧ _›.1).trans (hb4.mono (‹Below w3.heap.size w3 _ ∧ _›.1).size) | exact (((‹Below w3.heap.size w3 _ ∧ _›.1).setCell (by simp) _).setCell (by simp) _).setCell (by simp) _ | exact (‹Below w3.heap.size w3 _ ∧ _›.1).alloc (‹Below w3.heap.size w3 _ ∧ _›.1).size _ | exact ((Below.refl _ _).drew.trans hb4).alloc (by have := hb4.size; simpa using this) _))
        ((go_at_call 176; refine (HBU.out _ (HB3.out _ ?_) _).mono ?_; exact (‹Below w3.heap.size w3 _ ∧ _›.1); rintro e w4 ⟨cs4, rfl, hlive4, hnew4, hb4⟩; have hlv4 := liveU_new hlive4 hnew4; (try dsimp only at hlive4 hlv4); (try rw [hwrap] at hlive4 hlv4); obtain ⟨la4, lcap4, rfl, _⟩ := hlive4; first | (have hz : w4.heap[w3.heap.size]? = some (.cells #[.int .i64 0, .int .i64 0, .slice none 0 0] 172 (0, 0)) := (hb4.block w3.heap.size (lt_alloc_drew _ _)).trans (alloc_drew_new _ _ _); have z0 : w4.cell? ⟨w3.heap.size, 0, none⟩ = some (.int .i64 0) := (by simp [World.cell?, hz]); have z1 : w4.cell? ⟨w3.heap.size, 1, none⟩ = some (.int .i64 0) := (by simp [World.cell?, hz]); have z2 : w4.cell? ⟨w3.heap.size, 2, none⟩ = some (.slice none 0 0) := (by simp [World.cell?, hz]); have f0 : w4.frozen? ⟨w3.heap.size, 0, none⟩ = false := (by simp [World.frozen?, hz]); have f1 : w4.frozen? ⟨w3.heap.size, 1, none⟩ = false := (by simp [World.frozen?, hz]); have f2 : w4.frozen? ⟨w3.heap.size, 2, none⟩ = false := (by simp [World.frozen?, hz])) | skip))
      · obtain ⟨w5, hw5⟩ : ∃ w5, w5 = w4.alloc (Obj.cells #[.int .i64 fN, .int .i64 (sN + 1), .slice la4 c.locals.length lcap4] 172) := ⟨_, rfl⟩
        obtain ⟨yb, hyb⟩ : ∃ yb, yb = w4.heap.size := ⟨_, rfl⟩
        rw [List.length_set] at hlv4
        have y0 : w5.cell? ⟨yb, 0, none⟩ = some (.int .i64 fN) := by rw [hw5, hyb]; simp
        have y1 : w5.cell? ⟨yb, 1, none⟩ = some (.int .i64 (sN + 1)) := by rw [hw5, hyb]; simp
        have y2 : w5.cell? ⟨yb, 2, none⟩ = some (.slice la4 c.locals.length lcap4) := by rw [hw5, hyb]; simp
        have hb5 : Below w3.heap.size w3 w5 := by rw [hw5]; exact ((Below.refl _ _).drew.trans hb4).alloc hb4.size _
        have hlv5 : RdLiveU (fun b => w3.heap.size ≤ b) w5 [.int .i64 fN, .int .i64 (sN + 1), .slice la4 c.locals.length lcap4] ⟨fN, sN + 1, c.locals.set aN v⟩ := by rw [hw5]; exact hlv4.below ((Below.refl _ _).alloc (Nat.le_refl _) _)
        rw [← hw5, ← hyb]
        generalize la4 = la5 at y2 hlv5 ⊢
        generalize lcap4 = lcap5 at y2 hlv5 ⊢
        clear hw5 hyb
        revert y0 y1 y2 hb5 hlv5
        revert yb w5 la5 lcap5
        exact key.out
      · obtain ⟨w5, hw5⟩ : ∃ w5, w5 = ((w4.setCell ⟨w3.heap.size, 0, none⟩ (.int .i64 fN)).setCell ⟨w3.heap.size, 1, none⟩ (.int .i64 (sN + 1))).setCell ⟨w3.heap.size, 2, none⟩ (.slice la4 c.locals.length lcap4) := ⟨_, rfl⟩
        obtain ⟨yb, hyb⟩ : ∃ yb, yb = w3.heap.size := ⟨_, rfl⟩
        rw [List.length_set] at hlv4
        have hsa : (w3.alloc (Obj.cells #[.int .i64 0, .int .i64 0, .slice none 0 0] 172)).drew.heap.size = w3.heap.size + 1 := by
          show (w3.alloc _).heap.size = _
          simp
        have y0 : w5.cell? ⟨yb, 0, none⟩ = some (.int .i64 fN) := by rw [hw5, hyb]; simp [go_sem, z0]
        have y1 : w5.cell? ⟨yb, 1, none⟩ = some (.int .i64 (sN + 1)) := by rw [hw5, hyb]; simp [go_sem, z1]
        have y2 : w5.cell? ⟨yb, 2, none⟩ = some (.slice la4 c.locals.length lcap4) := by rw [hw5, hyb]; simp [go_sem, z2]
        have hb34 : Below w3.heap.size w3 w4 := (((Below.refl _ _).alloc (Nat.le_refl _) _).drew).trans (hb4.mono (by rw [hsa]; omega))
        have hb5 : Below w3.heap.size w3 w5 := by
          rw [hw5]
          exact ((hb34.setCell (p := ⟨w3.heap.size, 0, none⟩) (Nat.le_refl _) _).setCell (p := ⟨w3.heap.size, 1, none⟩) (Nat.le_refl _) _).setCell (p := ⟨w3.heap.size, 2, none⟩) (Nat.le_refl _) _
        have hlv5 : RdLiveU (fun b => w3.heap.size ≤ b) w5 [.int .i64 fN, .int .i64 (sN + 1), .slice la4 c.locals.length lcap4] ⟨fN, sN + 1, c.locals.set aN v⟩ := by
          rw [hw5]
          rw [hsa] at hlv4
          have hn : ∀ j : Nat, ¬ (w3.heap.size + 1 ≤ (⟨w3.heap.size, j, none⟩ : Addr).block) := fun j h => by
            have h' : w3.heap.size + 1 ≤ w3.heap.size := h
            omega
          exact ((hlv4.keeps (Keeps.setCell (hn 0) _) (fun _ h => h)).keeps (Keeps.setCell (hn 1) _) (fun _ h => h)).keeps (Keeps.setCell (hn 2) _) (fun b h => by
            have h' : w3.heap.size + 1 ≤ b := h
            show w3.heap.size ≤ b
            omega)
        rw [← hw5, ← hyb]
        generalize la4 = la5 at y2 hlv5 ⊢
        generalize lcap4 = lcap5 at y2 hlv5 ⊢
        clear hw5 hyb
        revert y0 y1 y2 hb5 hlv5
        revert yb w5 la5 lcap5
        exact key.out
    intro w5 yb la5 lcap5 y0 y1 hb5 y2 hlv5
    have hs3 := HS3.out
    have hbs := HBS.out
    have hsz5 := hb5.size
    have hb25 : Below w2.heap.size w2 w5 := hb3.trans (hb5.mono hb3.size)
    have hown5 := ownsRow_below HOW.out hb25
    have d5 := (hb25.block (w.heap.size + 1 + 1) (by omega)).trans HD2.out
    have HD5 := hid d5
    clear HOW d5
    obtain ⟨i0, hi, hz0, hz1, hz2⟩ := info_parts Tryz.infoLive
    have hmm : m + 2 - 2 = m := by omega
    rw [hmm] at hown5
    have HOW := hid hown5
    generalize hcll : c.locals.length = ll at *
    clear hown5 hmm HD2
    go_wp2_with (at_builtin; refine wpList_append_lies _ rfl (.tmp 45) (.tmp 47) 93 rfl wb.heap.size 172 i0 (.agg #[.int .i64 0, .int .i64 0, .slice none 0 0]) 3 40 Tryz.underlying93 hi hz0 hz1 hz2 rfl (by decide) _ _ _ rfl (HOW.out.alloc _) ⟨w5.heap.size, 0, none⟩ 1 1 [.int .i64 fN, .int .i64 (sN + 1), .slice la5 ll lcap5] rfl rfl ?d1 ?d2 (by decide) ?d3 ?d4 ?d5 _ rfl ?_)
    case d1 =>
      intro i u hu
      match i, hu with
      | 0, hu => simp at hu; subst hu; simp [Addr.add]
      | 1, hu => simp at hu; subst hu; simp [Addr.add]
      | 2, hu => simp at hu; subst hu; simp [Addr.add]
    case d2 => intro u hu; simp at hu; rcases hu with rfl | rfl | rfl <;> rfl
    case d3 => unfold maxLen; omega
    case d4 => omega
    case d5 => simp; omega
    intro g cap6 w6 hown6 hgrow6 _ hg6
    have hb56 : Below wb.heap.size w5 w6 := ((Below.refl _ _).alloc (by omega) _).grown hgrow6 (by simp; omega) hlt4
    have d6 := (hb56.block (w.heap.size + 1 + 1) (by omega)).trans HD5.out
    have x0 : w6.cell? ⟨w.heap.size + 1 + 1, 0, none⟩ = some (.int .i64 0) := by simp [World.cell?, d6]
    have x1 : w6.cell? ⟨w.heap.size + 1 + 1, 1, none⟩ = some (.int .i64 0) := by simp [World.cell?, d6]
    have x2 : w6.cell? ⟨w.heap.size + 1 + 1, 2, none⟩ = some (.slice none 0 0) := by simp [World.cell?, d6]
    have f0 : w6.frozen? ⟨w.heap.size + 1 + 1, 0, none⟩ = false := by simp [World.frozen?, d6]
    have f1 : w6.frozen? ⟨w.heap.size + 1 + 1, 1, none⟩ = false := by simp [World.frozen?, d6]
    have f2 : w6.frozen? ⟨w.heap.size + 1 + 1, 2, none⟩ = false := by simp [World.frozen?, d6]
    have hbw6 : Below w.heap.size w w6 := (HB3.out w5 hb5).trans (hb56.mono (by omega))
    have hb6 : Below w3.heap.size w3 w5 := hb5
    have hbb6 : Below wb.heap.size wb w6 := hb2.trans ((hb25.mono (by omega)).trans hb56)
    have hst := stand_snoc (V := OrNew (Old U w) (w.heap.size + 3)) (ls := rest) (y := ⟨fN, sN + 1, c.locals.set aN v⟩) 0 0 hown6 HC3.out (by have := HCL.out; simp at this; have h2 := HNL.out; omega) HNL.out.symm
      (fun i z cs h1 h2 => ((HCR.out i z cs (by rw [List.append_assoc, List.getElem?_append_left (List.getElem?_eq_some_iff.1 h1).1]; exact h1) h2).below hbb6).keeps (Keeps.below (Below.refl _ _)) (fun _ h => .inl h))
      ((hlv5.keeps (fun b hb hlt => by
        have hb' : w3.heap.size ≤ b := hb
        refine hgrow6.block b (by simp; omega) ?_ |>.trans (heap_alloc_old _ _ hlt)
        intro e
        have := HOW.out.lt b e.symm
        have h5 := HLT.out b e.symm
        omega) (V := OrNew (Old U w) (w.heap.size + 3)) (fun b hb => .inr (by have hb' : w3.heap.size ≤ b := hb; omega)))) (fun b hb => .inr (by omega))
    have hnb : ∀ j : Nat, ¬ OrNew (Old U w) (w.heap.size + 3) (⟨w.heap.size + 1 + 1, j, none⟩ : Addr).block := fun j h => by
      rcases h with h | h
      · have h' : w.heap.size + 1 + 1 < w.heap.size := h.2
        omega
      · have h' : w.heap.size + 3 ≤ w.heap.size + 1 + 1 := h
        omega
    have hst3 := ((hst.keeps (Keeps.setCell (hnb 0) (.int .i64 0)) (fun _ h => h)).keeps (Keeps.setCell (hnb 1) (.int .i64 0)) (fun _ h => h)).keeps (Keeps.setCell (hnb 2) (.slice (some ⟨g, 0, none⟩) (m + 1) cap6)) (V := OrNew U w.heap.size) (fun b h => by
      rcases h with h | h
      · exact .inl h.1
      · exact .inr (by omega))
    have hbe := ((hbw6.setCell (p := ⟨w.heap.size + 1 + 1, 0, none⟩) (by show w.heap.size ≤ w.heap.size + 1 + 1; omega) (.int .i64 0)).setCell (p := ⟨w.heap.size + 1 + 1, 1, none⟩) (by show w.heap.size ≤ w.heap.size + 1 + 1; omega) (.int .i64 0)).setCell (p := ⟨w.heap.size + 1 + 1, 2, none⟩) (by show w.heap.size ≤ w.heap.size + 1 + 1; omega) (.slice (some ⟨g, 0, none⟩) (m + 1) cap6)
    rw [← HSET.out] at hst3
    have HST := hid hst3
    have HBE := hid hbe
    clear hst hst3 hbe HSET hown6 hgrow6
    go_wp2
    refine bodyPost_ret (v := .agg #[.int .i64 0, .int .i64 0, .slice (some ⟨g, 0, none⟩) (m + 1) cap6]) (by simp [results, Tryz.results174, go_sem, x0, x1, x2]) rfl ⟨[.int .i64 0, .int .i64 0, .slice (some ⟨g, 0, none⟩) (m + 1) cap6], rfl, HST.out, HBE.out⟩
end Go.Proofs.YtffnfjkjlmlonaaGreatDoor
