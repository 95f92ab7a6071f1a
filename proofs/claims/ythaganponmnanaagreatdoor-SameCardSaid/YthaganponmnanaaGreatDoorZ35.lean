/- The pcs of a run, as plain data; bounds of codes; nothing is claimed of the program here. Contracts of the developers' (*run.Run).Spots and machine.reversed. Contract of the developers' code.entryOf: what the image tells of a function's code. -/
import Derived.Test.YthaganponmnanaaGreatDoorZ34
import Derived.Test.YthaganponmnanaaGreatDoorZ19
namespace Go.Proofs.YthaganponmnanaaGreatDoor
open Go.RowKit

def CodeBd (c : CodeD) : Prop := (0 ≤ c.first ∧ c.first ≤ 1000) ∧ c.places.length ≤ 1000 ∧ c.tree.length ≤ 1000
theorem layAll_bd (p : List FnD) (bud : Int) : ∀ (n fn : Nat) (room : Int) (l cs : List CodeD), 0 ≤ room → room ≤ 1000 → layAll p bud n fn room l = some cs → (∀ c ∈ l, CodeBd c) → (∀ c ∈ cs, CodeBd c) ∧ cs.length = l.length + n
  | 0, _, _, l, cs, _, _, h, hl => by
    obtain rfl : l = cs := Option.some.inj h
    exact ⟨hl, rfl⟩
  | n + 1, fn, room, l, cs, h0, h1, h, hl => by
    unfold layAll at h
    split at h
    · cases h
    · next hr =>
      have hb := layI_bnd p bud 12 fn [] ⟨room, [], []⟩ ⟨by dsimp only; omega, by dsimp only [List.length_nil]; omega, by simp⟩
      obtain ⟨b1, b2, b3⟩ := hb
      have ih := layAll_bd p bud n (fn + 1) _ _ cs (by omega) (by omega) h (fun c hc => by
        rcases List.mem_append.1 hc with g | g
        · exact hl c g
        · rw [List.mem_singleton.1 g]
          exact ⟨by dsimp only; omega, by dsimp only; omega, by dsimp only; omega⟩)
      refine ⟨ih.1, ?_⟩
      rw [ih.2, List.length_append]
      simp
      omega
theorem codesD_bd {p : List FnD} {bud : Int} {cs : List CodeD} (h : codesD p bud = some cs) : (∀ c ∈ cs, CodeBd c) ∧ cs.length = p.length := by
  have := layAll_bd p bud p.length 0 1000 [] cs (by decide) (by decide) h (fun c hc => by simp at hc)
  exact ⟨this.1, by rw [this.2]; simp⟩
theorem placeOf_le (inst op : Int) : ∀ l : List PlD, placeOf inst op l ≤ l.length
  | [] => Nat.le_refl _
  | x :: r => by
    unfold placeOf
    split
    · omega
    · have := placeOf_le inst op r
      simp
      omega

def noCode : CodeD := ⟨0, [], []⟩
def codeAt (cs : List CodeD) (fn : Int) (c : CodeD) (k : Nat) : CodeD := if k = 0 then (cs[fn.toNat]?).getD noCode else c
/-- The pcs of the physical frames, the outermost first, behind those in l. -/
def pcsF (cs : List CodeD) : List (Int × Int) → CodeD → Nat → List Int → List Int
  | [], _, _, l => l
  | x :: r, c, k, l =>
    if r.length = 0 then l ++ [(codeAt cs x.1 c k).first + placeOf k x.2 (codeAt cs x.1 c k).places] else
    if begunAt (placeOf k x.2 (codeAt cs x.1 c k).places : Nat) (codeAt cs x.1 c k).tree 0 = 0 then pcsF cs r (codeAt cs x.1 c k) 0 (l ++ [(codeAt cs x.1 c k).first + placeOf k x.2 (codeAt cs x.1 c k).places + 1]) else
    pcsF cs r (codeAt cs x.1 c k) (begunAt (placeOf k x.2 (codeAt cs x.1 c k).places : Nat) (codeAt cs x.1 c k).tree 0) l
def spot (x : LiveD) : Int × Int := (x.fn, x.next)
def pcsD (cs : List CodeD) (live : List LiveD) : List Int := (pcsF cs (live.map spot) noCode 0 []).reverse
end Go.Proofs.YthaganponmnanaaGreatDoor
namespace Go.Proofs.YthaganponmnanaaGreatDoor
open Go.RowKit

theorem Tryz.infoSpot : (Tryz.prog.info? 107).map (fun i => (i.zero, i.size, i.bytes)) = some (some (.agg #[.int .i64 0, .int .i64 0]), 2, 16) := by kernel_rfl

set_option maxHeartbeats 4000000 in
set_option maxRecDepth 100000 in
theorem Spots_any (X : RX) (w0 : World) (P : List FnD) (rb : Nat) (s : StandD) (w : World) (hgd : Good P) (hw : Wf P s) (hR : RunAt X w0 P rb w s) :
    Calls Tryz.prog 39 #[.pointer (some ⟨rb, 0, none⟩)] w fun e w' => ∃ a cap, e = .returned (.slice a s.live.length cap) ∧
      w'.ownsRow w.heap.size 107 2 (.slice a s.live.length cap) s.live.length ((s.live.map spot).map ndCells).flatten ∧ Below w.heap.size w w' := by
  obtain ⟨pa, pcap, fv, hk, hp0, hb, hrb, hown0, hvr, hkx⟩ := hR
  have HLV := hid hw.live
  have HG := hid hgd
  have hlen := hw.len
  obtain ⟨st, sv, live⟩ := s
  simp only at *
  obtain ⟨nl, hnl⟩ : ∃ v, v = live.length := ⟨_, rfl⟩
  rw [← hnl] at hown0 hlen ⊢
  obtain ⟨va, vcap, rfl, hvc, hvm, hvg⟩ : ∃ va vcap, fv = .slice va nl vcap ∧ nl ≤ vcap ∧ vcap ≤ maxLen ∧ (0 < nl → ∃ g, va = some ⟨g, 0, none⟩) := by
    rcases hown0.2 with ⟨h1, h2⟩ | ⟨g, c', cur, h1, _, _, h3, h4, _⟩
    · exact ⟨none, 0, by rw [h1, h2], by omega, by unfold maxLen; omega, fun h => by omega⟩
    · exact ⟨_, c', h1, h3, h4, fun _ => ⟨g, rfl⟩⟩
  have HNL := hid hnl
  have HROW : Hid (∀ k x g, live[k]? = some x → x.locals.length ≤ 8 → va = some ⟨g, 0, none⟩ → ∀ i u, (frmCells x)[i]? = some u → w.cell? ⟨g, k * 10 + i, none⟩ = some u) := fun k x g hx h8 hva i u hu => by
    subst hva
    have hkl : k < live.length := (List.getElem?_eq_some_iff.1 hx).1
    have hi : i < 10 := by
      have := (List.getElem?_eq_some_iff.1 hu).1
      simp [frmCells, pad8_len h8] at this; omega
    have hall : ∀ c ∈ live.map frmCells, c.length = 10 := fun c hc => by
      obtain ⟨y, hy, rfl⟩ := List.mem_map.1 hc
      simp [frmCells, pad8_len (wf8' HG.out (HLV.out y hy))]
    rw [hown0.cellAt (k * 10 + i) (by omega), flatten_get 10 _ k i hall (by simpa using hkl) hi]
    simp only [List.getD, List.getElem?_map, hx, Option.map_some, Option.getD_some]
    exact hu
  unfold maxLen at hvm
  have r1 : w.cell? ⟨rb, 1, none⟩ = some (.slice va nl vcap) := by simp [World.cell?, hk]
  clear hnl hown0 hp0 hw hgd hk hb hvr hkx
  go_enter Tryz.func39, Tryz.ntmps39
  have hrlt := World.block_lt_of_cell? w _ r1
  simp only at hrlt
  obtain ⟨sp, hsp⟩ : ∃ v, v = live.map spot := ⟨_, rfl⟩
  rw [← hsp]
  have hspl : sp.length = nl := by rw [hsp, HNL.out]; simp
  have HSP : Hid (∀ k x, live[k]? = some x → sp[k]? = some (spot x)) := fun k x hx => by rw [hsp, List.getElem?_map, hx]; rfl
  clear hsp
  obtain ⟨i0, hi, hz0, hz1, hz2⟩ := info_parts Tryz.infoSpot
  go_wp2
  go_loopw [3, 11] (fun lv i wr => ∃ j : Nat, i = .int .i64 j ∧ j ≤ nl ∧ wr.ownsRow w.heap.size 107 2 lv j ((sp.take j).map ndCells).flatten ∧ Below w.heap.size w wr) (fun _ i _ => nl - (intOf i).toNat)
  case atStart => exact ⟨0, rfl, by omega, World.ownsRow_nil _ _ _ _, Below.refl _ _⟩
  case round =>
    obtain ⟨j, rfl, hj, hown, hbel⟩ := hrel
    have hsw := hbel.size
    by_cases hjn : j < nl
    · have hjn' : (j : Int) < (nl : Int) := by omega
      obtain ⟨x, hx⟩ : ∃ x, live[j]? = some x := ⟨_, List.getElem?_eq_getElem (by rw [← HNL.out]; exact hjn)⟩
      have hwx := HLV.out x (List.mem_of_getElem? hx)
      have hx8 := wf8' HG.out hwx
      obtain ⟨g, rfl⟩ := hvg (by omega)
      have hcell := HROW.out j x g hx hx8 rfl
      have hsx := HSP.out j x hx
      obtain ⟨l0, l1, l2, l3, l4, l5, l6, l7, hpad⟩ := frm_array x hx8
      have hfc : frmCells x = [.int .i64 x.fn, .int .i64 x.next, .int .i64 l0, .int .i64 l1, .int .i64 l2, .int .i64 l3, .int .i64 l4, .int .i64 l5, .int .i64 l6, .int .i64 l7] := by unfold frmCells; rw [hpad]; rfl
      rw [hfc] at hcell
      have up : ∀ (q : Addr) (u : Value), w.cell? q = some u → wr.cell? q = some u := fun q u h => (hbel.cell (World.block_lt_of_cell? w _ h)).trans h
      have t0 : wr.cell? ⟨g, j * 10, none⟩ = some (.int .i64 x.fn) := up _ _ (hcell 0 _ rfl)
      have t1 : wr.cell? ⟨g, j * 10 + 1, none⟩ = some (.int .i64 x.next) := up _ _ (hcell 1 _ rfl)
      have t2 : wr.cell? ⟨g, j * 10 + 2, none⟩ = some (.int .i64 l0) := up _ _ (hcell 2 _ rfl)
      have t3 : wr.cell? ⟨g, j * 10 + 3, none⟩ = some (.int .i64 l1) := up _ _ (hcell 3 _ rfl)
      have t4 : wr.cell? ⟨g, j * 10 + 4, none⟩ = some (.int .i64 l2) := up _ _ (hcell 4 _ rfl)
      have t5 : wr.cell? ⟨g, j * 10 + 5, none⟩ = some (.int .i64 l3) := up _ _ (hcell 5 _ rfl)
      have t6 : wr.cell? ⟨g, j * 10 + 6, none⟩ = some (.int .i64 l4) := up _ _ (hcell 6 _ rfl)
      have t7 : wr.cell? ⟨g, j * 10 + 7, none⟩ = some (.int .i64 l5) := up _ _ (hcell 7 _ rfl)
      have t8 : wr.cell? ⟨g, j * 10 + 8, none⟩ = some (.int .i64 l6) := up _ _ (hcell 8 _ rfl)
      have t9 : wr.cell? ⟨g, j * 10 + 9, none⟩ = some (.int .i64 l7) := up _ _ (hcell 9 _ rfl)
      have ltg := World.block_lt_of_cell? wr _ t0
      simp only at ltg
      have hfl2 : ((sp.take j).map ndCells).flatten ++ [.int .i64 x.fn, .int .i64 x.next] = ((sp.take (j + 1)).map ndCells).flatten := by
        obtain ⟨hjf, he⟩ := List.getElem?_eq_some_iff.1 hsx
        rw [List.take_succ_eq_append_getElem hjf, he, List.map_append, List.flatten_append]
        simp [ndCells, spot]
      have HF2 := hid hfl2
      have HOW := hid hown
      obtain ⟨xf, xn, xl⟩ := x
      dsimp only at *
      clear hfl2 hcell up hwx hx hsx hfc hpad hown
      go_wp2_with (at_builtin; refine wpList_append_lies _ rfl (.tmp 15) (.tmp 21) 104 rfl w.heap.size 107 i0 (.agg #[.int .i64 0, .int .i64 0]) 2 16 Tryz.underlying104 hi hz0 hz1 hz2 rfl (by decide) _ _ _ rfl ((HOW.out.alloc _).alloc _) ⟨wr.heap.size + 1, 0, none⟩ 1 1 [.int .i64 xf, .int .i64 xn] rfl rfl (new2_at (by simp) _ _ _) (one2 _ _) (by decide) (by unfold maxLen; omega) (by omega) (by simp; omega) _ rfl ?_)
      intro g' cap' w5 hown5 hgrow5 hat5 hlt5
      rw [← List.map_take, HF2.out] at hown5
      have hb5 : Below w.heap.size w w5 := ((hbel.alloc hsw _).alloc (by simp; omega) _).grown hgrow5 (by simp; omega) (fun k hk => (HOW.out.lt k hk).1)
      have HO5 := hid hown5
      have HB5 := hid hb5
      clear hown5 hgrow5 hat5 hlt5 hb5 HOW
      go_wp2
      go_roundw
      case rel => exact ⟨j + 1, by go_num, by omega, HO5.out, HB5.out⟩
      case measure => simp [intOf]; omega
    · have hje : j = nl := by omega
      subst hje
      have hjn' : decide ((j : Int) < (j : Int)) = false := by simp
      have htk : sp.take j = sp := List.take_of_length_le (by rw [hspl]; exact Nat.le_refl _)
      rw [htk] at hown
      obtain ⟨la, lcap, rfl⟩ : ∃ la lcap, u3 = .slice la j lcap := by
        rcases hown.2 with ⟨h1, h2⟩ | ⟨g, c', cur, h1, _⟩
        · exact ⟨none, 0, by rw [h1, h2]⟩
        · exact ⟨_, _, h1⟩
      have HOW := hid hown
      clear hown htk
      go_wp2
      exact bodyPost_ret (v := .slice la j lcap) (by simp [results, Tryz.results39, go_sem]) rfl ⟨la, lcap, rfl, HOW.out, hbel⟩

theorem new1_at {w : World} {n : Nat} (h : w.heap.size = n) (a : Value) (t : TypeId) : ∀ j u, [a][j]? = some u → (w.alloc (.cells #[a] t)).cell? ((⟨n, 0, none⟩ : Addr).add j) = some u := by
  subst h
  intro j u hu
  match j, hu with
  | 0, hu => simp at hu; subst hu; simp [Addr.add]
theorem one1 (a : Int) : ∀ u ∈ [Value.int .i64 a], u.oneCell' = true := by
  intro u hu; simp at hu; subst hu; rfl

set_option maxHeartbeats 4000000 in
set_option maxRecDepth 100000 in
theorem reversed_any (a : Option Addr) (cap : Nat) (l : List Int) (w : World) (hl : Rd .i64 w a l.length cap l) (h20 : l.length ≤ 1000) :
    Calls Tryz.prog 42 #[.slice a l.length cap] w fun e w' => ∃ a' cap', e = .returned (.slice a' l.length cap') ∧ w'.ownsRow w.heap.size 3 1 (.slice a' l.length cap') l.length (ints l.reverse) ∧ Below w.heap.size w w' := by
  have HL := hid hl
  have hcap := hl.hcap
  have hmax := hl.hmax
  unfold maxLen at hmax
  obtain ⟨n, hn⟩ : ∃ v, v = l.length := ⟨_, rfl⟩
  rw [← hn] at HL hcap h20 ⊢
  have HN := hid hn
  clear hl hn
  go_enter Tryz.func42, Tryz.ntmps42
  obtain ⟨i0, hi, hz0, hz1, hz2⟩ := info_parts Tryz.infoInt
  have ew : IntKind.i64.wrap ((n : Int) - 1) = (n : Int) - 1 := by rw [IntKind.wrap_i64]; omega
  go_wp2
  clear ew
  go_loopw [3, 4] (fun lv i wr => ∃ j : Nat, i = .int .i64 ((n : Int) - 1 - j) ∧ j ≤ n ∧ wr.ownsRow w.heap.size 3 1 lv j (ints (l.reverse.take j)) ∧ Below w.heap.size w wr) (fun _ i _ => (intOf i + 1).toNat)
  case atStart => exact ⟨0, by simp, by omega, World.ownsRow_nil _ _ _ _, Below.refl _ _⟩
  case round =>
    obtain ⟨j, rfl, hj, hown, hbel⟩ := hrel
    have hsw := hbel.size
    by_cases hjn : j < n
    · obtain ⟨k, hk⟩ : ∃ k, k = n - 1 - j := ⟨_, rfl⟩
      have hki : (n : Int) - 1 - j = (k : Int) := by omega
      rw [hki]
      have hkn : (k : Int) < (n : Int) := by omega
      have hkn2 : k < n := by omega
      have hk0 : (0 : Int) ≤ (k : Int) := by omega
      obtain ⟨b, off, rfl, c0⟩ := HL.out.cell k hkn2
      have t0 : wr.cell? ⟨b, off + k, none⟩ = some (.int .i64 (l.getD k 0)) := (hbel.cell (World.block_lt_of_cell? w _ c0)).trans c0
      have ltb := World.block_lt_of_cell? wr _ t0
      simp only at ltb
      have hfl2 : ints (l.reverse.take j) ++ [.int .i64 (l.getD k 0)] = ints (l.reverse.take (j + 1)) := by
        have hjl : j < l.reverse.length := by rw [List.length_reverse, ← HN.out]; exact hjn
        rw [List.take_succ_eq_append_getElem hjl]
        have he : l.reverse[j] = l.getD k 0 := by
          rw [List.getElem_reverse]
          have : l.length - 1 - j = k := by rw [← HN.out]; omega
          simp only [this, List.getD]
          rw [List.getElem?_eq_getElem (by rw [← HN.out]; exact hkn2)]
          rfl
        rw [he]
        simp [ints]
      have HF2 := hid hfl2
      have HOW := hid hown
      generalize l.getD k 0 = vv at *
      have ew : IntKind.i64.wrap ((k : Int) - 1) = (k : Int) - 1 := by rw [IntKind.wrap_i64]; omega
      clear hfl2 hown c0 hk
      go_wp2_with (at_builtin; refine wpList_append_own _ rfl (.tmp 12) (.tmp 17) 25 rfl w.heap.size 3 i0 (.int .i64 0) 1 8 Tryz.underlying25 hi hz0 hz1 hz2 rfl (by decide) _ _ _ rfl (HOW.out.alloc _) ⟨wr.heap.size, 0, none⟩ 1 1 [.int .i64 vv] rfl rfl (new1_at rfl _ _) (one1 _) (by unfold maxLen; omega) (by omega) (by simp; omega) ?_)
      intro v5 w5 hown5 hgrow5 _
      rw [HF2.out] at hown5
      have hb5 : Below w.heap.size w w5 := (hbel.alloc hsw _).grown hgrow5 (by simp; omega) (fun k hk => (HOW.out.lt k hk).1)
      have HO5 := hid hown5
      have HB5 := hid hb5
      clear hown5 hgrow5 hb5 HOW
      go_wp2
      go_roundw
      case rel => exact ⟨j + 1, by first | (rw [← hki]; congr 1; omega) | (congr 1; omega), by omega, HO5.out, HB5.out⟩
      case measure => simp [intOf] <;> omega
    · have hje : j = n := by omega
      subst hje
      have hneg : ((j : Int) - 1 - j) = -1 := by omega
      rw [hneg]
      have htk : l.reverse.take j = l.reverse := List.take_of_length_le (by rw [List.length_reverse, ← HN.out]; exact Nat.le_refl _)
      rw [htk] at hown
      obtain ⟨la, lcap, rfl⟩ : ∃ la lcap, u3 = .slice la j lcap := by
        rcases hown.2 with ⟨h1, h2⟩ | ⟨g, c', cur, h1, _⟩
        · exact ⟨none, 0, by rw [h1, h2]⟩
        · exact ⟨_, _, h1⟩
      have HOW := hid hown
      clear hown htk
      go_wp2
      exact bodyPost_ret (v := .slice la j lcap) (by simp [results, Tryz.results42, go_sem]) rfl ⟨la, lcap, rfl, HOW.out, hbel⟩
end Go.Proofs.YthaganponmnanaaGreatDoor
namespace Go.Proofs.YthaganponmnanaaGreatDoor
open Go.RowKit

theorem owns_low9 {w : World} {base base' : Nat} {e : TypeId} {size : Nat} {v : Value} {n : Nat} {xs : List Value} (h : w.ownsRow base e size v n xs) (hb : base' ≤ base) : w.ownsRow base' e size v n xs :=
  ⟨h.1, h.2.imp id fun ⟨g, cap, cur, h1, h2, h3⟩ => ⟨g, cap, cur, h1, Nat.le_trans hb h2, h3⟩⟩

set_option maxHeartbeats 4000000 in
set_option maxRecDepth 100000 in
theorem entryOf_any (p : List FnD) (qa : Option Addr) (qcap : Nat) (f : FnD) (ba : Option Addr) (bcap : Nat) (c : CodeD) (pa : Option Addr) (pcap : Nat) (ta : Option Addr) (tcap : Nat) (w : World)
    (hp : RdP w qa p.length qcap p) (hpl : RdPl w pa c.places.length pcap c.places) (hok : ∀ a ∈ c.places, PlOk p a) (h1000 : c.places.length ≤ 1000) :
    Calls Tryz.prog 32 #[.agg #[.int .i64 c.first, .slice pa c.places.length pcap, .slice ta c.tree.length tcap], .agg #[.string f.name, .string f.file, .int .i64 f.params, .int .i64 f.locals, .slice ba f.body.length bcap], .slice qa p.length qcap] w fun e w' =>
      ∃ la lcap xa xcap, e = .returned (.agg #[.string f.name, .string f.file, .slice la (entOfD p f c).lines.length lcap, .slice xa (entOfD p f c).index.length xcap, .slice ta c.tree.length tcap]) ∧
        w'.ownsRow w.heap.size 150 2 (.slice la (entOfD p f c).lines.length lcap) (entOfD p f c).lines.length (flat (entOfD p f c).lines) ∧
        w'.ownsRow w.heap.size 150 2 (.slice xa (entOfD p f c).index.length xcap) (entOfD p f c).index.length (flat (entOfD p f c).index) ∧ Below w.heap.size w w' := by
  obtain ⟨first, places, tree⟩ := c
  obtain ⟨nm, fl, fp, fo, body⟩ := f
  dsimp only at hpl hok h1000 ⊢
  unfold entOfD
  dsimp only
  have HP := hid hp
  have HPL := hid hpl
  have HOK := hid hok
  have hq1 := hp.2.1
  have hq2 := hp.2.2.1
  have hp1 := hpl.2.1
  have hp2 := hpl.2.2.1
  unfold maxLen at hq2 hp2
  obtain ⟨n, hn⟩ : ∃ v, v = places.length := ⟨_, rfl⟩
  rw [← hn] at hp1 h1000 ⊢
  have HN := hid hn
  obtain ⟨pn, hpn⟩ : ∃ v, v = p.length := ⟨_, rfl⟩
  rw [← hpn] at hq1 ⊢
  have HPN := hid hpn
  generalize tree.length = tl at *
  generalize body.length = bl at *
  clear hp hpl hok hn hpn
  obtain ⟨LL, hLL⟩ : ∃ v, v = places.map fun a => (opAt p a).line := ⟨_, rfl⟩
  obtain ⟨IL, hIL⟩ : ∃ v, v = places.map fun a => a.inst := ⟨_, rfl⟩
  rw [← hLL, ← hIL]
  have hLl : LL.length = n := by rw [hLL, HN.out]; simp
  have hIl : IL.length = n := by rw [hIL, HN.out]; simp
  have HLG : Hid (∀ k x, places[k]? = some x → LL.getD k 0 = (opAt p x).line ∧ IL.getD k 0 = x.inst) := fun k x hx => by
    rw [hLL, hIL]
    simp [List.getD, hx]
  have HLl := hid hLl
  have HIl := hid hIl
  clear hLL hIL hLl hIl
  obtain ⟨wb, hwb⟩ : ∃ v, v = ((w.alloc (Obj.cells #[.int .i64 first, .slice pa n pcap, .slice ta tl tcap] 87)).alloc (Obj.cells #[.string nm, .string fl, .int .i64 fp, .int .i64 fo, .slice ba bl bcap] 44)).alloc (Obj.cells #[.string ⟨#[]⟩, .string ⟨#[]⟩, .slice none 0 0, .slice none 0 0, .slice none 0 0] 90) := ⟨_, rfl⟩
  have hbb : Below w.heap.size w wb := by rw [hwb]; exact (((Below.refl _ _).alloc (Nat.le_refl _) _).alloc (by simp) _).alloc (by simp; omega) _
  have hbs : wb.heap.size = w.heap.size + 3 := by rw [hwb]; simp
  have k0 : wb.heap[w.heap.size]? = some (.cells #[.int .i64 first, .slice pa n pcap, .slice ta tl tcap] 87 (0, 0)) := by rw [hwb]; exact heap_at1 (by simp <;> omega) (heap_at1 (by simp <;> omega) (heap_new_at (by simp)))
  have k1 : wb.heap[w.heap.size + 1]? = some (.cells #[.string nm, .string fl, .int .i64 fp, .int .i64 fo, .slice ba bl bcap] 44 (0, 0)) := by rw [hwb]; exact heap_at1 (by simp <;> omega) (heap_new_at (by simp))
  have k2 : wb.heap[w.heap.size + 2]? = some (.cells #[.string ⟨#[]⟩, .string ⟨#[]⟩, .slice none 0 0, .slice none 0 0, .slice none 0 0] 90 (0, 0)) := by rw [hwb]; exact heap_new_at (by simp)
  have HK0 := hid k0
  have HK1 := hid k1
  have HK2 := hid k2
  have HBS := hid hbs
  clear k0 k1 k2 hbs
  obtain ⟨i0, hi, hz0, hz1, hz2⟩ := info_parts Tryz.infoInt
  go_enter Tryz.func32, Tryz.ntmps32
  go_wp2
  rw [← hwb]
  clear hwb
  go_loopw [7, 8, 14] (fun l1 l2 i wr => ∃ k : Nat, i = .int .i64 k ∧ k ≤ n ∧ wr.ownsRow wb.heap.size 3 1 l1 k (ints (LL.take k)) ∧ wr.ownsRow wb.heap.size 3 1 l2 k (ints (IL.take k)) ∧ (∀ b, l1.ownBlock = some b → l2.ownBlock ≠ some b) ∧ Below wb.heap.size wb wr) (fun _ _ i _ => n - (intOf i).toNat)
  case atStart => exact ⟨0, rfl, by omega, World.ownsRow_nil _ _ _ _, World.ownsRow_nil _ _ _ _, (fun b h => by cases h), Below.refl _ _⟩
  case round =>
    obtain ⟨k, rfl, hk, ho1, ho2, hdis, hbel⟩ := hrel
    have hbw := hbb.trans (hbel.mono hbb.size)
    have hsw := hbel.size
    by_cases hkn : k < n
    · have hkn' : (k : Int) < (n : Int) := by omega
      obtain ⟨x, hx⟩ : ∃ x, places[k]? = some x := ⟨_, List.getElem?_eq_getElem (by rw [← HN.out]; exact hkn)⟩
      obtain ⟨sb, soff, scs, rfl, -, hcell, rfl⟩ := HPL.out.2.2.2 k x hx
      obtain ⟨hl1, hl2⟩ := HLG.out k x hx
      obtain ⟨⟨hf0, hf1⟩, hoo, hob⟩ := HOK.out x (List.mem_of_getElem? hx)
      have hfs := fnAt_nat (p := p) hf0 hf1
      have hos : (fnAt p x.fn).body[x.op.toNat]? = some (opAt p x) := by
        unfold opAt
        rw [List.getElem?_eq_getElem (by omega)]; rfl
      obtain ⟨pb, poff, ya, ycap, rfl, -, -, -, -, -, c4, hrb, -, -⟩ := HP.out.at x.fn.toNat _ hfs
      obtain ⟨qb, qoff, oa, ocap, rfl, -, -, q1, -, -, -, -, -⟩ := hrb.opAt x.op.toNat _ hos
      have hy1 := hrb.2.1
      have hy2 := hrb.2.2.1
      unfold maxLen at hy2
      have up : ∀ (q : Addr) (u : Value), w.cell? q = some u → wr.cell? q = some u := fun q u h => (hbw.cell (World.block_lt_of_cell? w _ h)).trans h
      have t0 : wr.cell? ⟨sb, soff + k * 3, none⟩ = some (.int .i64 x.fn) := up _ _ (hcell 0 _ rfl)
      have t1 : wr.cell? ⟨sb, soff + k * 3 + 1, none⟩ = some (.int .i64 x.op) := up _ _ (hcell 1 _ rfl)
      have t2 : wr.cell? ⟨sb, soff + k * 3 + 2, none⟩ = some (.int .i64 x.inst) := up _ _ (hcell 2 _ rfl)
      replace c4 := up _ _ c4
      replace q1 := up _ _ q1
      have htl1 : ints (LL.take k) ++ [.int .i64 (opAt p x).line] = ints (LL.take (k + 1)) := by rw [take_snoc LL k (by rw [HLl.out]; exact hkn), hl1]; simp [ints]
      have htl2 : ints (IL.take k) ++ [.int .i64 x.inst] = ints (IL.take (k + 1)) := by rw [take_snoc IL k (by rw [HIl.out]; exact hkn), hl2]; simp [ints]
      clear hos hfs hrb
      generalize (fnAt p x.fn).body.length = yl at *
      generalize (opAt p x).line = lv at *
      obtain ⟨fN, hfN⟩ : ∃ v : Nat, x.fn = v := ⟨x.fn.toNat, by omega⟩
      obtain ⟨oN, hoN⟩ : ∃ v : Nat, x.op = v := ⟨x.op.toNat, by omega⟩
      rw [hfN] at c4 t0
      rw [hoN] at q1 t1
      simp only [Int.toNat_natCast] at c4 q1
      have hfp : fN < pn := by have := HPN.out; omega
      have hol : oN < yl := by omega
      generalize x.inst = iv at *
      obtain ⟨w2, hw2⟩ : ∃ v, v = wr.alloc (Obj.cells #[.int .i64 fN, .int .i64 oN, .int .i64 iv] 118) := ⟨_, rfl⟩
      have hb2 : Below wr.heap.size wr w2 := by rw [hw2]; exact (Below.refl _ _).alloc (Nat.le_refl _) _
      have hs2 : w2.heap.size = wr.heap.size + 1 := by rw [hw2]; simp
      have kS : w2.heap[wr.heap.size]? = some (.cells #[.int .i64 fN, .int .i64 oN, .int .i64 iv] 118 (0, 0)) := by rw [hw2]; exact heap_new_at rfl
      have s0 : w2.cell? ⟨wr.heap.size, 0, none⟩ = some (.int .i64 fN) := by simp [World.cell?, kS]
      have s1 : w2.cell? ⟨wr.heap.size, 1, none⟩ = some (.int .i64 oN) := by simp [World.cell?, kS]
      have d4 := (hb2.cell (World.block_lt_of_cell? wr _ c4)).trans c4
      have e1 := (hb2.cell (World.block_lt_of_cell? wr _ q1)).trans q1
      have lta := World.block_lt_of_cell? wr _ t0
      have ltw2 : wr.heap.size < w2.heap.size := by omega
      simp only at lta
      have HO1W := hid ho1
      have HO1 := hid (ownsRow_below ho1 hb2)
      have HO2 := hid (ownsRow_below ho2 hb2)
      have HO1D : Hid (w2.drew.ownsRow wb.heap.size 3 1 u7 k (ints (LL.take k))) := HO1.out.drew
      have HDIS := hid hdis
      have HT1 := hid htl1
      have HT2 := hid htl2
      have HKS := hid kS
      have HB2 := hid (hbel.trans (hb2.mono hsw))
      clear hcell up hl1 hl2 hf0 hf1 hoo hob ho1 ho2 hdis htl1 htl2 hx hfN hoN kS hbel hbw
      go_wp2
      rw [← hw2]
      clear hw2
      apply cutB
      case k =>
        intro key
        go_region_law (refine step_append_lies _ rfl (.tmp 18) (.tmp 30) 25 rfl wb.heap.size 3 i0 (.int .i64 0) 1 8 Tryz.underlying25 hi hz0 hz1 hz2 rfl (by decide) u7 k _ (by simp [Act.eval]) (HO1D.out.alloc _) ⟨w2.heap.size, 0, none⟩ 1 1 [Value.int .i64 lv] (by simp [Act.eval]) rfl (new1_at rfl _ _) (one1 _) (by decide) (by unfold maxLen; omega) (by omega) (by simp; omega) _ rfl ?_; intro g' cap' w5 hown5 hgrow5 hat5 hlt5)
        all_goals
          have hg2 : ∀ b, b < w2.heap.size → u7.ownBlock ≠ some b → w5.heap[b]? = w2.heap[b]? := fun b hb hne => (hgrow5.block b (by simp; omega) (fun e => hne e.symm)).trans (heap_alloc_old _ _ hb)
          rw [HT1.out] at hown5
          have hA2 : w5.ownsRow wb.heap.size 3 1 u8 k (ints (IL.take k)) := owns_same HO2.out (fun b hb => hg2 b (HO2.out.lt b hb).2 (fun e => HDIS.out b e hb))
          have hC2 : ∀ b, (Value.slice (some ⟨g', 0, none⟩) (k + 1) cap').ownBlock = some b → u8.ownBlock ≠ some b := fun b hb e => by
            simp [Value.ownBlock] at hb
            subst hb
            rcases hat5 with h | h
            · exact HDIS.out g' h e
            · have h1 := (HO2.out.lt g' e).2
              have h2 : g' = w2.heap.size + 1 := h.trans (by show (w2.alloc _).heap.size = _; simp)
              omega
          have hD2 : Below wb.heap.size wb w5 := ((HB2.out.drew).alloc (by show wb.heap.size ≤ w2.heap.size; omega) _).grown hgrow5 (by show wb.heap.size ≤ (w2.alloc _).heap.size; simp; omega) (fun b hb => (HO1.out.lt b hb).1)
          have hE2 : w5.heap[wr.heap.size]? = some (.cells #[.int .i64 fN, .int .i64 oN, .int .i64 iv] 118 (0, 0)) := (hg2 wr.heap.size ltw2 (fun e => by have := (HO1W.out.lt _ e).2; omega)).trans HKS.out
          have hfin : w5.ownsRow wb.heap.size 3 1 (.slice (some ⟨g', 0, none⟩) (k + 1) cap') (k + 1) (ints (LL.take (k + 1))) ∧ w5.ownsRow wb.heap.size 3 1 u8 k (ints (IL.take k)) ∧ (∀ b, (Value.slice (some ⟨g', 0, none⟩) (k + 1) cap').ownBlock = some b → u8.ownBlock ≠ some b) ∧ Below wb.heap.size wb w5 ∧ w5.heap[wr.heap.size]? = some (.cells #[.int .i64 fN, .int .i64 oN, .int .i64 iv] 118 (0, 0)) := ⟨hown5, hA2, hC2, hD2, hE2⟩
          clear hg2 hown5 hgrow5 hat5 hlt5 hA2 hC2 hD2 hE2
          revert hfin
          revert w5 cap' g'
          exact key.out
      intro g' cap' w5 ⟨f1, f2, f3, f4, f5⟩
      have z2 : w5.cell? ⟨wr.heap.size, 2, none⟩ = some (.int .i64 iv) := by simp [World.cell?, f5]
      have ltz := (Array.getElem?_eq_some_iff.1 f5).1
      have HF1 := hid f1
      have HF2 := hid f2
      have HF3 := hid f3
      have HF4 := hid f4
      have hs5 := f4.size
      clear f1 f2 f3 f4 f5 HO1 HO2 HO1D HDIS HB2 HKS s0 s1 d4 e1
      go_wp2_with (at_builtin; refine wpList_append_lies _ rfl (.tmp 32) (.tmp 35) 25 rfl wb.heap.size 3 i0 (.int .i64 0) 1 8 Tryz.underlying25 hi hz0 hz1 hz2 rfl (by decide) _ _ _ rfl (HF2.out.alloc _) ⟨w5.heap.size, 0, none⟩ 1 1 [.int .i64 iv] rfl rfl (new1_at rfl _ _) (one1 _) (by decide) (by unfold maxLen; omega) (by omega) (by simp; omega) _ rfl ?_)
      intro g2 cap2 w6 hown6 hgrow6 hat6 hlt6
      have hg6 : ∀ b, b < w5.heap.size → u8.ownBlock ≠ some b → w6.heap[b]? = w5.heap[b]? := fun b hb hne => (hgrow6.block b (by simp; omega) (fun e => hne e.symm)).trans (heap_alloc_old _ _ hb)
      rw [HT2.out] at hown6
      have r1 : w6.ownsRow wb.heap.size 3 1 (.slice (some ⟨g', 0, none⟩) (k + 1) cap') (k + 1) (ints (LL.take (k + 1))) := owns_same HF1.out (fun b hb => hg6 b (HF1.out.lt b hb).2 (HF3.out b hb))
      have r3 : ∀ b, (Value.slice (some ⟨g', 0, none⟩) (k + 1) cap').ownBlock = some b → (Value.slice (some ⟨g2, 0, none⟩) (k + 1) cap2).ownBlock ≠ some b := fun b hb e => by
        have hlt := (HF1.out.lt b hb).2
        simp [Value.ownBlock] at e
        subst e
        rcases hat6 with h | h
        · exact HF3.out g2 hb h
        · omega
      have r4 : Below wb.heap.size wb w6 := (HF4.out.alloc hs5 _).grown hgrow6 (by simp; omega) (fun b hb => (HF2.out.lt b hb).1)
      have HREL := hid (⟨r1, hown6, r3, r4⟩ : _ ∧ _ ∧ _ ∧ _)
      clear r1 hown6 r3 r4 hgrow6 hat6 hlt6 hg6 HF1 HF2 HF3 HF4 z2
      go_wp2
      go_roundw
      case rel =>
        obtain ⟨x1, x2, x3, x4⟩ := HREL.out
        exact ⟨k + 1, by go_num, by omega, x1, x2, x3, x4⟩
      case measure => simp [intOf]; omega
    · have hke : k = n := by omega
      subst hke
      have hkn' : decide ((k : Int) < (k : Int)) = false := by simp
      have e1 : LL.take k = LL := List.take_of_length_le (by rw [HLl.out]; exact Nat.le_refl _)
      have e2 : IL.take k = IL := List.take_of_length_le (by rw [HIl.out]; exact Nat.le_refl _)
      rw [e1] at ho1
      rw [e2] at ho2
      obtain ⟨a1, c1, rfl, hr1⟩ := rdI_of_owns ho1 HLl.out
      obtain ⟨a2, c2, rfl, hr2⟩ := rdI_of_owns ho2 HIl.out
      have HT := hid (fun (W : World) (hW : Below wr.heap.size wr W) => tOf_any a1 c1 LL W (by rw [HLl.out]; exact hr1.below hW (Nat.le_refl _)) (by rw [HLl.out]; exact h1000))
      have HT2 := hid (fun (W : World) (hW : Below wr.heap.size wr W) => tOf_any a2 c2 IL W (by rw [HIl.out]; exact hr2.below hW (Nat.le_refl _)) (by rw [HIl.out]; exact h1000))
      rw [HLl.out] at HT
      rw [HIl.out] at HT2
      have hbs3 := HBS.out
      have hlow : w.heap.size + 1 + 1 ≤ wr.heap.size := by omega
      have hlow1 : w.heap.size + 1 + 1 < wr.heap.size := by omega
      have j0 := (hbel.block w.heap.size (by omega)).trans HK0.out
      have j1 := (hbel.block (w.heap.size + 1) (by omega)).trans HK1.out
      have j2 := (hbel.block (w.heap.size + 1 + 1) (by omega)).trans HK2.out
      have m0 : wr.cell? ⟨w.heap.size + 1, 0, none⟩ = some (.string nm) := by simp [World.cell?, j1]
      have m1 : wr.cell? ⟨w.heap.size + 1, 1, none⟩ = some (.string fl) := by simp [World.cell?, j1]
      have m2 : wr.cell? ⟨w.heap.size, 2, none⟩ = some (.slice ta tl tcap) := by simp [World.cell?, j0]
      have HZ : Hid (∀ W, Below wr.heap.size wr W → W.cell? ⟨w.heap.size + 1 + 1, 0, none⟩ = some (.string ⟨#[]⟩) ∧ W.cell? ⟨w.heap.size + 1 + 1, 1, none⟩ = some (.string ⟨#[]⟩) ∧ W.cell? ⟨w.heap.size + 1 + 1, 2, none⟩ = some (.slice none 0 0) ∧ W.cell? ⟨w.heap.size + 1 + 1, 3, none⟩ = some (.slice none 0 0) ∧ W.cell? ⟨w.heap.size + 1 + 1, 4, none⟩ = some (.slice none 0 0) ∧
          W.frozen? ⟨w.heap.size + 1 + 1, 0, none⟩ = false ∧ W.frozen? ⟨w.heap.size + 1 + 1, 1, none⟩ = false ∧ W.frozen? ⟨w.heap.size + 1 + 1, 2, none⟩ = false ∧ W.frozen? ⟨w.heap.size + 1 + 1, 3, none⟩ = false ∧ W.frozen? ⟨w.heap.size + 1 + 1, 4, none⟩ = false) := fun W hW => by
        have h := (hW.block (w.heap.size + 1 + 1) hlow1).trans j2
        simp [World.cell?, World.frozen?, h]
      have KS : Hid (∀ W : World, Below (w.heap.size + 1 + 1) wr W → Below (w.heap.size + 1 + 1) wr W ∧ W.cell? ⟨w.heap.size + 1, 0, none⟩ = some (.string nm) ∧ W.cell? ⟨w.heap.size + 1, 1, none⟩ = some (.string fl) ∧ W.cell? ⟨w.heap.size, 2, none⟩ = some (.slice ta tl tcap)) := fun W h =>
        ⟨h, (h.cell (p := ⟨w.heap.size + 1, 0, none⟩) (by simp)).trans m0, (h.cell (p := ⟨w.heap.size + 1, 1, none⟩) (by simp)).trans m1, (h.cell (p := ⟨w.heap.size, 2, none⟩) (by simp; omega)).trans m2⟩
      clear e1 e2 ho1 ho2 hr1 hr2 hdis j0 j1 j2 m0 m1 m2
      go_wp2
      go_region_held (fun W => Below (w.heap.size + 1 + 1) wr W ∧ W.cell? ⟨w.heap.size + 1, 0, none⟩ = some (.string nm) ∧ W.cell? ⟨w.heap.size + 1, 1, none⟩ = some (.string fl) ∧ W.cell? ⟨w.heap.size, 2, none⟩ = some (.slice ta tl tcap))
        ((refine KS.out _ ?_; first | with_reducible exact (Below.refl _ _).drew | with_reducible exact (((((hb6'.mono hlow).setCell (p := ⟨w.heap.size + 1 + 1, 0, none⟩) (Nat.le_refl _) _).setCell (p := ⟨w.heap.size + 1 + 1, 1, none⟩) (Nat.le_refl _) _).setCell (p := ⟨w.heap.size + 1 + 1, 2, none⟩) (Nat.le_refl _) _).setCell (p := ⟨w.heap.size + 1 + 1, 3, none⟩) (Nat.le_refl _) _).setCell (p := ⟨w.heap.size + 1 + 1, 4, none⟩) (Nat.le_refl _) _ | exact hb6'.mono hlow | exact hb4'.mono hlow))
        ((first | (go_at_call_of 50 (Value.slice a1 k c1); refine (HT.out _ (Below.refl _ _).drew).mono ?_; rintro e w4 ⟨la, lcap, rfl, hown4, hb4⟩; have hb4' : Below wr.heap.size wr w4 := (Below.refl _ _).drew.trans hb4) | (go_at_call_of 50 (Value.slice a2 k c2); refine (HT2.out _ hb4').mono ?_; rintro e w6 ⟨xa, xcap, rfl, hown6, hb6⟩; have hb6' : Below wr.heap.size wr w6 := hb4'.trans (hb6.mono hb4'.size); obtain ⟨z0, z1, z2, z3, z4, g0, g1, g2, g3, g4⟩ := HZ.out _ hb6')))
      have hH := (‹Below (w.heap.size + 1 + 1) wr _ ∧ _›.1)
      obtain ⟨w7, hw7⟩ : ∃ v, v = ((((w6.setCell ⟨w.heap.size + 1 + 1, 0, none⟩ (.string nm)).setCell ⟨w.heap.size + 1 + 1, 1, none⟩ (.string fl)).setCell ⟨w.heap.size + 1 + 1, 2, none⟩ (.slice la (rollL LL).length lcap)).setCell ⟨w.heap.size + 1 + 1, 3, none⟩ (.slice xa (rollL IL).length xcap)).setCell ⟨w.heap.size + 1 + 1, 4, none⟩ (.slice ta tl tcap) := ⟨_, rfl⟩
      have y0 : w7.cell? ⟨w.heap.size + 1 + 1, 0, none⟩ = some (.string nm) := by rw [hw7]; simp [go_sem, z0]
      have y1 : w7.cell? ⟨w.heap.size + 1 + 1, 1, none⟩ = some (.string fl) := by rw [hw7]; simp [go_sem, z1]
      have y2 : w7.cell? ⟨w.heap.size + 1 + 1, 2, none⟩ = some (.slice la (rollL LL).length lcap) := by rw [hw7]; simp [go_sem, z2]
      have y3 : w7.cell? ⟨w.heap.size + 1 + 1, 3, none⟩ = some (.slice xa (rollL IL).length xcap) := by rw [hw7]; simp [go_sem, z3]
      have y4 : w7.cell? ⟨w.heap.size + 1 + 1, 4, none⟩ = some (.slice ta tl tcap) := by rw [hw7]; simp [go_sem, z4]
      have hot : ∀ b, b ≠ w.heap.size + 1 + 1 → w7.heap[b]? = w6.heap[b]? := fun b hb => by
        rw [hw7, Below.heap_setCell _ _ _ _ hb, Below.heap_setCell _ _ _ _ hb, Below.heap_setCell _ _ _ _ hb, Below.heap_setCell _ _ _ _ hb, Below.heap_setCell _ _ _ _ hb]
      rw [← hw7] at hH ⊢
      have hs4 : wr.heap.size ≤ w4.heap.size := hb4'.size
      have hd4 : wr.drew.heap.size = wr.heap.size := rfl
      have HL7 := hid (owns_low9 (owns_same (ownsRow_below hown4 hb6) (fun b hb => hot b (fun e => by have := (hown4.lt b hb).1; omega))) (show w.heap.size ≤ wr.drew.heap.size by omega))
      have HI7 := hid (owns_low9 (owns_same hown6 (fun b hb => hot b (fun e => by have := (hown6.lt b hb).1; omega))) (show w.heap.size ≤ w4.heap.size by omega))
      have HB7 := hid (hbw.trans (hH.mono (by omega)))
      clear hw7 hot hH hown4 hown6 hb4 hb4' hb6 hb6' HZ KS z0 z1 z2 z3 z4 g0 g1 g2 g3 g4 HT HT2
      go_wp2
      exact bodyPost_ret (v := .agg #[.string nm, .string fl, .slice la (rollL LL).length lcap, .slice xa (rollL IL).length xcap, .slice ta tl tcap]) (by simp [results, Tryz.results32, go_sem, y0, y1, y2, y3, y4]) rfl ⟨la, lcap, xa, xcap, rfl, HL7.out, HI7.out, HB7.out⟩
end Go.Proofs.YthaganponmnanaaGreatDoor
