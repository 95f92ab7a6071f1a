/- The pcs of a run, as plain data; bounds of codes; nothing is claimed of the program here. Contracts of the developers' (*run.Run).Spots and machine.reversed. Contracts of the developers' frame.mayBe and frame.Print, where the frames are those of a well-formed program: true, and the text. -/
import Derived.Test.YtffnfjkjlmlonaaGreatDoorZ42
import Derived.Test.YtffnfjkjlmlonaaGreatDoorZ13
import Derived.Test.YtffnfjkjlmlonaaGreatDoorZ9
import Derived.Test.YtffnfjkjlmlonaaGreatDoorZ7
import Derived.Test.YtffnfjkjlmlonaaGreatDoorI12
import Derived.Lib.ItoaLen
import Derived.Lib.AppendIntMem
namespace Go.Proofs.YtffnfjkjlmlonaaGreatDoor
open Go.RowKit

def CodeBd (c : CodeD) : Prop := (0 ≤ c.first ∧ c.first ≤ 1000) ∧ c.places.length ≤ 1000 ∧ c.tree.length ≤ 1000
theorem layAll_bd (p : List FnD) (bud : Int) : ∀ (n fn : Nat) (room : Int) (l cs : List CodeD), 0 ≤ room → room ≤ 1000 → layAll p bud n fn room l = some cs → (∀ c ∈ l, CodeBd c) → (∀ c ∈ cs, CodeBd c) ∧ cs.length = l.length + n
  | 0, _, _, l, cs, _, _, h, hl => by
    obtain rfl : l = cs := Option.some.inj h
    exact ⟨hl, rfl⟩
  | n + 1, fn, room, l, cs, h0, h1, h, hl => by
    unfold layAll at h
    split at h
    · cases h
    · next hr =>
      have hb := layI_bnd p bud 12 fn [] ⟨room, [], []⟩ ⟨by dsimp only; omega, by dsimp only [List.length_nil]; omega, by simp⟩
      obtain ⟨b1, b2, b3⟩ := hb
      have ih := layAll_bd p bud n (fn + 1) _ _ cs (by omega) (by omega) h (fun c hc => by
        rcases List.mem_append.1 hc with g | g
        · exact hl c g
        · rw [List.mem_singleton.1 g]
          exact ⟨by dsimp only; omega, by dsimp only; omega, by dsimp only; omega⟩)
      refine ⟨ih.1, ?_⟩
      rw [ih.2, List.length_append]
      simp
      omega
theorem codesD_bd {p : List FnD} {bud : Int} {cs : List CodeD} (h : codesD p bud = some cs) : (∀ c ∈ cs, CodeBd c) ∧ cs.length = p.length := by
  have := layAll_bd p bud p.length 0 1000 [] cs (by decide) (by decide) h (fun c hc => by simp at hc)
  exact ⟨this.1, by rw [this.2]; simp⟩
theorem placeOf_le (inst op : Int) : ∀ l : List PlD, placeOf inst op l ≤ l.length
  | [] => Nat.le_refl _
  | x :: r => by
    unfold placeOf
    split
    · omega
    · have := placeOf_le inst op r
      simp
      omega

def noCode : CodeD := ⟨0, [], []⟩
def codeAt (cs : List CodeD) (fn : Int) (c : CodeD) (k : Nat) : CodeD := if k = 0 then (cs[fn.toNat]?).getD noCode else c
/-- The pcs of the physical frames, the outermost first, behind those in l. -/
def pcsF (cs : List CodeD) : List (Int × Int) → CodeD → Nat → List Int → List Int
  | [], _, _, l => l
  | x :: r, c, k, l =>
    if r.length = 0 then l ++ [(codeAt cs x.1 c k).first + placeOf k x.2 (codeAt cs x.1 c k).places] else
    if begunAt (placeOf k x.2 (codeAt cs x.1 c k).places : Nat) (codeAt cs x.1 c k).tree 0 = 0 then pcsF cs r (codeAt cs x.1 c k) 0 (l ++ [(codeAt cs x.1 c k).first + placeOf k x.2 (codeAt cs x.1 c k).places + 1]) else
    pcsF cs r (codeAt cs x.1 c k) (begunAt (placeOf k x.2 (codeAt cs x.1 c k).places : Nat) (codeAt cs x.1 c k).tree 0) l
def spot (x : LiveD) : Int × Int := (x.fn, x.next)
def pcsD (cs : List CodeD) (live : List LiveD) : List Int := (pcsF cs (live.map spot) noCode 0 []).reverse
end Go.Proofs.YtffnfjkjlmlonaaGreatDoor
namespace Go.Proofs.YtffnfjkjlmlonaaGreatDoor
open Go.RowKit

theorem Tryz.infoSpot : (Tryz.prog.info? 240).map (fun i => (i.zero, i.size, i.bytes)) = some (some (.agg #[.int .i64 0, .int .i64 0]), 2, 16) := by kernel_rfl

set_option maxHeartbeats 4000000 in
set_option maxRecDepth 100000 in
theorem Spots_any (X : RX) (w0 : World) (P : List FnD) (rb : Nat) (s : StandD) (w : World) (hgd : Good P) (hw : Wf P s) (hR : RunAt X w0 P rb w s) :
    Calls Tryz.prog 178 #[.pointer (some ⟨rb, 0, none⟩)] w fun e w' => ∃ a cap, e = .returned (.slice a s.live.length cap) ∧
      w'.ownsRow w.heap.size 240 2 (.slice a s.live.length cap) s.live.length ((s.live.map spot).map ndCells).flatten ∧ Below w.heap.size w w' := by
  obtain ⟨pa, pcap, fv, hk, hp0, hb, hrb, hown0, hvr, hkx⟩ := hR
  have HLV := hid hw.live
  have HG := hid hgd
  have hlen := hw.len
  obtain ⟨st, sv, live⟩ := s
  simp only at *
  obtain ⟨nl, hnl⟩ : ∃ v, v = live.length := ⟨_, rfl⟩
  rw [← hnl] at hown0 hlen ⊢
  obtain ⟨va, vcap, rfl, hvc, hvm, hvg⟩ : ∃ va vcap, fv = .slice va nl vcap ∧ nl ≤ vcap ∧ vcap ≤ maxLen ∧ (0 < nl → ∃ g, va = some ⟨g, 0, none⟩) := by
    rcases hown0.2 with ⟨h1, h2⟩ | ⟨g, c', cur, h1, _, _, h3, h4, _⟩
    · exact ⟨none, 0, by rw [h1, h2], by omega, by unfold maxLen; omega, fun h => by omega⟩
    · exact ⟨_, c', h1, h3, h4, fun _ => ⟨g, rfl⟩⟩
  have HNL := hid hnl
  have HROW : Hid (∀ k x g, live[k]? = some x → x.locals.length ≤ 8 → va = some ⟨g, 0, none⟩ → ∀ i u, (frmCells x)[i]? = some u → w.cell? ⟨g, k * 10 + i, none⟩ = some u) := fun k x g hx h8 hva i u hu => by
    subst hva
    have hkl : k < live.length := (List.getElem?_eq_some_iff.1 hx).1
    have hi : i < 10 := by
      have := (List.getElem?_eq_some_iff.1 hu).1
      simp [frmCells, pad8_len h8] at this; omega
    have hall : ∀ c ∈ live.map frmCells, c.length = 10 := fun c hc => by
      obtain ⟨y, hy, rfl⟩ := List.mem_map.1 hc
      simp [frmCells, pad8_len (wf8' HG.out (HLV.out y hy))]
    rw [hown0.cellAt (k * 10 + i) (by omega), flatten_get 10 _ k i hall (by simpa using hkl) hi]
    simp only [List.getD, List.getElem?_map, hx, Option.map_some, Option.getD_some]
    exact hu
  unfold maxLen at hvm
  have r1 : w.cell? ⟨rb, 1, none⟩ = some (.slice va nl vcap) := by simp [World.cell?, hk]
  clear hnl hown0 hp0 hw hgd hk hb hvr hkx
  go_enter Tryz.func178, Tryz.ntmps178
  have hrlt := World.block_lt_of_cell? w _ r1
  simp only at hrlt
  obtain ⟨sp, hsp⟩ : ∃ v, v = live.map spot := ⟨_, rfl⟩
  rw [← hsp]
  have hspl : sp.length = nl := by rw [hsp, HNL.out]; simp
  have HSP : Hid (∀ k x, live[k]? = some x → sp[k]? = some (spot x)) := fun k x hx => by rw [hsp, List.getElem?_map, hx]; rfl
  clear hsp
  obtain ⟨i0, hi, hz0, hz1, hz2⟩ := info_parts Tryz.infoSpot
  go_wp2
  go_loopw [3, 11] (fun lv i wr => ∃ j : Nat, i = .int .i64 j ∧ j ≤ nl ∧ wr.ownsRow w.heap.size 240 2 lv j ((sp.take j).map ndCells).flatten ∧ Below w.heap.size w wr) (fun _ i _ => nl - (intOf i).toNat)
  case atStart => exact ⟨0, rfl, by omega, World.ownsRow_nil _ _ _ _, Below.refl _ _⟩
  case round =>
    obtain ⟨j, rfl, hj, hown, hbel⟩ := hrel
    have hsw := hbel.size
    by_cases hjn : j < nl
    · have hjn' : (j : Int) < (nl : Int) := by omega
      obtain ⟨x, hx⟩ : ∃ x, live[j]? = some x := ⟨_, List.getElem?_eq_getElem (by rw [← HNL.out]; exact hjn)⟩
      have hwx := HLV.out x (List.mem_of_getElem? hx)
      have hx8 := wf8' HG.out hwx
      obtain ⟨g, rfl⟩ := hvg (by omega)
      have hcell := HROW.out j x g hx hx8 rfl
      have hsx := HSP.out j x hx
      obtain ⟨l0, l1, l2, l3, l4, l5, l6, l7, hpad⟩ := frm_array x hx8
      have hfc : frmCells x = [.int .i64 x.fn, .int .i64 x.next, .int .i64 l0, .int .i64 l1, .int .i64 l2, .int .i64 l3, .int .i64 l4, .int .i64 l5, .int .i64 l6, .int .i64 l7] := by unfold frmCells; rw [hpad]; rfl
      rw [hfc] at hcell
      have up : ∀ (q : Addr) (u : Value), w.cell? q = some u → wr.cell? q = some u := fun q u h => (hbel.cell (World.block_lt_of_cell? w _ h)).trans h
      have t0 : wr.cell? ⟨g, j * 10, none⟩ = some (.int .i64 x.fn) := up _ _ (hcell 0 _ rfl)
      have t1 : wr.cell? ⟨g, j * 10 + 1, none⟩ = some (.int .i64 x.next) := up _ _ (hcell 1 _ rfl)
      have t2 : wr.cell? ⟨g, j * 10 + 2, none⟩ = some (.int .i64 l0) := up _ _ (hcell 2 _ rfl)
      have t3 : wr.cell? ⟨g, j * 10 + 3, none⟩ = some (.int .i64 l1) := up _ _ (hcell 3 _ rfl)
      have t4 : wr.cell? ⟨g, j * 10 + 4, none⟩ = some (.int .i64 l2) := up _ _ (hcell 4 _ rfl)
      have t5 : wr.cell? ⟨g, j * 10 + 5, none⟩ = some (.int .i64 l3) := up _ _ (hcell 5 _ rfl)
      have t6 : wr.cell? ⟨g, j * 10 + 6, none⟩ = some (.int .i64 l4) := up _ _ (hcell 6 _ rfl)
      have t7 : wr.cell? ⟨g, j * 10 + 7, none⟩ = some (.int .i64 l5) := up _ _ (hcell 7 _ rfl)
      have t8 : wr.cell? ⟨g, j * 10 + 8, none⟩ = some (.int .i64 l6) := up _ _ (hcell 8 _ rfl)
      have t9 : wr.cell? ⟨g, j * 10 + 9, none⟩ = some (.int .i64 l7) := up _ _ (hcell 9 _ rfl)
      have ltg := World.block_lt_of_cell? wr _ t0
      simp only at ltg
      have hfl2 : ((sp.take j).map ndCells).flatten ++ [.int .i64 x.fn, .int .i64 x.next] = ((sp.take (j + 1)).map ndCells).flatten := by
        obtain ⟨hjf, he⟩ := List.getElem?_eq_some_iff.1 hsx
        rw [List.take_succ_eq_append_getElem hjf, he, List.map_append, List.flatten_append]
        simp [ndCells, spot]
      have HF2 := hid hfl2
      have HOW := hid hown
      obtain ⟨xf, xn, xl⟩ := x
      dsimp only at *
      clear hfl2 hcell up hwx hx hsx hfc hpad hown
      go_wp2_with (at_builtin; refine wpList_append_lies _ rfl (.tmp 15) (.tmp 21) 237 rfl w.heap.size 240 i0 (.agg #[.int .i64 0, .int .i64 0]) 2 16 Tryz.underlying237 hi hz0 hz1 hz2 rfl (by decide) _ _ _ rfl ((HOW.out.alloc _).alloc _) ⟨wr.heap.size + 1, 0, none⟩ 1 1 [.int .i64 xf, .int .i64 xn] rfl rfl (new2_at (by simp) _ _ _) (one2 _ _) (by decide) (by unfold maxLen; omega) (by omega) (by simp; omega) _ rfl ?_)
      intro g' cap' w5 hown5 hgrow5 hat5 hlt5
      rw [← List.map_take, HF2.out] at hown5
      have hb5 : Below w.heap.size w w5 := ((hbel.alloc hsw _).alloc (by simp; omega) _).grown hgrow5 (by simp; omega) (fun k hk => (HOW.out.lt k hk).1)
      have HO5 := hid hown5
      have HB5 := hid hb5
      clear hown5 hgrow5 hat5 hlt5 hb5 HOW
      go_wp2
      go_roundw
      case rel => exact ⟨j + 1, by go_num, by omega, HO5.out, HB5.out⟩
      case measure => simp [intOf]; omega
    · have hje : j = nl := by omega
      subst hje
      have hjn' : decide ((j : Int) < (j : Int)) = false := by simp
      have htk : sp.take j = sp := List.take_of_length_le (by rw [hspl]; exact Nat.le_refl _)
      rw [htk] at hown
      obtain ⟨la, lcap, rfl⟩ : ∃ la lcap, u3 = .slice la j lcap := by
        rcases hown.2 with ⟨h1, h2⟩ | ⟨g, c', cur, h1, _⟩
        · exact ⟨none, 0, by rw [h1, h2]⟩
        · exact ⟨_, _, h1⟩
      have HOW := hid hown
      clear hown htk
      go_wp2
      exact bodyPost_ret (v := .slice la j lcap) (by simp [results, Tryz.results178, go_sem]) rfl ⟨la, lcap, rfl, HOW.out, hbel⟩

theorem new1_at {w : World} {n : Nat} (h : w.heap.size = n) (a : Value) (t : TypeId) : ∀ j u, [a][j]? = some u → (w.alloc (.cells #[a] t)).cell? ((⟨n, 0, none⟩ : Addr).add j) = some u := by
  subst h
  intro j u hu
  match j, hu with
  | 0, hu => simp at hu; subst hu; simp [Addr.add]
theorem one1 (a : Int) : ∀ u ∈ [Value.int .i64 a], u.oneCell' = true := by
  intro u hu; simp at hu; subst hu; rfl

set_option maxHeartbeats 4000000 in
set_option maxRecDepth 100000 in
theorem reversed_any (a : Option Addr) (cap : Nat) (l : List Int) (w : World) (hl : Rd .i64 w a l.length cap l) (h20 : l.length ≤ 1000) :
    Calls Tryz.prog 181 #[.slice a l.length cap] w fun e w' => ∃ a' cap', e = .returned (.slice a' l.length cap') ∧ w'.ownsRow w.heap.size 3 1 (.slice a' l.length cap') l.length (ints l.reverse) ∧ Below w.heap.size w w' := by
  have HL := hid hl
  have hcap := hl.hcap
  have hmax := hl.hmax
  unfold maxLen at hmax
  obtain ⟨n, hn⟩ : ∃ v, v = l.length := ⟨_, rfl⟩
  rw [← hn] at HL hcap h20 ⊢
  have HN := hid hn
  clear hl hn
  go_enter Tryz.func181, Tryz.ntmps181
  obtain ⟨i0, hi, hz0, hz1, hz2⟩ := info_parts Tryz.infoInt
  have ew : IntKind.i64.wrap ((n : Int) - 1) = (n : Int) - 1 := by rw [IntKind.wrap_i64]; omega
  go_wp2
  clear ew
  go_loopw [3, 4] (fun lv i wr => ∃ j : Nat, i = .int .i64 ((n : Int) - 1 - j) ∧ j ≤ n ∧ wr.ownsRow w.heap.size 3 1 lv j (ints (l.reverse.take j)) ∧ Below w.heap.size w wr) (fun _ i _ => (intOf i + 1).toNat)
  case atStart => exact ⟨0, by simp, by omega, World.ownsRow_nil _ _ _ _, Below.refl _ _⟩
  case round =>
    obtain ⟨j, rfl, hj, hown, hbel⟩ := hrel
    have hsw := hbel.size
    by_cases hjn : j < n
    · obtain ⟨k, hk⟩ : ∃ k, k = n - 1 - j := ⟨_, rfl⟩
      have hki : (n : Int) - 1 - j = (k : Int) := by omega
      rw [hki]
      have hkn : (k : Int) < (n : Int) := by omega
      have hkn2 : k < n := by omega
      have hk0 : (0 : Int) ≤ (k : Int) := by omega
      obtain ⟨b, off, rfl, c0⟩ := HL.out.cell k hkn2
      have t0 : wr.cell? ⟨b, off + k, none⟩ = some (.int .i64 (l.getD k 0)) := (hbel.cell (World.block_lt_of_cell? w _ c0)).trans c0
      have ltb := World.block_lt_of_cell? wr _ t0
      simp only at ltb
      have hfl2 : ints (l.reverse.take j) ++ [.int .i64 (l.getD k 0)] = ints (l.reverse.take (j + 1)) := by
        have hjl : j < l.reverse.length := by rw [List.length_reverse, ← HN.out]; exact hjn
        rw [List.take_succ_eq_append_getElem hjl]
        have he : l.reverse[j] = l.getD k 0 := by
          rw [List.getElem_reverse]
          have : l.length - 1 - j = k := by rw [← HN.out]; omega
          simp only [this, List.getD]
          rw [List.getElem?_eq_getElem (by rw [← HN.out]; exact hkn2)]
          rfl
        rw [he]
        simp [ints]
      have HF2 := hid hfl2
      have HOW := hid hown
      generalize l.getD k 0 = vv at *
      have ew : IntKind.i64.wrap ((k : Int) - 1) = (k : Int) - 1 := by rw [IntKind.wrap_i64]; omega
      clear hfl2 hown c0 hk
      go_wp2_with (at_builtin; refine wpList_append_own _ rfl (.tmp 12) (.tmp 17) 35 rfl w.heap.size 3 i0 (.int .i64 0) 1 8 Tryz.underlying35 hi hz0 hz1 hz2 rfl (by decide) _ _ _ rfl (HOW.out.alloc _) ⟨wr.heap.size, 0, none⟩ 1 1 [.int .i64 vv] rfl rfl (new1_at rfl _ _) (one1 _) (by unfold maxLen; omega) (by omega) (by simp; omega) ?_)
      intro v5 w5 hown5 hgrow5 _
      rw [HF2.out] at hown5
      have hb5 : Below w.heap.size w w5 := (hbel.alloc hsw _).grown hgrow5 (by simp; omega) (fun k hk => (HOW.out.lt k hk).1)
      have HO5 := hid hown5
      have HB5 := hid hb5
      clear hown5 hgrow5 hb5 HOW
      go_wp2
      go_roundw
      case rel => exact ⟨j + 1, by first | (rw [← hki]; congr 1; omega) | (congr 1; omega), by omega, HO5.out, HB5.out⟩
      case measure => simp [intOf] <;> omega
    · have hje : j = n := by omega
      subst hje
      have hneg : ((j : Int) - 1 - j) = -1 := by omega
      rw [hneg]
      have htk : l.reverse.take j = l.reverse := List.take_of_length_le (by rw [List.length_reverse, ← HN.out]; exact Nat.le_refl _)
      rw [htk] at hown
      obtain ⟨la, lcap, rfl⟩ : ∃ la lcap, u3 = .slice la j lcap := by
        rcases hown.2 with ⟨h1, h2⟩ | ⟨g, c', cur, h1, _⟩
        · exact ⟨none, 0, by rw [h1, h2]⟩
        · exact ⟨_, _, h1⟩
      have HOW := hid hown
      clear hown htk
      go_wp2
      exact bodyPost_ret (v := .slice la j lcap) (by simp [results, Tryz.results181, go_sem]) rfl ⟨la, lcap, rfl, HOW.out, hbel⟩
end Go.Proofs.YtffnfjkjlmlonaaGreatDoor
namespace Go.Proofs.YtffnfjkjlmlonaaGreatDoor
open Go.RowKit

/-- A frame that may be told. -/
def FrOk (f : FrameD) : Prop := (wordB f.func = true ∧ f.func.size ≤ 20) ∧ (wordB f.file = true ∧ f.file.size ≤ 20) ∧ 1 ≤ f.line ∧ f.line ≤ 9999
/-- The line of a frame, and all lines. -/
def lineD (f : FrameD) : List Int := byteL f.func ++ ([32] ++ (byteL f.file ++ ([58] ++ (byteL ⟨(Lib.itoa f.line).toArray⟩ ++ [10]))))
def printD (l : List FrameD) : List Int := l.flatMap lineD
/-- The table that numbers are written by, as it is laid. -/
def Tab (w : World) : Prop := Lib.TabIs Tryz.prog w "internal/strconv.uint64pow10" .u64 Lib.pow10Tab
theorem Tab.below {w w' : World} (h : Tab w) (hb : Below w.heap.size w w') : Tab w' := Lib.tabBelow_of_tabIs h w' hb

set_option maxHeartbeats 2000000 in
set_option maxRecDepth 100000 in
theorem frMay_true (f : FrameD) (w : World) (h : FrOk f) :
    Calls Tryz.prog 162 #[.agg #[.string f.func, .string f.file, .int .i64 f.line]] w fun e w' => e = .returned (.bool true) ∧ Below w.heap.size w w' := by
  obtain ⟨⟨h1, h2⟩, ⟨h3, h4⟩, h5, h6⟩ := h
  have H1 := hid (fun W => isWord_any f.func W (by unfold maxLen; omega))
  have H2 := hid (fun W => isWord_any f.file W (by unfold maxLen; omega))
  rw [h1] at H1
  rw [h3] at H2
  generalize f.func = a at *
  generalize f.file = b at *
  generalize f.line = c at *
  obtain ⟨wA, hwA⟩ : ∃ v, v = w.alloc (Obj.cells #[.string a, .string b, .int .i64 c] 107) := ⟨_, rfl⟩
  have hbA : Below w.heap.size w wA := by rw [hwA]; exact (Below.refl _ _).alloc (Nat.le_refl _) _
  have hsA : wA.heap.size = w.heap.size + 1 := by rw [hwA]; simp
  have kA : wA.heap[w.heap.size]? = some (.cells #[.string a, .string b, .int .i64 c] 107 (0, 0)) := by rw [hwA]; exact heap_new_at rfl
  have HK := hid kA
  clear h1 h3 kA
  go_enter Tryz.func162, Tryz.ntmps162
  go_wp2_with fail
  rw [← hwA]
  clear hwA
  refine (H1.out wA).mono ?_
  rintro e w1 ⟨rfl, b1⟩
  have s1 := b1.size
  have k1 := (b1.block w.heap.size (by omega)).trans HK.out
  have c1 : w1.cell? ⟨w.heap.size, 1, none⟩ = some (.string b) := by simp [World.cell?, k1]
  go_wp2_with fail
  refine (H2.out w1).mono ?_
  rintro e w2 ⟨rfl, b2⟩
  have k2 := (b2.block w.heap.size (by omega)).trans k1
  have c2 : w2.cell? ⟨w.heap.size, 2, none⟩ = some (.int .i64 c) := by simp [World.cell?, k2]
  have hB : Below w.heap.size w w2 := (hbA.trans (b1.mono hbA.size)).trans (b2.mono (by omega))
  clear b1 b2 k1 k2
  go_wp2
  go_ret
  exact ⟨by simp, hB⟩

theorem lineD_len {f : FrameD} (h : FrOk f) : (lineD f).length ≤ 64 := by
  obtain ⟨⟨-, h1⟩, ⟨-, h2⟩, h3, h4⟩ := h
  have hil := Lib.itoa_length_le f.line (by omega) (by omega)
  have hs : (⟨(Lib.itoa f.line).toArray⟩ : ByteArray).size ≤ 21 := by
    show (Lib.itoa f.line).toArray.size ≤ 21
    rw [List.size_toArray]; exact hil
  unfold lineD
  simp only [List.length_append, byteL_len, List.length_cons, List.length_nil]
  omega
theorem printD_len : ∀ l : List FrameD, (∀ f ∈ l, FrOk f) → (printD l).length ≤ 64 * l.length
  | [], _ => Nat.zero_le _
  | f :: r, h => by
    have ih := printD_len r (fun x hx => h x (List.mem_cons_of_mem _ hx))
    have h0 := lineD_len (h f (List.mem_cons_self ..))
    have e : printD (f :: r) = lineD f ++ printD r := rfl
    rw [e, List.length_append, List.length_cons]
    omega

set_option maxHeartbeats 4000000 in
set_option maxRecDepth 100000 in
theorem fPrint_any (a : Option Addr) (cap : Nat) (fr : List FrameD) (w : World) (hr : RdL 3 RdFrame w a fr.length cap fr) (hok : ∀ f ∈ fr, FrOk f) (h20 : fr.length ≤ 20) (ht : Tab w) :
    Calls Tryz.prog 106 #[.slice a fr.length cap] w fun e w' => e = .returned (.tuple #[.string (strOfNums (printD fr)), .int .i64 0]) ∧ Below w.heap.size w w' := by
  have HR := hid hr
  have HOK := hid hok
  have HT := hid ht
  have hc1 := hr.2.1
  have hc2 := hr.2.2.1
  unfold maxLen at hc2
  obtain ⟨n, hn⟩ : ∃ v, v = fr.length := ⟨_, rfl⟩
  rw [← hn] at HR hc1 h20 ⊢
  have HN := hid hn
  obtain ⟨i0, hi, hz0, hz1, hz2⟩ := info_parts Tryz.infoByte
  clear hr hok ht hn
  go_enter Tryz.func106, Tryz.ntmps106
  go_wp2
  go_loopw [4, 6, 9] (fun bv _ i wr => ∃ k : Nat, i = .int .i64 k ∧ k ≤ n ∧ wr.ownsRow w.heap.size 5 1 bv (printD (fr.take k)).length (u8s (printD (fr.take k))) ∧ Below w.heap.size w wr) (fun _ _ i _ => n - (intOf i).toNat)
  case atStart => exact ⟨0, rfl, by omega, World.ownsRow_nil _ _ _ _, Below.refl _ _⟩
  case round =>
    obtain ⟨k, rfl, hk, hown, hbel⟩ := hrel
    have hsz := hbel.size
    by_cases hkn : k < n
    · have hkn' : (k : Int) < (n : Int) := by omega
      obtain ⟨f, hf⟩ : ∃ f, fr[k]? = some f := ⟨_, List.getElem?_eq_getElem (by rw [← HN.out]; exact hkn)⟩
      have hfo := HOK.out f (List.mem_of_getElem? hf)
      obtain ⟨b0, off, cs, rfl, -, hc, rfl⟩ := (HR.out.below hbel (fun _ _ h => h)).2.2.2 k f hf
      have c0 := hc 0 _ rfl
      have c1 := hc 1 _ rfl
      have c2 := hc 2 _ rfl
      have hb0 : b0 < wr.heap.size := World.block_lt_of_cell? wr _ c0
      rw [Nat.add_zero] at c0
      have HM := hid (fun W => frMay_true f W hfo)
      have hpl : (printD (fr.take k)).length ≤ 64 * k := by
        have h := printD_len (fr.take k) (fun x hx => HOK.out x (List.mem_of_mem_take hx))
        rw [List.length_take] at h
        have : min k fr.length ≤ k := Nat.min_le_left _ _
        omega
      have HNEXT : Hid (u8s (printD (fr.take (k + 1))) = u8s (printD (fr.take k)) ++ u8s (lineD f) ∧ (printD (fr.take (k + 1))).length = (printD (fr.take k)).length + (lineD f).length) := hid (by
        obtain ⟨hlt, he⟩ := List.getElem?_eq_some_iff.1 hf
        have e : printD (fr.take (k + 1)) = printD (fr.take k) ++ lineD f := by
          rw [List.take_succ_eq_append_getElem hlt, he]
          unfold printD
          rw [List.flatMap_append]
          simp
        exact ⟨by rw [e, u8s_append], by rw [e, List.length_append]⟩)
      obtain ⟨⟨-, hf1⟩, ⟨-, hf2⟩, hf3, hf4⟩ := hfo
      have HIT := hid (fun (W : World) (hW : Below w.heap.size w W) => Tryz.strconv_Itoa f.line (by omega) (by omega) W (HT.out.below hW))
      have hil := Lib.itoa_length_le f.line (by omega) (by omega)
      have HLN : Hid (u8s (lineD f) = Lib.strCells f.func ++ ([.int .u8 32] ++ (Lib.strCells f.file ++ ([.int .u8 58] ++ (Lib.strCells ⟨(Lib.itoa f.line).toArray⟩ ++ [.int .u8 10])))) ∧ (lineD f).length = f.func.size + (1 + (f.file.size + (1 + ((⟨(Lib.itoa f.line).toArray⟩ : ByteArray).size + 1))))) := hid (by
        unfold lineD
        simp only [u8s_append, strCells_u8s, List.length_append, byteL_len]
        exact ⟨rfl, rfl⟩)
      have hsn : (⟨(Lib.itoa f.line).toArray⟩ : ByteArray).size ≤ 21 := by
        show (Lib.itoa f.line).toArray.size ≤ 21
        rw [List.size_toArray]; exact hil
      generalize (⟨(Lib.itoa f.line).toArray⟩ : ByteArray) = sn at *
      generalize lineD f = LD at *
      generalize f.func = fn at *
      generalize f.file = fl at *
      generalize f.line = ln at *
      obtain ⟨P0, hP0⟩ : ∃ v, v = printD (fr.take k) := ⟨_, rfl⟩
      rw [← hP0] at hown hpl HNEXT
      obtain ⟨N0, hN0⟩ : ∃ v, v = P0.length := ⟨_, rfl⟩
      rw [← hN0] at hown hpl HNEXT
      obtain ⟨w2, hw2⟩ : ∃ v, v = wr.alloc (Obj.cells #[.string fn, .string fl, .int .i64 ln] 107) := ⟨_, rfl⟩
      have hb2 : Below wr.heap.size wr w2 := by rw [hw2]; exact (Below.refl _ _).alloc (Nat.le_refl _) _
      have hs2 : w2.heap.size = wr.heap.size + 1 := by rw [hw2]; simp
      have k2 : w2.heap[wr.heap.size]? = some (.cells #[.string fn, .string fl, .int .i64 ln] 107 (0, 0)) := by rw [hw2]; exact heap_new_at rfl
      have HOW := hid hown
      have HBEL := hid hbel
      have HK2 := hid k2
      have HB2 := hid hb2
      clear hown hbel hf hP0 hN0 hc k2 hb2 hil
      go_wp2_with fail
      rw [← hw2]
      clear hw2
      refine (HM.out w2).mono ?_
      rintro e w3 ⟨rfl, hb3⟩
      have hb23 : Below wr.heap.size wr w3 := HB2.out.trans (hb3.mono HB2.out.size)
      have k3 := (hb3.block wr.heap.size (by omega)).trans HK2.out
      have f3a : w3.cell? ⟨wr.heap.size, 1, none⟩ = some (.string fl) := by simp [World.cell?, k3]
      have f3b : w3.cell? ⟨wr.heap.size, 2, none⟩ = some (.int .i64 ln) := by simp [World.cell?, k3]
      have f3c : w3.cell? ⟨wr.heap.size, 0, none⟩ = some (.string fn) := by simp [World.cell?, k3]
      have lt3 : wr.heap.size < w3.heap.size := (Array.getElem?_eq_some_iff.1 k3).1
      have HK3 := hid k3
      have HO3 := hid (ownsRow_below HOW.out hb23)
      have HB3 := hid (HBEL.out.trans (hb23.mono hsz))
      have hs3 : w.heap.size ≤ w3.heap.size := by omega
      clear hb3 hb23 k3 c0 c1 c2 HM
      go_wp2_with (at_builtin; refine Lib.wpList_append_own_string _ rfl (.tmp 16) (.tmp 18) 36 9 rfl w.heap.size 5 i0 Tryz.underlying36 Tryz.underlying9 hi hz0 hz1 hz2 _ _ _ rfl HO3.out fn rfl (by unfold maxLen; omega) (by omega) hs3 ?_)
      intro v4 w4 hown4 hgrow4 _
      have k4 : w4.heap[wr.heap.size]? = some (.cells #[.string fn, .string fl, .int .i64 ln] 107 (0, 0)) := (hgrow4.block wr.heap.size lt3 (fun e => owns_other' HO3.out HK3.out (by decide) e)).trans HK3.out
      have hs4 : w.heap.size ≤ w4.heap.size := by have := hgrow4.size; omega
      have hb4 : Below w.heap.size w w4 := HB3.out.grown hgrow4 hs3 (fun k hk => (HO3.out.lt k hk).1)
      have lt4 : wr.heap.size < w4.heap.size := (Array.getElem?_eq_some_iff.1 k4).1
      have HO4 := hid hown4
      have HK4 := hid k4
      have HB4 := hid hb4
      have f4a : w4.cell? ⟨wr.heap.size, 1, none⟩ = some (.string fl) := by simp [World.cell?, k4]
      have f4b : w4.cell? ⟨wr.heap.size, 2, none⟩ = some (.int .i64 ln) := by simp [World.cell?, k4]
      clear hown4 hgrow4 k4 hb4 HO3 HK3 HB3 f3a f3b f3c
      go_wp2_with (at_builtin; refine wpList_append_own _ rfl (.tmp 20) (.tmp 21) 36 rfl w.heap.size 5 i0 (.int .u8 0) 1 1 Tryz.underlying36 hi hz0 hz1 hz2 rfl (by decide) _ _ _ rfl (HO4.out.alloc _) ⟨w4.heap.size, 0, none⟩ 1 1 [.int .u8 32] rfl rfl (new1_at rfl _ _) (fun u hu => by rw [List.mem_singleton.1 hu]; rfl) (by unfold maxLen; omega) (by omega) (by simp; omega) ?_)
      intro v5 w5 hown5 hgrow5 _
      have k5 : w5.heap[wr.heap.size]? = some (.cells #[.string fn, .string fl, .int .i64 ln] 107 (0, 0)) := (hgrow5.block wr.heap.size (by simp; omega) (fun e => owns_other' HO4.out HK4.out (by decide) e)).trans (heap_at1 lt4 HK4.out)
      have hs5 : w.heap.size ≤ w5.heap.size := by have := hgrow5.size; simp at this; omega
      have hb5 : Below w.heap.size w w5 := (HB4.out.alloc hs4 _).grown hgrow5 (by simp; omega) (fun k hk => (HO4.out.lt k hk).1)
      have lt5 : wr.heap.size < w5.heap.size := (Array.getElem?_eq_some_iff.1 k5).1
      have HO5 := hid hown5
      have HK5 := hid k5
      have HB5 := hid hb5
      have f5a : w5.cell? ⟨wr.heap.size, 1, none⟩ = some (.string fl) := by simp [World.cell?, k5]
      have f5b : w5.cell? ⟨wr.heap.size, 2, none⟩ = some (.int .i64 ln) := by simp [World.cell?, k5]
      clear hown5 hgrow5 k5 hb5 HO4 HK4 HB4 f4a f4b
      go_wp2_with (at_builtin; refine Lib.wpList_append_own_string _ rfl (.tmp 23) (.tmp 25) 36 9 rfl w.heap.size 5 i0 Tryz.underlying36 Tryz.underlying9 hi hz0 hz1 hz2 _ _ _ rfl HO5.out fl rfl (by unfold maxLen; omega) (by omega) hs5 ?_)
      intro v6 w6 hown6 hgrow6 _
      have k6 : w6.heap[wr.heap.size]? = some (.cells #[.string fn, .string fl, .int .i64 ln] 107 (0, 0)) := (hgrow6.block wr.heap.size lt5 (fun e => owns_other' HO5.out HK5.out (by decide) e)).trans HK5.out
      have hs6 : w.heap.size ≤ w6.heap.size := by have := hgrow6.size; omega
      have hb6 : Below w.heap.size w w6 := HB5.out.grown hgrow6 hs5 (fun k hk => (HO5.out.lt k hk).1)
      have lt6 : wr.heap.size < w6.heap.size := (Array.getElem?_eq_some_iff.1 k6).1
      have HO6 := hid hown6
      have HK6 := hid k6
      have HB6 := hid hb6
      have f6a : w6.cell? ⟨wr.heap.size, 1, none⟩ = some (.string fl) := by simp [World.cell?, k6]
      have f6b : w6.cell? ⟨wr.heap.size, 2, none⟩ = some (.int .i64 ln) := by simp [World.cell?, k6]
      clear hown6 hgrow6 k6 hb6 HO5 HK5 HB5 f5a f5b
      go_wp2_with (at_builtin; refine wpList_append_own _ rfl (.tmp 27) (.tmp 28) 36 rfl w.heap.size 5 i0 (.int .u8 0) 1 1 Tryz.underlying36 hi hz0 hz1 hz2 rfl (by decide) _ _ _ rfl (HO6.out.alloc _) ⟨w6.heap.size, 0, none⟩ 1 1 [.int .u8 58] rfl rfl (new1_at rfl _ _) (fun u hu => by rw [List.mem_singleton.1 hu]; rfl) (by unfold maxLen; omega) (by omega) (by simp; omega) ?_)
      intro v7 w7 hown7 hgrow7 _
      have k7 : w7.heap[wr.heap.size]? = some (.cells #[.string fn, .string fl, .int .i64 ln] 107 (0, 0)) := (hgrow7.block wr.heap.size (by simp; omega) (fun e => owns_other' HO6.out HK6.out (by decide) e)).trans (heap_at1 lt6 HK6.out)
      have hs7 : w.heap.size ≤ w7.heap.size := by have := hgrow7.size; simp at this; omega
      have hb7 : Below w.heap.size w w7 := (HB6.out.alloc hs6 _).grown hgrow7 (by simp; omega) (fun k hk => (HO6.out.lt k hk).1)
      have lt7 : wr.heap.size < w7.heap.size := (Array.getElem?_eq_some_iff.1 k7).1
      have HO7 := hid hown7
      have HK7 := hid k7
      have HB7 := hid hb7
      have f7a : w7.cell? ⟨wr.heap.size, 1, none⟩ = some (.string fl) := by simp [World.cell?, k7]
      have f7b : w7.cell? ⟨wr.heap.size, 2, none⟩ = some (.int .i64 ln) := by simp [World.cell?, k7]
      clear hown7 hgrow7 k7 hb7 HO6 HK6 HB6 f6a f6b
      go_wp2_with fail
      refine (HIT.out w7 HB7.out).mono ?_
      rintro e w8 ⟨rfl, kk, os, hw8⟩
      have hb78 : Below w7.heap.size w7 w8 := by rw [hw8]; exact Lib.below_grow _ _ (Nat.le_refl _) _ _
      have hs8 : w.heap.size ≤ w8.heap.size := by have := hb78.size; omega
      have HO8 := hid (ownsRow_below HO7.out hb78)
      have k8 := (hb78.block wr.heap.size lt7).trans HK7.out
      have HK8 := hid k8
      have HB8 := hid (HB7.out.trans (hb78.mono hs7))
      have lt8 : wr.heap.size < w8.heap.size := (Array.getElem?_eq_some_iff.1 k8).1
      clear hw8 hb78 k8 HO7 HK7 HB7 f7a f7b
      go_wp2_with (at_builtin; refine Lib.wpList_append_own_string _ rfl (.tmp 30) (.tmp 33) 36 9 rfl w.heap.size 5 i0 Tryz.underlying36 Tryz.underlying9 hi hz0 hz1 hz2 _ _ _ rfl HO8.out sn rfl (by unfold maxLen; omega) (by omega) hs8 ?_)
      intro v9 w9 hown9 hgrow9 _
      have k9 : w9.heap[wr.heap.size]? = some (.cells #[.string fn, .string fl, .int .i64 ln] 107 (0, 0)) := (hgrow9.block wr.heap.size lt8 (fun e => owns_other' HO8.out HK8.out (by decide) e)).trans HK8.out
      have hs9 : w.heap.size ≤ w9.heap.size := by have := hgrow9.size; omega
      have hb9 : Below w.heap.size w w9 := HB8.out.grown hgrow9 hs8 (fun k hk => (HO8.out.lt k hk).1)
      have lt9 : wr.heap.size < w9.heap.size := (Array.getElem?_eq_some_iff.1 k9).1
      have HO9 := hid hown9
      have HK9 := hid k9
      have HB9 := hid hb9
      have f9a : w9.cell? ⟨wr.heap.size, 1, none⟩ = some (.string fl) := by simp [World.cell?, k9]
      have f9b : w9.cell? ⟨wr.heap.size, 2, none⟩ = some (.int .i64 ln) := by simp [World.cell?, k9]
      clear hown9 hgrow9 k9 hb9 HO8 HK8 HB8 
      go_wp2_with (at_builtin; refine wpList_append_own _ rfl (.tmp 35) (.tmp 36) 36 rfl w.heap.size 5 i0 (.int .u8 0) 1 1 Tryz.underlying36 hi hz0 hz1 hz2 rfl (by decide) _ _ _ rfl (HO9.out.alloc _) ⟨w9.heap.size, 0, none⟩ 1 1 [.int .u8 10] rfl rfl (new1_at rfl _ _) (fun u hu => by rw [List.mem_singleton.1 hu]; rfl) (by unfold maxLen; omega) (by omega) (by simp; omega) ?_)
      intro v10 w10 hown10 hgrow10 _
      have k10 : w10.heap[wr.heap.size]? = some (.cells #[.string fn, .string fl, .int .i64 ln] 107 (0, 0)) := (hgrow10.block wr.heap.size (by simp; omega) (fun e => owns_other' HO9.out HK9.out (by decide) e)).trans (heap_at1 lt9 HK9.out)
      have hs10 : w.heap.size ≤ w10.heap.size := by have := hgrow10.size; simp at this; omega
      have hb10 : Below w.heap.size w w10 := (HB9.out.alloc hs9 _).grown hgrow10 (by simp; omega) (fun k hk => (HO9.out.lt k hk).1)
      have lt10 : wr.heap.size < w10.heap.size := (Array.getElem?_eq_some_iff.1 k10).1
      have HO10 := hid hown10
      have HK10 := hid k10
      have HB10 := hid hb10
      have f10a : w10.cell? ⟨wr.heap.size, 1, none⟩ = some (.string fl) := by simp [World.cell?, k10]
      have f10b : w10.cell? ⟨wr.heap.size, 2, none⟩ = some (.int .i64 ln) := by simp [World.cell?, k10]
      clear hown10 hgrow10 k10 hb10 HO9 HK9 HB9 f9a f9b
      go_wp2
      go_roundw
      case rel =>
        refine ⟨k + 1, by go_num, by omega, ?_, HB10.out⟩
        rw [HNEXT.out.1, HNEXT.out.2, HLN.out.1, HLN.out.2]
        have h := HO10.out
        simp only [Nat.add_assoc] at h ⊢
        exact h
      case measure => simp [intOf]; omega
    · have hkn' : decide ((k : Int) < (n : Int)) = false := by simp; omega
      have HKE : Hid (fr.take k = fr) := hid (List.take_of_length_le (by have := HN.out; omega))
      obtain ⟨va, vcap, rfl, hv1, hv2⟩ := owns_form hown
      unfold maxLen at hv2
      have HB := hid hbel
      have HP : Hid (printD (fr.take k) = printD fr) := hid (by rw [HKE.out])
      have hl : (printD (fr.take k)).length = (printD (fr.take k)).length := rfl
      rcases hown.2 with ⟨h1, h2⟩ | ⟨g, c', cur, h1, _⟩
      · simp only [Value.slice.injEq] at h1
        obtain ⟨rfl, -, rfl⟩ := h1
        have h0 : printD (fr.take k) = [] := List.length_eq_zero_iff.1 h2
        rw [h2]
        have HP0 : Hid (printD fr = []) := hid (by rw [← HP.out]; exact h0)
        clear hown hbel hl h2 h0 HP HKE
        have v0 := run_convert_bytes_nil (P := Tryz.prog) wr 36 5 Tryz.underlying36 Tryz.underlying5 0 0 9 Tryz.underlying9
        go_wp2
        exact bodyPost_ret (v := .tuple #[.string (strOfNums []), .int .i64 0]) (by simp [results, Tryz.results106, go_sem]; rfl) rfl ⟨by rw [HP0.out], HB.out⟩
      · simp only [Value.slice.injEq] at h1
        obtain ⟨rfl, -, rfl⟩ := h1
        have hcell : ∀ i, i < (printD (fr.take k)).length → wr.cell? ⟨g, 0 + i, none⟩ = some (.int .u8 ((printD (fr.take k)).getD i 0)) := fun i hi => by
          rw [Nat.zero_add, hown.cellAt i (by omega)]
          simp [u8s, List.getD, hi]
        have v1 := run_convert_bytes_arg (P := Tryz.prog) wr 36 5 Tryz.underlying36 Tryz.underlying5 g 0 (printD (fr.take k)).length vcap (printD (fr.take k)) rfl hcell 9 Tryz.underlying9
        rw [HP.out] at v1 ⊢
        clear hown hbel hcell hl HKE
        go_wp2
        exact bodyPost_ret (v := .tuple #[.string (strOfNums (printD fr)), .int .i64 0]) (by simp [results, Tryz.results106, go_sem]) rfl ⟨rfl, HB.out⟩
end Go.Proofs.YtffnfjkjlmlonaaGreatDoor
