/- Contracts of unfoldkeep's described and given. Contract of unfoldkeep's whole: a program made well-formed. The bytes of an image are bytes, and not too many of them. Contract of unfoldkeep's given: as many values as a program takes. A script's steps opened: out of the reading of what came in, how each step and its program lie in memory; of no program beyond the types' own tables. A program that came in opened: how it lies in memory, and that its numbers fit; of no program beyond the types' own tables. -/
import Derived.Test.YthaganponmnanaaGreatDoorZ43
import Derived.Test.YthaganponmnanaaGreatDoorT7
import Derived.Test.YthaganponmnanaaGreatDoorZ42
import Derived.Test.YthaganponmnanaaGreatDoorZ18
import Derived.Test.YthaganponmnanaaGreatDoorT6
import Derived.Test.YthaganponmnanaaGreatDoorZ24
import Derived.Test.YthaganponmnanaaGreatDoorZ1
import Derived.Deep.Slices
import Derived.SizedLaws
import Derived.ProofKit
import Derived.Test.YthaganponmnanaaGreatDoorZ38
import Derived.OpenShut
namespace Go.Proofs.YthaganponmnanaaGreatDoor
open Go.RowKit

end Go.Proofs.YthaganponmnanaaGreatDoor
namespace Go.Proofs.YthaganponmnanaaGreatDoor
open Go.RowKit

set_option maxHeartbeats 4000000 in
set_option maxRecDepth 100000 in
theorem whole_any (pa : Option Addr) (pcap : Nat) (p : List FnD) (w : World) (hp : RdP w pa p.length pcap p) (hraw : RawP p) :
    Calls Tryz.prog 4 #[.agg #[.slice pa p.length pcap]] w fun e w' => Below w.heap.size w w' ∧
      ∃ (q : List FnD) (a : Option Addr) (cap : Nat), e = .returned (.agg #[.slice a q.length cap]) ∧ chk q = (0, 0, 0) ∧ ∀ W : World, (∀ b, w.heap.size ≤ b → b < w'.heap.size → W.heap[b]? = w'.heap[b]?) → RdP W a q.length cap q := by
  obtain ⟨wb, hwb⟩ : ∃ v, v = (w.alloc (Obj.cells #[.slice pa p.length pcap] 24)).alloc (Obj.cells #[.slice none 0 0] 24) := ⟨_, rfl⟩
  have hbb : Below w.heap.size w wb := by rw [hwb]; exact ((Below.refl _ _).alloc (Nat.le_refl _) _).alloc (by simp) _
  have hbs : wb.heap.size = w.heap.size + 2 := by rw [hwb]; simp
  have k1 : wb.heap[w.heap.size + 1]? = some (.cells #[.slice none 0 0] 24 (0, 0)) := by rw [hwb]; exact heap_new_at (by simp)
  have HK1 := hid k1
  have HT := hid (tame_any pa pcap p 12 30 false wb (hp.below hbb) hraw (by omega) (by omega) (by omega) (by omega))
  have HBB := hid hbb
  generalize p.length = pl at *
  clear hp k1 hbb
  go_enter Tryz.func4, Tryz.ntmps4
  go_wp2_with fail
  rw [← hwb]
  clear hwb
  refine HT.out.mono ?_
  rintro e w1 ⟨hb1, l, q, a, cap, rfl, hok, h1, h2, hfit, hrd⟩
  have hs1 := hb1.size
  have hk1 := (hb1.block (w.heap.size + 1) (by omega)).trans HK1.out
  have r1 : w1.cell? ⟨w.heap.size + 1, 0, none⟩ = some (.slice none 0 0) := by simp [World.cell?, hk1]
  have t1 : w1.frozen? ⟨w.heap.size + 1, 0, none⟩ = false := by simp [World.frozen?, hk1]
  have HC := hid (fit_chk hfit hok h1 h2 (by omega))
  have HK := hid hk1
  have HRD := hid hrd
  have HB1 := hid hb1
  clear hb1 hok h1 h2 hfit hrd hk1
  go_wp2
  obtain ⟨wF, hwF⟩ : ∃ v, v = w1.setCell ⟨w.heap.size + 1, 0, none⟩ (.slice a q.length cap) := ⟨_, rfl⟩
  have hF := heap_setCell_same _ _ 0 _ _ (.slice a q.length cap) HK.out
  rw [← hwF] at hF ⊢
  have y0 : wF.cell? ⟨w.heap.size + 1, 0, none⟩ = some (.slice a q.length cap) := by simp [World.cell?, hF]
  refine bodyPost_ret (v := .agg #[.slice a q.length cap]) (by simp [results, Tryz.results4, go_sem, y0]) rfl ⟨?_, q, a, cap, rfl, HC.out, fun W hW => ?_⟩
  · rw [hwF]
    exact (HBB.out.trans (HB1.out.mono HBB.out.size)).setCell (p := ⟨w.heap.size + 1, 0, none⟩) (by simp) _
  · have hsz : wF.heap.size = w1.heap.size := by rw [hwF]; simp
    refine HRD.out W (fun b hb1 hb2 => ?_)
    rw [hW b (by omega) (by omega), hwF, Below.heap_setCell _ _ _ _ (by simp; omega)]
end Go.Proofs.YthaganponmnanaaGreatDoor
namespace Go.Proofs.YthaganponmnanaaGreatDoor
open Go.RowKit

def AllByte (l : List Int) : Prop := ∀ x ∈ l, 0 ≤ x ∧ x ≤ 255
theorem AllByte.app {a b : List Int} (ha : AllByte a) (hb : AllByte b) : AllByte (a ++ b) := fun x hx => (List.mem_append.1 hx).elim (ha x) (hb x)
theorem numB_byte {n : Int} (h0 : 0 ≤ n) (h1 : n ≤ 2147483647) : AllByte (numB n) := numF_byte 4 n h0 (by simp [lim]; omega)
theorem byteL_byte (s : ByteArray) : AllByte (byteL s) := fun x hx => by
  obtain ⟨c, -, rfl⟩ := List.mem_map.1 hx
  have := c.toNat_lt
  omega
theorem textB_byte {s : ByteArray} (h : s.size ≤ 20) : AllByte (textB s) := AllByte.app (numB_byte (by omega) (by omega)) (byteL_byte s)
theorem putS_all {l : List (Int × Int)} (h : wfT l = true) : AllByte (putS l (-1)) := by
  obtain ⟨⟨h1, h2⟩, -⟩ := (wfT_iff l).1 h
  exact putS_byte l (-1) h1 (by omega) (by omega) h2
theorem nodesB_byte {l : List (Int × Int)} (h : ∀ p ∈ l, 0 ≤ p.1 ∧ p.1 ≤ 2147483647 ∧ 0 ≤ p.2 ∧ p.2 ≤ 2147483647) : AllByte (nodesB l) := fun x hx => by
  obtain ⟨p, hp, hx⟩ := List.mem_flatMap.1 hx
  obtain ⟨a, b, c, d⟩ := h p hp
  exact AllByte.app (numB_byte a b) (numB_byte c d) x hx
theorem entB'_ok {x : EntD} (h : EntW x) {files : List ByteArray} (hf : files.length ≤ 100) : AllByte (entB' x files) ∧ (entB' x files).length ≤ 130000 := by
  constructor
  · have hp := plc_le x.file files
    refine AllByte.app (textB_byte h.name) (AllByte.app ?_ (AllByte.app (putS_all h.lines) (AllByte.app (putS_all h.index) (nodesB_byte ?_))))
    · unfold fileB
      refine AllByte.app (numB_byte (by omega) (by omega)) ?_
      split
      · exact textB_byte h.file
      · exact fun x hx => by cases hx
    · intro p hp
      obtain ⟨j, hj, rfl⟩ := List.getElem_of_mem hp
      have := h.tree j hj
      simpa [List.getD, hj] using this
  · have := (entX_le h (plc x.file files) (decide (plc x.file files = files.length))).2
    rw [entX_is] at this
    exact this
theorem encF_ok {n : Int} (hn : n ≤ 12) : ∀ (l : List EntD) (names files : List ByteArray) (room : Int), wfIF n l names room = true → files.length + l.length ≤ 100 → AllByte (encF l files) ∧ (encF l files).length ≤ 130000 * l.length
  | [], _, _, _, _, _ => by
    refine ⟨fun x hx => ?_, Nat.zero_le _⟩
    have : x ∈ ([] : List Int) := hx
    cases this
  | x :: r, names, files, room, h, hf => by
    unfold wfIF at h
    rw [Bool.and_eq_true] at h
    rw [List.length_cons] at hf
    have h1 := entB'_ok (entW_of h.1 hn) (files := files) (by omega)
    have h2 := encF_ok hn r _ (filesD x.file files) _ h.2 (by have := filesD_len x.file files; omega)
    refine ⟨AllByte.app h1.1 h2.1, ?_⟩
    show (entB' x files ++ encF r (filesD x.file files)).length ≤ _
    rw [List.length_append, List.length_cons]
    omega
theorem encI_ok {l : List EntD} (h : wfI l = true) : AllByte (encI l) ∧ (encI l).length ≤ 1600000 := by
  unfold wfI at h
  rw [Bool.and_eq_true] at h
  have hl := of_decide_eq_true h.1
  have h1 := encF_ok (by omega) l [] [] 1000 h.2 (by simp; omega)
  have h2 := numB_len (l.length : Int)
  refine ⟨AllByte.app (fun x hx => by simp at hx; omega) (AllByte.app (numB_byte (by omega) (by omega)) h1.1), ?_⟩
  unfold encI
  simp only [List.length_append, List.length_cons, List.length_nil]
  omega
end Go.Proofs.YthaganponmnanaaGreatDoor
namespace Go.Proofs.YthaganponmnanaaGreatDoor
open Go.RowKit

set_option maxHeartbeats 4000000 in
set_option maxRecDepth 100000 in
theorem given_any (pa : Option Addr) (pcap : Nat) (p : List FnD) (ra : Option Addr) (rl rcap : Nat) (raw : List Int) (w : World) (hp : RdP w pa p.length pcap p) (hc : Good p) (hr : Rd .i64 w ra rl rcap raw) (hraw : ∀ x ∈ raw, R64 x) :
    Calls Tryz.prog 5 #[.agg #[.slice pa p.length pcap], .slice ra rl rcap] w fun e w' => Below w.heap.size w w' ∧ ∃ (args : List Int) (a : Option Addr) (cap : Nat), e = .returned (.slice a args.length cap) ∧
      w'.ownsRow w.heap.size 3 1 (.slice a args.length cap) args.length (ints args) ∧ givenB p args = true := by
  have hlen := hc.len
  obtain ⟨f0, hf0⟩ : ∃ f, p[0]? = some f := ⟨_, List.getElem?_eq_getElem (by omega)⟩
  have hfn : fnAt p 0 = f0 := by unfold fnAt; rw [show ((0 : Int)).toNat = 0 by omega, hf0]; rfl
  obtain ⟨hp1, hp2⟩ := (hc.fns 0 f0 hf0).params
  have hp3 := (hc.fns 0 f0 hf0).locals
  obtain ⟨PP, hPP⟩ : ∃ v : Nat, (v : Int) = f0.params := ⟨f0.params.toNat, by omega⟩
  have hP8 : PP ≤ 8 := by omega
  obtain ⟨pb, poff, ba, bcap, rfl, hpb, -, -, n2, -, -, -, -, -⟩ := hp.at 0 f0 hf0
  rw [← hPP] at n2
  simp only [Nat.zero_mul, Nat.add_zero] at n2
  have HPP : Hid ((PP : Int) = (fnAt p 0).params) := hid (by rw [hfn]; exact hPP)
  have hq1 := hp.2.1
  have hq2 := hp.2.2.1
  unfold maxLen at hq2
  obtain ⟨pl, hpl⟩ : ∃ v, v = p.length := ⟨_, rfl⟩
  rw [← hpl] at hq1 hlen ⊢
  have hrc := hr.hcap
  have hrm := hr.hmax
  unfold maxLen at hrm
  have HR := hid hr
  have HN2 := hid n2
  obtain ⟨i0, hi, hz0, hz1, hz2⟩ := info_parts Tryz.infoInt
  clear hp hc hf0 hfn hp1 hp2 hp3 hPP hpl hr n2
  obtain ⟨wb, hwb⟩ : ∃ v, v = w.alloc (Obj.cells #[.slice (some ⟨pb, poff, none⟩) pl pcap] 24) := ⟨_, rfl⟩
  have hbb : Below w.heap.size w wb := by rw [hwb]; exact (Below.refl _ _).alloc (Nat.le_refl _) _
  have hbs : wb.heap.size = w.heap.size + 1 := by rw [hwb]; simp
  have k0 : wb.heap[w.heap.size]? = some (.cells #[.slice (some ⟨pb, poff, none⟩) pl pcap] 24 (0, 0)) := by rw [hwb]; exact heap_new_at rfl
  have HK0 := hid k0
  have HBB := hid hbb
  clear k0 hbb
  go_enter Tryz.func5, Tryz.ntmps5
  go_wp2
  rw [← hwb]
  clear hwb
  go_loopw [5, 6, 7] (fun lv i _ wr => ∃ (k : Nat) (xs : List Int), i = .int .i64 k ∧ k ≤ PP ∧ xs.length = k ∧ (∀ x ∈ xs, withB x 1000 = true) ∧ wr.ownsRow wb.heap.size 3 1 lv k (ints xs) ∧ Below wb.heap.size wb wr) (fun _ i _ _ => PP - (intOf i).toNat)
  case atStart => exact ⟨0, [], rfl, by omega, rfl, by simp, World.ownsRow_nil _ _ _ _, Below.refl _ _⟩
  case round =>
    obtain ⟨k, xs, rfl, hk, hxl, hall, hown, hbel⟩ := hrel
    have hsz := hbel.size
    have p0 : wr.cell? ⟨w.heap.size, 0, none⟩ = some (.slice (some ⟨pb, poff, none⟩) pl pcap) := by
      have h := (hbel.block w.heap.size (by omega)).trans HK0.out
      simp [World.cell?, h]
    have hbw : Below w.heap.size w wr := HBB.out.trans (hbel.mono HBB.out.size)
    have n2 : wr.cell? ⟨pb, poff + 2, none⟩ = some (.int .i64 PP) := (hbw.cell (p := ⟨pb, poff + 2, none⟩) hpb).trans HN2.out
    have hpb' : pb < wr.heap.size := by have := hbw.size; omega
    have HXL := hid hxl
    have HALL := hid hall
    have HOW := hid hown
    have HBEL := hid hbel
    have hpl0 : (0 : Int) < (pl : Int) := by omega
    by_cases hkp : k < PP
    · have hkp' : (k : Int) < (PP : Int) := by omega
      by_cases hkr : k < rl
      · have hkr' : (k : Int) < (rl : Int) := by omega
        obtain ⟨rb, roff, rfl, hrc'⟩ := HR.out.open (by omega)
        have c9 := hrc' k hkr
        have o9 : wr.cell? ⟨rb, roff + k, none⟩ = some (.int .i64 (raw.getD k 0)) := (hbw.cell (World.block_lt_of_cell? w _ c9)).trans c9
        have hrb : rb < wr.heap.size := World.block_lt_of_cell? wr _ o9
        have hR : R64 (raw.getD k 0) := by
          have hl := HR.out.hlen
          refine hraw _ ?_
          rw [List.getD, List.getElem?_eq_getElem (by omega)]
          exact List.getElem_mem _
        generalize raw.getD k 0 = rv at *
        have HPK := hid (pick_any rv 1000 wr hR.1 hR.2 (by omega) (by omega))
        have HPL := hid (pickI_lt rv (n := 1000) (by omega))
        generalize pickI rv 1000 = a9 at HPK HPL
        clear hxl hall hown hbel hbw hrc' c9
        go_wp2_with fail
        refine HPK.out.mono ?_
        rintro e w' ⟨rfl, he⟩
        rw [he]
        clear he w'
        go_wp2_with (at_builtin; refine wpList_append_own _ rfl (.tmp 26) (.tmp 28) 25 rfl wb.heap.size 3 i0 (.int .i64 0) 1 8 Tryz.underlying25 hi hz0 hz1 hz2 rfl (by decide) _ _ _ rfl (HOW.out.alloc _) ⟨wr.heap.size, 0, none⟩ 1 1 [.int .i64 a9] rfl rfl (new1_at rfl _ _) (one1 _) (by unfold maxLen; omega) (by omega) (by simp; omega) ?_)
        intro va w3 hown3 hgrow3 _
        have hb3 : Below wb.heap.size wb w3 := (HBEL.out.alloc hsz _).grown hgrow3 (by simp; omega) (fun k hk => (HOW.out.lt k hk).1)
        have HO3 := hid hown3
        have HB3 := hid hb3
        clear hown3 hgrow3 hb3 p0 n2 o9
        go_wp2
        go_roundw
        case rel =>
          refine ⟨k + 1, xs ++ [a9], by go_num, by omega, by rw [List.length_append, HXL.out]; rfl, fun a ha => ?_, by rw [hbs]; simpa [ints] using HO3.out, HB3.out⟩
          rcases List.mem_append.1 ha with h | h
          · exact HALL.out a h
          · rw [List.mem_singleton.1 h]
            have := HPL.out
            simp [withB]; omega
        case measure => simp [intOf]; omega
      · have hkr' : decide ((k : Int) < (rl : Int)) = false := by simp; omega
        clear hxl hall hown hbel hbw
        go_wp2_with (at_builtin; refine wpList_append_own _ rfl (.tmp 26) (.tmp 28) 25 rfl wb.heap.size 3 i0 (.int .i64 0) 1 8 Tryz.underlying25 hi hz0 hz1 hz2 rfl (by decide) _ _ _ rfl (HOW.out.alloc _) ⟨wr.heap.size, 0, none⟩ 1 1 [.int .i64 0] rfl rfl (new1_at rfl _ _) (one1 _) (by unfold maxLen; omega) (by omega) (by simp; omega) ?_)
        intro va w3 hown3 hgrow3 _
        have hb3 : Below wb.heap.size wb w3 := (HBEL.out.alloc hsz _).grown hgrow3 (by simp; omega) (fun k hk => (HOW.out.lt k hk).1)
        have HO3 := hid hown3
        have HB3 := hid hb3
        clear hown3 hgrow3 hb3 p0 n2
        go_wp2
        go_roundw
        case rel =>
          refine ⟨k + 1, xs ++ [0], by go_num, by omega, by rw [List.length_append, HXL.out]; rfl, fun a ha => ?_, by rw [hbs]; simpa [ints] using HO3.out, HB3.out⟩
          rcases List.mem_append.1 ha with h | h
          · exact HALL.out a h
          · rw [List.mem_singleton.1 h]
            decide
        case measure => simp [intOf]; omega
    · have hkp' : decide ((k : Int) < (PP : Int)) = false := by simp; omega
      have HKE : Hid (k = PP) := hid (by omega)
      obtain ⟨va, vcap, rfl⟩ : ∃ va vcap, u5 = .slice va k vcap := by
        rcases hown.2 with ⟨h1, h2⟩ | ⟨g, c', cur, h1, _⟩
        · exact ⟨none, 0, by rw [h1, h2]⟩
        · exact ⟨_, c', h1⟩
      have HF := hid (⟨owns_low9 hown (show w.heap.size ≤ wb.heap.size by omega), hbw⟩ : _ ∧ _)
      clear hxl hall hown hbel hbw
      go_wp2
      refine bodyPost_ret (v := .slice va k vcap) (by simp [results, Tryz.results5, go_sem]) rfl ⟨HF.out.2, xs, va, vcap, by rw [HXL.out], by rw [HXL.out]; exact HF.out.1, ?_⟩
      unfold givenB
      rw [Bool.and_eq_true, List.all_eq_true]
      exact ⟨HALL.out, by rw [HXL.out, HKE.out, HPP.out]; simp⟩
end Go.Proofs.YthaganponmnanaaGreatDoor
namespace Go.Proofs.YthaganponmnanaaGreatDoor
open Go.ChangeShapes Go.WideShapes Go.ChangeAt Go.RowKit

theorem weights_all {H : Type} {P : Program} {e : TypeId} : ∀ {l : List (DataW H)} {d : DataW H}, d ∈ l → ∀ k ∈ d.weights P e, k ∈ DataW.weightsAll P e l
  | [], _, h => by cases h
  | x :: r, d, h => by
    intro k hk
    unfold DataW.weightsAll
    rcases List.mem_cons.1 h with rfl | h
    · exact List.mem_append_left _ hk
    · exact List.mem_append_right _ (weights_all h k hk)

section
variable {H : Type} {enc : TypeId × Value → H} {P : Program} {w : World} {base : Nat} {spare : Nat → Bool} {held : Bool}

theorem weights_field {t : TypeId} {fs : Array Field} {parts : List (DataW H)} (ht : P.underlying t = some (.struct fs)) (hw : ∀ k ∈ (DataW.agg parts).weights P t, k ≤ reachBytes)
    {j : Nat} {f : Field} {d : DataW H} (hf : fs[j]? = some f) (hd : parts[j]? = some d) : ∀ k ∈ d.weights P f.type, k ≤ reachBytes := by
  intro k hk
  refine hw k ?_
  unfold DataW.weights
  rw [ht]
  exact DataW.weights_mem_each (j := j) (by simp [hf]) hd k hk

theorem spot_none {a : Addr} {v : Value} (h : w.cell? (a.add 0) = some v) : a.spot = none := by
  have := World.cell?_spot h
  unfold Addr.add at this
  split at this <;> simp_all

theorem add_none (b off i : Nat) : (⟨b, off, none⟩ : Addr).add i = ⟨b, off + i, none⟩ := by unfold Addr.add; split <;> simp_all

theorem open_RdL {α : Type} [Inhabited α] {t e : TypeId} {size : Nat} {R : World → List Value → α → Prop} {bnd : α → Prop} (ht : P.underlying t = some (.slice e)) (hs : P.cellsOf e = size) (hs0 : 0 < size)
    (hE : ∀ n cs x, DataW.trod enc P w base spare held n e cs = some x → (∀ k ∈ x.1.weights P e, k ≤ reachBytes) → ∃ o, R w cs o ∧ bnd o)
    {fuel : Nat} {cs : List Value} {x : DataW H × List MemPlace} (h : DataW.trod enc P w base spare held fuel t cs = some x) (hw : ∀ k ∈ x.1.weights P t, k ≤ reachBytes) :
    ∃ a cap l, cs = [.slice a l.length cap] ∧ RdL size R w a l.length cap l ∧ l.length * P.bytesOf e ≤ reachBytes ∧ ∀ o ∈ l, bnd o := by
  rcases Deep.open_slice ht h with ⟨rfl, rfl⟩ | ⟨a, len, cap, m, n, D, Pl, rfl, hb, hl, hm, hmm, rfl, hel⟩
  · exact ⟨none, 0, [], rfl, ⟨rfl, Nat.le_refl _, by unfold maxLen; omega, fun i x hx => by simp at hx⟩, by simp, fun o ho => by cases ho⟩
  · have hlm : len ≤ m := by rw [hmm]; split <;> omega
    unfold DataW.weights at hw
    rw [ht] at hw
    simp only [List.mem_cons, List.mem_append, List.length_map, List.length_range] at hw
    have hlen : len * P.bytesOf e ≤ reachBytes := Nat.le_trans (Nat.mul_le_mul_right _ (Nat.le_add_right _ _)) (hw _ (.inl rfl))
    have hall : ∀ i, i < len → ∃ o cs', (w.cells? base (a.add (i * P.cellsOf e)) (P.cellsOf e) = some cs') ∧ R w cs' o ∧ bnd o := by
      intro i hi
      obtain ⟨cs', h1, h2⟩ := hel i (by omega)
      obtain ⟨o, h3, h4⟩ := hE n cs' _ h2 (fun k hk => hw k (.inr (.inl (weights_all (List.mem_map.2 ⟨i, List.mem_range.2 hi, rfl⟩) k hk))))
      exact ⟨o, cs', h1, h3, h4⟩
    obtain ⟨f, hf⟩ := Deep.choose_lt hall
    refine ⟨some a, cap, (List.range len).map f, by simp, ⟨rfl, by simpa using hl, hm, fun i x hx => ?_⟩, by simpa using hlen, fun o ho => ?_⟩
    · have hi : i < len := by
        have := (List.getElem?_eq_some_iff.1 hx).1
        simpa using this
      obtain rfl : f i = x := by simpa [hi] using hx
      obtain ⟨cs', h1, h2, _⟩ := hf i hi
      rw [hs] at h1
      obtain ⟨_, g2, g3⟩ := World.cells?_some h1
      obtain ⟨b, off, spot⟩ := a
      have hcell : ∀ j v, cs'[j]? = some v → w.cell? (((⟨b, off, spot⟩ : Addr).add (i * size)).add j) = some v := by
        intro j v hv
        have hj := (List.getElem?_eq_some_iff.1 hv).1
        exact (g3 j (by omega)).trans hv
      have hsp : spot = none := by
        obtain ⟨cs0, k1, _, _⟩ := hf 0 (by omega)
        rw [hs] at k1
        obtain ⟨_, k2, k3⟩ := World.cells?_some k1
        have := (k3 0 hs0).trans (List.getElem?_eq_getElem (by omega))
        rw [Deep.add_add, Nat.zero_mul] at this
        exact spot_none this
      subst hsp
      refine ⟨b, off, cs', rfl, g2, fun j v hv => ?_, h2⟩
      have := hcell j v hv
      rw [add_none, add_none] at this
      exact this
    · obtain ⟨i, hi, rfl⟩ := List.mem_map.1 ho
      obtain ⟨_, _, _, h4⟩ := hf i (List.mem_range.1 hi)
      exact h4

end
end Go.Proofs.YthaganponmnanaaGreatDoor
namespace Go.Proofs.YthaganponmnanaaGreatDoor
open Go.ChangeShapes Go.WideShapes Go.ChangeAt Go.RowKit

instance : Inhabited OpD := ⟨⟨0, 0, 0, 0, 0, []⟩⟩
instance : Inhabited FnD := ⟨⟨⟨#[]⟩, ⟨#[]⟩, 0, 0, []⟩⟩

section
variable {H : Type} {enc : TypeId × Value → H} {P : Program} {w : World} {base : Nat} {spare : Nat → Bool} {held : Bool}

theorem open_RdL2 {α : Type} [Inhabited α] {t e : TypeId} {size : Nat} {R : World → List Value → α → Prop} {bnd : α → Prop} (ht : P.underlying t = some (.slice e)) (hs : P.cellsOf e = size) (hs0 : 0 < size)
    (hE : ∀ n cs x, DataW.trod enc P w base spare held n e cs = some x → ∃ o, R w cs o ∧ bnd o)
    {fuel : Nat} {cs : List Value} {x : DataW H × List MemPlace} (h : DataW.trod enc P w base spare held fuel t cs = some x) :
    ∃ a cap l, cs = [.slice a l.length cap] ∧ RdL size R w a l.length cap l ∧ ∀ o ∈ l, bnd o := by
  rcases Deep.open_slice ht h with ⟨rfl, rfl⟩ | ⟨a, len, cap, m, n, D, Pl, rfl, hb, hl, hm, hmm, rfl, hel⟩
  · exact ⟨none, 0, [], rfl, ⟨rfl, Nat.le_refl _, by unfold maxLen; omega, fun i x hx => by simp at hx⟩, fun o ho => by cases ho⟩
  · have hlm : len ≤ m := by rw [hmm]; split <;> omega
    have hall : ∀ i, i < len → ∃ o cs', (w.cells? base (a.add (i * P.cellsOf e)) (P.cellsOf e) = some cs') ∧ R w cs' o ∧ bnd o := by
      intro i hi
      obtain ⟨cs', h1, h2⟩ := hel i (by omega)
      obtain ⟨o, h3, h4⟩ := hE n cs' _ h2
      exact ⟨o, cs', h1, h3, h4⟩
    obtain ⟨f, hf⟩ := Deep.choose_lt hall
    refine ⟨some a, cap, (List.range len).map f, by simp, ⟨rfl, by simpa using hl, hm, fun i x hx => ?_⟩, fun o ho => ?_⟩
    · have hi : i < len := by
        have := (List.getElem?_eq_some_iff.1 hx).1
        simpa using this
      obtain rfl : f i = x := by simpa [hi] using hx
      obtain ⟨cs', h1, h2, _⟩ := hf i hi
      rw [hs] at h1
      obtain ⟨_, g2, g3⟩ := World.cells?_some h1
      obtain ⟨b, off, spot⟩ := a
      have hcell : ∀ j v, cs'[j]? = some v → w.cell? (((⟨b, off, spot⟩ : Addr).add (i * size)).add j) = some v := by
        intro j v hv
        have hj := (List.getElem?_eq_some_iff.1 hv).1
        exact (g3 j (by omega)).trans hv
      have hsp : spot = none := by
        obtain ⟨cs0, k1, _, _⟩ := hf 0 (by omega)
        rw [hs] at k1
        obtain ⟨_, k2, k3⟩ := World.cells?_some k1
        have := (k3 0 hs0).trans (List.getElem?_eq_getElem (by omega))
        rw [Deep.add_add, Nat.zero_mul] at this
        exact spot_none this
      subst hsp
      refine ⟨b, off, cs', rfl, g2, fun j v hv => ?_, h2⟩
      have := hcell j v hv
      rw [add_none, add_none] at this
      exact this
    · obtain ⟨i, hi, rfl⟩ := List.mem_map.1 ho
      obtain ⟨_, _, _, h4⟩ := hf i (List.mem_range.1 hi)
      exact h4

end
section
variable {H : Type} {enc : TypeId × Value → H} {w : World} {base : Nat} {spare : Nat → Bool} {held : Bool}

set_option maxRecDepth 100000 in
theorem open_Rd2 {fuel : Nat} {cs : List Value} {x : DataW H × List MemPlace} (h : DataW.trod enc Tryz.prog w base spare held fuel 25 cs = some x) :
    ∃ a cap l, cs = [.slice a l.length cap] ∧ Rd .i64 w a l.length cap l ∧ ∀ z ∈ l, R64 z := by
  rcases open_ints Tryz.underlying25 Tryz.underlying3 (by kernel_rfl) h with ⟨rfl, rfl⟩ | ⟨a, len, cap, zs, rfl, _, hl, hm, hz, rfl, hcell, hwz⟩
  · exact ⟨none, 0, [], rfl, ⟨rfl, Nat.le_refl _, by unfold maxLen; omega, fun i hi => by simp at hi⟩, fun z hz => by cases hz⟩
  · have hzl : len ≤ zs.length := by rw [hz]; split <;> omega
    have e : (zs.take len).length = len := by rw [List.length_take]; omega
    refine ⟨some a, cap, zs.take len, by rw [e], ⟨rfl, by rw [e]; exact hl, hm, fun i hi => ?_⟩, fun z hz => bounds_i64 (hwz z (List.mem_of_mem_take hz))⟩
    rw [e] at hi
    have hc := hcell i (by omega)
    have hc0 := hcell 0 (by omega)
    obtain ⟨b, off, spot⟩ := a
    have hspot : spot = none := spot_none hc0
    subst hspot
    refine ⟨b, off, rfl, ?_⟩
    rw [add_none] at hc
    rw [hc]
    simp [List.getD, hi]

theorem six {α : Type} {l : List α} (h : l.length = 6) : ∃ a b c d e f, l = [a, b, c, d, e, f] := by
  match l, h with
  | [a, b, c, d, e, f], _ => exact ⟨a, b, c, d, e, f, rfl⟩
theorem five {α : Type} {l : List α} (h : l.length = 5) : ∃ a b c d e, l = [a, b, c, d, e] := by
  match l, h with
  | [a, b, c, d, e], _ => exact ⟨a, b, c, d, e, rfl⟩
theorem one {α : Type} {l : List α} (h : l.length = 1) : ∃ a, l = [a] := by
  match l, h with
  | [a], _ => exact ⟨a, rfl⟩

theorem open_int9 {n : Nat} {c : Value} {x : DataW H × List MemPlace} (h : DataW.trod enc Tryz.prog w base spare held n 3 [c] = some x) : ∃ z, c = .int .i64 z ∧ R64 z := by
  obtain ⟨z, h0, _, hwf⟩ := DataW.trod_int Tryz.underlying3 h
  injection h0 with h0
  exact ⟨z, h0, bounds_i64 hwf⟩
theorem open_str9 {n : Nat} {c : Value} {x : DataW H × List MemPlace} (h : DataW.trod enc Tryz.prog w base spare held n 9 [c] = some x) : ∃ z : ByteArray, c = .string z ∧ z.size ≤ maxLen := by
  obtain ⟨z, h0, _, hs⟩ := DataW.trod_string Tryz.underlying9 h
  injection h0 with h0
  exact ⟨z, h0, hs⟩

theorem fld {P : Program} {n t off k : Nat} {cs : List Value} {y : Option (DataW H × List MemPlace)} (h : DataW.trod enc P w base spare held n t ((cs.drop off).take (P.cellsOf t)) = y) (hc : P.cellsOf t = k) :
    DataW.trod enc P w base spare held n t ((cs.drop off).take k) = y := by rw [← hc]; exact h

theorem Tryz.cellsInt : Tryz.prog.cellsOf 3 = 1 := by kernel_rfl
theorem Tryz.cellsStr : Tryz.prog.cellsOf 9 = 1 := by kernel_rfl
theorem Tryz.cellsInts : Tryz.prog.cellsOf 25 = 1 := by kernel_rfl
theorem Tryz.cellsOps : Tryz.prog.cellsOf 42 = 1 := by kernel_rfl
theorem Tryz.cellsFns : Tryz.prog.cellsOf 22 = 1 := by kernel_rfl
theorem Tryz.cellsProgram : Tryz.prog.cellsOf 24 = 1 := by kernel_rfl

set_option maxRecDepth 100000 in
theorem open_op2 {n : Nat} {cs : List Value} {x : DataW H × List MemPlace} (h : DataW.trod enc Tryz.prog w base spare held n 70 cs = some x) :
    ∃ o, RdOp w cs o ∧ RawOp o := by
  obtain ⟨xs, n, rfl, rfl, hl, hx, hf⟩ := DataW.trod_struct Tryz.underlying70 h
  obtain ⟨c0, c1, c2, c3, c4, c5, rfl⟩ := six (hl.trans (by kernel_rfl))
  obtain ⟨x0, x1, x2, x3, x4, x5, rfl⟩ := six (hx.trans rfl)
  have f0 : DataW.trod enc Tryz.prog w base spare held n 3 [c0] = some x0 := fld (off := 0) (hf 0 _ rfl) Tryz.cellsInt
  have f1 : DataW.trod enc Tryz.prog w base spare held n 3 [c1] = some x1 := fld (off := 1) (hf 1 _ rfl) Tryz.cellsInt
  have f2 : DataW.trod enc Tryz.prog w base spare held n 3 [c2] = some x2 := fld (off := 2) (hf 2 _ rfl) Tryz.cellsInt
  have f3 : DataW.trod enc Tryz.prog w base spare held n 3 [c3] = some x3 := fld (off := 3) (hf 3 _ rfl) Tryz.cellsInt
  have f4 : DataW.trod enc Tryz.prog w base spare held n 3 [c4] = some x4 := fld (off := 4) (hf 4 _ rfl) Tryz.cellsInt
  have f5 : DataW.trod enc Tryz.prog w base spare held n 25 [c5] = some x5 := fld (off := 5) (hf 5 _ rfl) Tryz.cellsInts
  obtain ⟨z0, rfl, b0⟩ := open_int9 f0
  obtain ⟨z1, rfl, b1⟩ := open_int9 f1
  obtain ⟨z2, rfl, b2⟩ := open_int9 f2
  obtain ⟨z3, rfl, b3⟩ := open_int9 f3
  obtain ⟨z4, rfl, b4⟩ := open_int9 f4
  obtain ⟨a, cap, l, e, hr, hb⟩ := open_Rd2 f5
  have e' : c5 = .slice a l.length cap := by simpa using e
  subst e'
  exact ⟨⟨z0, z1, z2, z3, z4, l⟩, ⟨a, cap, rfl, hr⟩, b0, b1, b2, b3, b4, hb⟩

set_option maxRecDepth 100000 in
theorem open_fn2 {n : Nat} {cs : List Value} {x : DataW H × List MemPlace} (h : DataW.trod enc Tryz.prog w base spare held n 44 cs = some x) :
    ∃ o, RdFn w cs o ∧ RawFn o := by
  obtain ⟨xs, n, rfl, rfl, hl, hx, hf⟩ := DataW.trod_struct Tryz.underlying44 h
  obtain ⟨c0, c1, c2, c3, c4, rfl⟩ := five (hl.trans (by kernel_rfl))
  obtain ⟨x0, x1, x2, x3, x4, rfl⟩ := five (hx.trans rfl)
  have f0 : DataW.trod enc Tryz.prog w base spare held n 9 [c0] = some x0 := fld (off := 0) (hf 0 _ rfl) Tryz.cellsStr
  have f1 : DataW.trod enc Tryz.prog w base spare held n 9 [c1] = some x1 := fld (off := 1) (hf 1 _ rfl) Tryz.cellsStr
  have f2 : DataW.trod enc Tryz.prog w base spare held n 3 [c2] = some x2 := fld (off := 2) (hf 2 _ rfl) Tryz.cellsInt
  have f3 : DataW.trod enc Tryz.prog w base spare held n 3 [c3] = some x3 := fld (off := 3) (hf 3 _ rfl) Tryz.cellsInt
  have f4 : DataW.trod enc Tryz.prog w base spare held n 42 [c4] = some x4 := fld (off := 4) (hf 4 _ rfl) Tryz.cellsOps
  obtain ⟨z0, rfl, h0⟩ := open_str9 f0
  obtain ⟨z1, rfl, h1⟩ := open_str9 f1
  obtain ⟨z2, rfl, b2⟩ := open_int9 f2
  obtain ⟨z3, rfl, b3⟩ := open_int9 f3
  obtain ⟨a, cap, l, e, hr, hall⟩ := open_RdL2 (size := 6) (R := RdOp) (bnd := RawOp) Tryz.underlying42 (by kernel_rfl) (by omega) (fun _ _ _ h => open_op2 h) f4
  have e' : c4 = .slice a l.length cap := by simpa using e
  subst e'
  exact ⟨⟨z0, z1, z2, z3, l⟩, ⟨a, cap, rfl, hr, h0, h1⟩, b2, b3, hall⟩

set_option maxRecDepth 100000 in
theorem open_program2 {n : Nat} {cs : List Value} {x : DataW H × List MemPlace} (h : DataW.trod enc Tryz.prog w base spare held n 24 cs = some x) :
    ∃ a cap l, cs = [.slice a l.length cap] ∧ RdP w a l.length cap l ∧ RawP l := by
  obtain ⟨xs, n, rfl, rfl, hl, hx, hf⟩ := DataW.trod_struct Tryz.underlying24 h
  obtain ⟨c0, rfl⟩ := one (hl.trans (by kernel_rfl))
  obtain ⟨x0, rfl⟩ := one (hx.trans rfl)
  have f0 : DataW.trod enc Tryz.prog w base spare held n 22 [c0] = some x0 := fld (off := 0) (hf 0 _ rfl) Tryz.cellsFns
  obtain ⟨a, cap, l, e, hr, hall⟩ := open_RdL2 (size := 5) (R := RdFn) (bnd := RawFn) Tryz.underlying22 (by kernel_rfl) (by omega) (fun _ _ _ h => open_fn2 h) f0
  exact ⟨a, cap, l, e, hr, hall⟩
end
end Go.Proofs.YthaganponmnanaaGreatDoor
