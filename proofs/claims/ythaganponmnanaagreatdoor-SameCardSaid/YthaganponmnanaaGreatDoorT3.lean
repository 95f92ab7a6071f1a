/- Contract of the developers' code.Build and unfold.Build: the bytes of the image of a program's code. -/
import Derived.Test.YthaganponmnanaaGreatDoorZ35
import Derived.Test.YthaganponmnanaaGreatDoorZ14
import Derived.Test.YthaganponmnanaaGreatDoorI11
import Derived.Test.YthaganponmnanaaGreatDoorRL
namespace Go.Proofs.YthaganponmnanaaGreatDoor
open Go.RowKit

/-- All codes together have at most as many places as an image may have. -/
theorem layAll_sum (p : List FnD) (bud : Int) : ∀ (n fn : Nat) (room : Int) (l cs : List CodeD), 0 ≤ room → (l.map fun c => c.places.length).sum + room.toNat ≤ 1000 → layAll p bud n fn room l = some cs → (cs.map fun c => c.places.length).sum ≤ 1000
  | 0, fn, room, l, cs, _, hs, h => by
    have : l = cs := Option.some.inj h
    rw [← this]; omega
  | n + 1, fn, room, l, cs, h0, hs, h => by
    unfold layAll at h
    split at h
    · cases h
    · next hr =>
      obtain ⟨r1, r2⟩ := layI_room p bud 12 fn [] ⟨room, [], []⟩ h0
      dsimp only at r1 r2
      have hsz : (sizI p bud 12 fn [] : Int) ≤ room := Int.not_lt.1 fun hl => hr (r2 hl)
      obtain ⟨q1, q2⟩ := r1 hsz
      rw [List.length_nil, Nat.zero_add] at q2
      refine layAll_sum p bud n (fn + 1) _ _ cs (by omega) ?_ h
      rw [List.map_append, List.sum_append]
      simp only [List.map_cons, List.map_nil, List.sum_cons, List.sum_nil]
      omega
theorem codes_sum {p : List FnD} {bud : Int} {cs : List CodeD} (h : codesD p bud = some cs) : (cs.map fun c => c.places.length).sum ≤ 1000 :=
  layAll_sum p bud p.length 0 1000 [] cs (by decide) (by decide) h
theorem sum_mem {l : List Nat} {x : Nat} (h : x ∈ l) : x ≤ l.sum := by
  induction l with
  | nil => cases h
  | cons y r ih =>
    rw [List.sum_cons]
    rcases List.mem_cons.1 h with rfl | h
    · omega
    · have := ih h; omega
theorem codes_small {p : List FnD} {bud : Int} {cs : List CodeD} (h : codesD p bud = some cs) {c : CodeD} (hc : c ∈ cs) : c.places.length ≤ 1000 :=
  Nat.le_trans (sum_mem (List.mem_map.2 ⟨c, hc, rfl⟩)) (codes_sum h)

theorem rds_of_nd {w : World} {a : Option Addr} {len cap : Nat} {l : List (Int × Int)} (h : RdNd w a len cap l) : RdS w a len cap l := by
  obtain ⟨h1, h2, h3, h4⟩ := h
  refine ⟨h1, h2, h3, fun i hi => ?_⟩
  obtain ⟨b, off, cs, e, -, hc, rfl⟩ := h4 i (l.getD i (0, 0)) (by rw [List.getD, List.getElem?_eq_getElem (by omega)]; rfl)
  exact ⟨b, off, e, hc 0 _ rfl, hc 1 _ rfl⟩
theorem ent5_ones (a b : ByteArray) (la xa ta : Option Addr) (n1 n2 n3 c1 c2 c3 : Nat) : ∀ u ∈ [Value.string a, .string b, .slice la n1 c1, .slice xa n2 c2, .slice ta n3 c3], u.oneCell' = true := by
  intro u hu
  simp at hu
  rcases hu with rfl | rfl | rfl | rfl | rfl <;> rfl

/-- Entries that lie readable whatever becomes of the block L. -/
def EntsBut (L : Nat → Prop) (w : World) (css : List (List Value)) (l : List EntD) : Prop := css.length = l.length ∧ ∀ (i : Nat) (cs : List Value) (x : EntD), css[i]? = some cs → l[i]? = some x → cs.length = 5 ∧ ∀ W : World, (∀ b, b < w.heap.size → ¬ L b → W.heap[b]? = w.heap[b]?) → RdEnt W cs x
theorem EntsBut.same {L L' : Nat → Prop} {w w' : World} {css : List (List Value)} {l : List EntD} (h : EntsBut L w css l) (hs : ∀ b, b < w.heap.size → ¬ L b → b < w'.heap.size ∧ ¬ L' b ∧ w'.heap[b]? = w.heap[b]?) : EntsBut L' w' css l :=
  ⟨h.1, fun i cs x h1 h2 => ⟨(h.2 i cs x h1 h2).1, fun W hW => (h.2 i cs x h1 h2).2 W (fun b hb hne => (hW b (hs b hb hne).1 (hs b hb hne).2.1).trans (hs b hb hne).2.2)⟩⟩
theorem EntsBut.snoc {L : Nat → Prop} {w : World} {css : List (List Value)} {l : List EntD} {cs : List Value} {x : EntD} (h : EntsBut L w css l) (h5 : cs.length = 5) (hx : ∀ W : World, (∀ b, b < w.heap.size → ¬ L b → W.heap[b]? = w.heap[b]?) → RdEnt W cs x) : EntsBut L w (css ++ [cs]) (l ++ [x]) := by
  refine ⟨by simp [h.1], fun i c y h1 h2 => ?_⟩
  rcases Nat.lt_or_ge i css.length with hi | hi
  · rw [List.getElem?_append_left hi] at h1
    rw [List.getElem?_append_left (by rw [← h.1]; exact hi)] at h2
    exact h.2 i c y h1 h2
  · rw [List.getElem?_append_right hi] at h1
    rw [List.getElem?_append_right (by rw [← h.1]; exact hi), ← h.1] at h2
    cases hj : i - css.length with
    | zero => rw [hj] at h1 h2; simp at h1 h2; subst h1; subst h2; exact ⟨h5, hx⟩
    | succ j => rw [hj] at h1; simp at h1
theorem EntsBut.five {L : Nat → Prop} {w : World} {css : List (List Value)} {l : List EntD} (h : EntsBut L w css l) : ∀ c ∈ css, c.length = 5 := by
  intro c hc
  obtain ⟨i, hi, rfl⟩ := List.getElem_of_mem hc
  have hil : i < l.length := by rw [← h.1]; exact hi
  exact (h.2 i _ l[i] (List.getElem?_eq_getElem hi) (List.getElem?_eq_getElem hil)).1
theorem EntsBut.rd {L : Nat → Prop} {w : World} {base : Nat} {fv : Value} {css : List (List Value)} {l : List EntD} (he : EntsBut L w css l) (h : w.ownsRow base 90 5 fv l.length css.flatten) : ∃ a cap, fv = .slice a l.length cap ∧ RdI w a l.length cap l := by
  have h5 := he.five
  rcases h.2 with ⟨rfl, h0⟩ | ⟨g, cap, cur, rfl, hg, hh, h1, h2, h3, h4⟩
  · refine ⟨none, 0, by rw [h0], rfl, by omega, by unfold maxLen; omega, fun i x hx => ?_⟩
    have : l = [] := List.length_eq_zero_iff.1 h0
    rw [this] at hx; simp at hx
  · refine ⟨some ⟨g, 0, none⟩, cap, rfl, rfl, h1, h2, fun i x hx => ?_⟩
    have hi : i < l.length := (List.getElem?_eq_some_iff.1 hx).1
    obtain ⟨cs, hcs⟩ : ∃ cs, css[i]? = some cs := ⟨_, List.getElem?_eq_getElem (by rw [he.1]; exact hi)⟩
    have hE := he.2 i cs x hcs hx
    refine ⟨g, 0, cs, rfl, h5 cs (List.mem_of_getElem? hcs), fun j v hj => ?_, hE.2 w (fun _ _ _ => rfl)⟩
    have hw : w.ownsRow base 90 5 (.slice (some ⟨g, 0, none⟩) l.length cap) l.length css.flatten := ⟨h.1, .inr ⟨g, cap, cur, rfl, hg, hh, h1, h2, h3, h4⟩⟩
    have hjl : j < 5 := by have := (List.getElem?_eq_some_iff.1 hj).1; rw [h5 cs (List.mem_of_getElem? hcs)] at this; exact this
    rw [Nat.zero_add, hw.cellAt (i * 5 + j) (by omega)]
    exact flatten_at h5 i j cs v hcs hj

set_option maxHeartbeats 4000000 in
set_option maxRecDepth 100000 in
theorem cBuild_any (pa : Option Addr) (pcap : Nat) (p : List FnD) (bud : Int) (w : World) (hp : RdP w pa p.length pcap p) (hbd : R64 bud) (hH : HeadAt w) :
    Calls Tryz.prog 22 #[.agg #[.slice pa p.length pcap], .int .i64 bud] w fun e w' => Below w.heap.size w w' ∧
      ((layE p bud ≠ 0 ∧ e = .returned (.tuple #[.slice none 0 0, .int .i64 (layE p bud)])) ∨
       (layE p bud = 0 ∧ ∃ cs v, codesD p bud = some cs ∧ e = .returned (.tuple #[v, .int .i64 0]) ∧ w'.ownsRow w.heap.size 5 1 v (encI (imgD p cs)).length (u8s (encI (imgD p cs))))) := by
  have HP := hid hp
  have hpl := hp.2.2.1
  have hpl1 := hp.2.1
  unfold maxLen at hpl
  obtain ⟨pl, hpl2⟩ : ∃ v, v = p.length := ⟨_, rfl⟩
  have HLAY := hid (fun (W : World) (hW : Below w.heap.size w W) => Lay_any pa pcap p bud W (hp.below hW) hbd)
  rw [← hpl2] at HP HLAY hpl1 ⊢
  have HPL := hid hpl2
  clear hpl2 hp
  obtain ⟨hb1, hb2⟩ := hbd
  obtain ⟨LE, hLE⟩ : ∃ v, v = layE p bud := ⟨_, rfl⟩
  rw [← hLE] at HLAY ⊢
  have HLE := hid hLE
  clear hLE
  obtain ⟨wa, hwa⟩ : ∃ v, v = w.alloc (Obj.cells #[.slice pa pl pcap] 24) := ⟨_, rfl⟩
  have hba : Below w.heap.size w wa := by rw [hwa]; exact (Below.refl _ _).alloc (Nat.le_refl _) _
  have hsa : wa.heap.size = w.heap.size + 1 := by rw [hwa]; simp
  have ka : wa.heap[w.heap.size]? = some (.cells #[.slice pa pl pcap] 24 (0, 0)) := by rw [hwa]; exact heap_new_at rfl
  go_enter Tryz.func22, Tryz.ntmps22
  go_wp2_with fail
  rw [← hwa]
  clear hwa
  refine (HLAY.out wa hba).mono ?_
  clear HLAY
  rintro e w1 ⟨hb1', hres⟩
  have hsz1 := hb1'.size
  have hbw1 := hba.trans (hb1'.mono hba.size)
  have j0 := (hb1'.block w.heap.size (by omega)).trans ka
  have r0 : w1.cell? ⟨w.heap.size, 0, none⟩ = some (.slice pa pl pcap) := by simp [World.cell?, j0]
  clear ka
  rcases hres with ⟨hne, rfl⟩ | ⟨he0, cs, ca, ccap, hcod, rfl, hrd⟩
  · have hne' : decide (LE = 0) = false := by simpa using hne
    clear HP HLE
    go_wp2
    exact bodyPost_ret (v := .tuple #[.slice none 0 0, .int .i64 LE]) (by simp [results, Tryz.results22, go_sem]) rfl ⟨hbw1, .inl ⟨hne, rfl⟩⟩
  · subst he0
    have HCOD := hid hcod
    have HRD := hid hrd
    obtain ⟨cl, hcl⟩ : ∃ v, v = cs.length := ⟨_, rfl⟩
    rw [← hcl] at HRD ⊢
    have HCL := hid hcl
    clear hcod hrd hcl
    obtain ⟨IB, hIB⟩ : ∃ v, v = w1.heap.size := ⟨_, rfl⟩
    obtain ⟨wb, hwb⟩ : ∃ v, v = w1.alloc (Obj.cells #[.slice none 0 0] 83) := ⟨_, rfl⟩
    have kb : wb.heap[IB]? = some (.cells #[.slice none 0 0] 83 (0, 0)) := by rw [hwb, hIB]; exact heap_new_at rfl
    have hbb : Below w1.heap.size w1 wb := by rw [hwb]; exact (Below.refl _ _).alloc (Nat.le_refl _) _
    obtain ⟨EL, hEL⟩ : ∃ v, v = imgD p cs := ⟨_, rfl⟩
    have hck : chk p = (0, 0, 0) := by
      refine chk_zero (Decidable.byContradiction fun h0 => ?_)
      have h := HLE.out
      unfold layE at h
      rw [if_pos h0] at h
      exact h0 h.symm
    obtain ⟨hwf, hlen, hgl⟩ := img_wf hck HCOD.out
    have HWF := hid hwf
    have HGL : Hid (∀ (i : Nat) (c : CodeD) (f : FnD), cs[i]? = some c → p[i]? = some f → (∀ a ∈ c.places, PlOk p a) ∧ c.places.length ≤ 1000 ∧ EL[i]? = some (entOfD p f c) ∧ f.name.size ≤ 20 ∧ f.file.size ≤ 20) := fun i c f hi hf => by
      refine ⟨(hgl i c hi).1.pl, codes_small HCOD.out (List.mem_of_getElem? hi), ?_, ?_⟩
      · rw [hEL]; unfold imgD; rw [List.getElem?_zipWith, hf, hi]
      · have hh := heads_of hck i f hf
        unfold headB wordB at hh
        simp only [Bool.and_eq_true, decide_eq_true_eq] at hh
        omega
    have HELL : Hid (EL.length = cl) := hid (by rw [hEL]; unfold imgD; rw [List.length_zipWith, hlen, Nat.min_self, HCL.out, hlen])
    have hcp : cl = pl := by rw [HCL.out, HPL.out]; exact hlen
    have hpl12 : pl ≤ 12 := by rw [HPL.out]; exact (good_of hck).len.2
    have HKB := hid kb
    have HIB := hid hIB
    have HEL := hid hEL
    have HR0 := hid r0
    have hIBw : w.heap.size < IB := by omega
    have HBB := hid hbb
    have HBW1 := hid hbw1
    clear hck hwf hlen hgl kb hEL r0 j0 hbb hba hb1' hbw1
    subst hcp
    go_wp2
    rw [← hwb, ← HIB.out]
    clear hwb hIB
    go_loopw [22] (fun i wr => ∃ (k : Nat) (fv : Value) (css : List (List Value)), i = .int .i64 k ∧ k ≤ cl ∧ Below IB w1 wr ∧ wr.heap[IB]? = some (.cells #[fv] 83 (0, 0)) ∧ wr.ownsRow (IB + 1) 90 5 fv k css.flatten ∧ EntsBut (fun b => fv.ownBlock = some b ∨ b = IB) wr css (EL.take k)) (fun i _ => cl - (intOf i).toNat)
    case atStart => exact ⟨0, _, [], rfl, by omega, by rw [HIB.out]; exact HBB.out, HKB.out, World.ownsRow_nil _ _ _ _, by simp, fun i cs x h => by simp at h⟩
    case round =>
      obtain ⟨k, fv, css, rfl, hk, hbel, hbox, hown, hents⟩ := hrel
      have ltIB : IB < wr.heap.size := (Array.getElem?_eq_some_iff.1 hbox).1
      by_cases hkn : k < cl
      · have hkn' : (k : Int) < (cl : Int) := by omega
        obtain ⟨c, hc⟩ : ∃ c, cs[k]? = some c := ⟨_, List.getElem?_eq_getElem (by rw [← HCL.out]; exact hkn)⟩
        obtain ⟨f, hf⟩ : ∃ f, p[k]? = some f := ⟨_, List.getElem?_eq_getElem (by rw [← HPL.out]; exact hkn)⟩
        obtain ⟨g1, g2, g3, g4, g5⟩ := HGL.out k c f hc hf
        have HRC : Hid (∀ W, Below IB w1 W → RdC W ca cl ccap cs) := fun W hW => HRD.out W (fun b _ hb => hW.block b (by rw [HIB.out]; exact hb))
        obtain ⟨sb, soff, scs, rfl, -, hcell, pa', pcap', ta', tcap', rfl, -, -⟩ := (HRC.out wr hbel).2.2.2 k c hc
        have t0 : wr.cell? ⟨sb, soff + k * 3, none⟩ = some (.int .i64 c.first) := hcell 0 _ rfl
        have t1 : wr.cell? ⟨sb, soff + k * 3 + 1, none⟩ = some (.slice pa' c.places.length pcap') := hcell 1 _ rfl
        have t2 : wr.cell? ⟨sb, soff + k * 3 + 2, none⟩ = some (.slice ta' c.tree.length tcap') := hcell 2 _ rfl
        have lt1 : sb < IB := by
          obtain ⟨sb1, soff1, scs1, e1, -, hc1, pa1, pcap1, ta1, tcap1, rfl, -, -⟩ := (HRD.out w1 (fun _ _ _ => rfl)).2.2.2 k c hc
          cases e1
          rw [HIB.out]
          exact World.block_lt_of_cell? w1 _ (hc1 0 _ rfl)
        have HTR : Hid (∀ W : World, (∀ b, b < IB → W.heap[b]? = wr.heap[b]?) → RdPl W pa' c.places.length pcap' c.places ∧ RdS W ta' c.tree.length tcap' c.tree) := fun W hW => by
          obtain ⟨sb1, soff1, scs1, e1, -, hc1, pa1, pcap1, ta1, tcap1, rfl, hpl1, hnd1⟩ := (HRD.out W (fun b _ hb => (hW b (by rw [HIB.out]; exact hb)).trans (hbel.block b (by rw [HIB.out]; exact hb)))).2.2.2 k c hc
          cases e1
          have a1 := hc1 1 _ rfl
          have a2 := hc1 2 _ rfl
          rw [World.cell?_of_block (hW sb lt1)] at a1 a2
          rw [t1] at a1
          rw [t2] at a2
          cases a1
          cases a2
          exact ⟨hpl1, rds_of_nd hnd1⟩
        obtain ⟨fb, foff, ba, bcap, rfl, -, n0, n1, n2, n3, n4, -, -, -⟩ := HP.out.at k f hf
        have HENT := hid (fun (W : World) (hW : Below wr.heap.size wr W) => entryOf_any p (some ⟨fb, foff, none⟩) pcap f ba bcap c pa' pcap' ta' tcap' W (by rw [← HPL.out]; exact HP.out.below (HBW1.out.trans ((hbel.trans (hW.mono (by omega))).mono (by omega)))) (HTR.out W (fun b hb => hW.block b (by omega))).1 g1 g2)
        have upw : ∀ (q : Addr) (u : Value), w.cell? q = some u → wr.cell? q = some u := fun q u h => ((HBW1.out.trans (hbel.mono (by omega))).cell (World.block_lt_of_cell? w _ h)).trans h
        replace n0 := upw _ _ n0
        replace n1 := upw _ _ n1
        replace n2 := upw _ _ n2
        replace n3 := upw _ _ n3
        replace n4 := upw _ _ n4
        have p0 : wr.cell? ⟨w.heap.size, 0, none⟩ = some (.slice (some ⟨fb, foff, none⟩) cl pcap) := (hbel.cell (p := ⟨w.heap.size, 0, none⟩) hIBw).trans HR0.out
        have HSN : Hid (EL.take (k + 1) = EL.take k ++ [entOfD p f c]) := hid (by
          obtain ⟨hlt, he⟩ := List.getElem?_eq_some_iff.1 g3
          rw [List.take_succ_eq_append_getElem hlt, he])
        obtain ⟨E, hE⟩ : ∃ v, v = entOfD p f c := ⟨_, rfl⟩
        have hE1 : E.name = f.name ∧ E.file = f.file ∧ E.tree = c.tree := by rw [hE]; exact ⟨rfl, rfl, rfl⟩
        rw [← hE] at HENT HSN
        rw [← HPL.out] at HENT
        have HE1 := hid hE1
        clear hE hE1 g1 g3 hcell upw
        generalize f.name = nm at *
        generalize f.file = fl at *
        generalize f.params = fp at *
        generalize f.locals = fo at *
        generalize f.body.length = bl at *
        obtain ⟨npl, hnpl⟩ : ∃ v, v = c.places.length := ⟨_, rfl⟩
        obtain ⟨ntr, hntr⟩ : ∃ v, v = c.tree.length := ⟨_, rfl⟩
        rw [← hnpl] at HENT t1 HTR
        rw [← hntr] at HENT t2 HTR
        obtain ⟨nl, hnl⟩ : ∃ v, v = E.lines.length := ⟨_, rfl⟩
        obtain ⟨nx, hnx⟩ : ∃ v, v = E.index.length := ⟨_, rfl⟩
        rw [← hnl] at HENT
        rw [← hnx] at HENT
        generalize c.first = cf at *
        obtain ⟨w2, hw2⟩ : ∃ v, v = wr.alloc (Obj.cells #[.int .i64 cf, .slice pa' npl pcap', .slice ta' ntr tcap'] 87) := ⟨_, rfl⟩
        have hb2 : Below wr.heap.size wr w2 := by rw [hw2]; exact (Below.refl _ _).alloc (Nat.le_refl _) _
        have hs2 : w2.heap.size = wr.heap.size + 1 := by rw [hw2]; simp
        have kS : w2.heap[wr.heap.size]? = some (.cells #[.int .i64 cf, .slice pa' npl pcap', .slice ta' ntr tcap'] 87 (0, 0)) := by rw [hw2]; exact heap_new_at rfl
        have q0 : w2.cell? ⟨wr.heap.size, 0, none⟩ = some (.int .i64 cf) := by simp [World.cell?, kS]
        have q1 : w2.cell? ⟨wr.heap.size, 1, none⟩ = some (.slice pa' npl pcap') := by simp [World.cell?, kS]
        have q2 : w2.cell? ⟨wr.heap.size, 2, none⟩ = some (.slice ta' ntr tcap') := by simp [World.cell?, kS]
        have HNPL := hid hnpl
        have HNTR := hid hntr
        have HNL := hid hnl
        have HNX := hid hnx
        have HOWN := hid hown
        have HENTS := hid hents
        have HBOX := hid hbox
        have HBEL := hid hbel
        have up2 : ∀ (q : Addr) (u : Value), wr.cell? q = some u → w2.cell? q = some u := fun q u h => (hb2.cell (World.block_lt_of_cell? wr _ h)).trans h
        replace n0 := up2 _ _ n0
        replace n1 := up2 _ _ n1
        replace n2 := up2 _ _ n2
        replace n3 := up2 _ _ n3
        replace n4 := up2 _ _ n4
        replace p0 := up2 _ _ p0
        have hfb : fb < IB := by
          obtain ⟨fb', foff', _, _, e, hl, _⟩ := HP.out.at k f hf
          cases e
          omega
        have iI : w2.cell? ⟨IB, 0, none⟩ = some fv := up2 _ _ (by simp [World.cell?, hbox])
        have HLT : Hid (∀ b, b < IB ∨ b = wr.heap.size → b < w2.heap.size ∧ b ≠ IB ∧ fv.ownBlock ≠ some b) := hid (fun b hb => ⟨by omega, by omega, fun e => by have := HOWN.out.lt b e; omega⟩)
        have KS : Hid (∀ W : World, Hid (∀ b, b < IB ∨ b = wr.heap.size → W.heap[b]? = w2.heap[b]?) → W.cell? ⟨IB, 0, none⟩ = some fv → W.cell? ⟨IB, 0, none⟩ = some fv ∧ W.cell? ⟨wr.heap.size, 0, none⟩ = some (.int .i64 cf) ∧ W.cell? ⟨wr.heap.size, 1, none⟩ = some (.slice pa' npl pcap') ∧ W.cell? ⟨wr.heap.size, 2, none⟩ = some (.slice ta' ntr tcap') ∧ W.cell? ⟨w.heap.size, 0, none⟩ = some (.slice (some ⟨fb, foff, none⟩) cl pcap) ∧
            W.cell? ⟨fb, foff + k * 5, none⟩ = some (.string nm) ∧ W.cell? ⟨fb, foff + k * 5 + 1, none⟩ = some (.string fl) ∧ W.cell? ⟨fb, foff + k * 5 + 2, none⟩ = some (.int .i64 fp) ∧ W.cell? ⟨fb, foff + k * 5 + 3, none⟩ = some (.int .i64 fo) ∧ W.cell? ⟨fb, foff + k * 5 + 4, none⟩ = some (.slice ba bl bcap)) := hid (fun W h hI => by
          have eb := fun (b o : Nat) (hb : b < IB ∨ b = wr.heap.size) => World.cell?_of_block (a := ⟨b, o, none⟩) (h.out b hb)
          exact ⟨hI, (eb _ _ (.inr rfl)).trans q0, (eb _ _ (.inr rfl)).trans q1, (eb _ _ (.inr rfl)).trans q2, (eb _ _ (.inl hIBw)).trans p0, (eb _ _ (.inl hfb)).trans n0, (eb _ _ (.inl hfb)).trans n1, (eb _ _ (.inl hfb)).trans n2, (eb _ _ (.inl hfb)).trans n3, (eb _ _ (.inl hfb)).trans n4⟩)
        have HO2 := hid (ownsRow_below hown hb2)
        have HB2 := hid hb2
        have HK2 : Hid (w2.heap[IB]? = some (.cells #[fv] 83 (0, 0))) := hid ((hb2.block IB ltIB).trans hbox)
        obtain ⟨i0, hi, hz0, hz1, hz2⟩ := info_parts Tryz.infoEntry
        clear hnpl hntr hnl hnx hown hents hbox hbel up2 q0 q1 q2 p0 n0 n1 n2 n3 n4 hb2 kS HBW1 HRC lt1
        go_wp2
        rw [← hw2]
        clear hw2 t0 t1 t2
        apply cutB
        case k =>
          intro key
          refine wp_region_last (fun W => W.cell? ⟨IB, 0, none⟩ = some fv ∧ W.cell? ⟨wr.heap.size, 0, none⟩ = some (.int .i64 cf) ∧ W.cell? ⟨wr.heap.size, 1, none⟩ = some (.slice pa' npl pcap') ∧ W.cell? ⟨wr.heap.size, 2, none⟩ = some (.slice ta' ntr tcap') ∧ W.cell? ⟨w.heap.size, 0, none⟩ = some (.slice (some ⟨fb, foff, none⟩) cl pcap) ∧ W.cell? ⟨fb, foff + k * 5, none⟩ = some (.string nm) ∧ W.cell? ⟨fb, foff + k * 5 + 1, none⟩ = some (.string fl) ∧ W.cell? ⟨fb, foff + k * 5 + 2, none⟩ = some (.int .i64 fp) ∧ W.cell? ⟨fb, foff + k * 5 + 3, none⟩ = some (.int .i64 fo) ∧ W.cell? ⟨fb, foff + k * 5 + 4, none⟩ = some (.slice ba bl bcap)) 14 _ (by kernel_rfl) rfl rfl rfl (by kernel_rfl) (by kernel_rfl) (KS.out _ (hid (fun b _ => rfl)) iI) (fun hHeld => ?_)
          refine wpAnyH_take (i := 0) (oi := ⟨some 27, _, _, _, _, none⟩) (v := ?_) rfl (by kernel_rfl) (by kernel_rfl) (by kernel_rfl) (fun _ _ _ h => h) (Or.inl ⟨by rfl, ?_⟩) (by assumption) ?_
          rotate_left
          · intro W hSw
            go_simp
            try with_reducible rfl
          simp only [Act.put, List.setIfInBounds_toArray, List.set_cons_zero, List.set_cons_succ]
          refine wpAnyH_take (i := 1) (oi := ⟨some 28, _, _, _, _, none⟩) (v := ?_) rfl (by kernel_rfl) (by kernel_rfl) (by kernel_rfl) (fun _ _ _ h => h) (Or.inl ⟨by rfl, ?_⟩) (by assumption) ?_
          rotate_left
          · intro W hSw
            go_simp
            try with_reducible rfl
          simp only [Act.put, List.setIfInBounds_toArray, List.set_cons_zero, List.set_cons_succ]
          refine wpAnyH_take (i := 2) (oi := ⟨some 29, _, _, _, _, none⟩) (v := ?_) rfl (by kernel_rfl) (by kernel_rfl) (by kernel_rfl) (fun _ _ _ h => h) (Or.inl ⟨by rfl, ?_⟩) (by assumption) ?_
          rotate_left
          · intro W hSw
            go_simp
            try with_reducible rfl
          simp only [Act.put, List.setIfInBounds_toArray, List.set_cons_zero, List.set_cons_succ]
          refine wpAnyH_take (i := 3) (oi := ⟨some 30, _, _, _, _, none⟩) (v := ?_) rfl (by kernel_rfl) (by kernel_rfl) (by kernel_rfl) (fun _ _ _ h => h) (Or.inl ⟨by rfl, ?_⟩) (by assumption) ?_
          rotate_left
          · intro W hSw
            go_simp
            try with_reducible rfl
          simp only [Act.put, List.setIfInBounds_toArray, List.set_cons_zero, List.set_cons_succ]
          refine wpAnyH_take (i := 4) (oi := ⟨some 31, _, _, _, _, none⟩) (v := ?_) rfl (by kernel_rfl) (by kernel_rfl) (by kernel_rfl) (fun _ _ _ h => h) (Or.inl ⟨by rfl, ?_⟩) (by assumption) ?_
          rotate_left
          · intro W hSw
            go_simp
            try with_reducible rfl
          simp only [Act.put, List.setIfInBounds_toArray, List.set_cons_zero, List.set_cons_succ]
          refine wpAnyH_take (i := 5) (oi := ⟨some 32, _, _, _, _, none⟩) (v := ?_) rfl (by kernel_rfl) (by kernel_rfl) (by kernel_rfl) (fun _ _ _ h => h) (Or.inl ⟨by rfl, ?_⟩) (by assumption) ?_
          rotate_left
          · intro W hSw
            go_simp
            try with_reducible rfl
          simp only [Act.put, List.setIfInBounds_toArray, List.set_cons_zero, List.set_cons_succ]
          refine wpAnyH_take (i := 6) (oi := ⟨some 33, _, _, _, _, none⟩) (v := ?_) rfl (by kernel_rfl) (by kernel_rfl) (by kernel_rfl) (fun _ _ _ h => h) (Or.inl ⟨by rfl, ?_⟩) (by assumption) ?_
          rotate_left
          · intro W hSw
            go_simp
            try with_reducible rfl
          simp only [Act.put, List.setIfInBounds_toArray, List.set_cons_zero, List.set_cons_succ]
          refine wpAnyH_take (i := 7) (oi := ⟨some 34, _, _, _, _, none⟩) (v := ?_) rfl (by kernel_rfl) (by kernel_rfl) (by kernel_rfl) (fun _ _ _ h => h) (Or.inl ⟨by rfl, ?_⟩) (by assumption) ?_
          rotate_left
          · intro W hSw
            go_simp
            try with_reducible rfl
          simp only [Act.put, List.setIfInBounds_toArray, List.set_cons_zero, List.set_cons_succ]
          refine wpAnyH_take (i := 8) (oi := ⟨some 35, _, _, _, _, none⟩) (v := ?_) rfl (by kernel_rfl) (by kernel_rfl) (by kernel_rfl) (fun _ _ _ h => h) (Or.inl ⟨by rfl, ?_⟩) (by assumption) ?_
          rotate_left
          · intro W hSw
            go_simp
            try with_reducible rfl
          simp only [Act.put, List.setIfInBounds_toArray, List.set_cons_zero, List.set_cons_succ]
          refine wpAnyH_take (i := 9) (oi := ⟨some 36, _, _, _, _, none⟩) (v := ?_) rfl (by kernel_rfl) (by kernel_rfl) (by kernel_rfl) (fun _ _ _ h => h) (Or.inl ⟨by rfl, ?_⟩) (by assumption) ?_
          rotate_left
          · intro W hSw
            go_simp
            try with_reducible rfl
          simp only [Act.put, List.setIfInBounds_toArray, List.set_cons_zero, List.set_cons_succ]
          refine wpAnyH_ready (rs := [10]) (by kernel_rfl) (by simp) ?_
          refine AllReadyH.cons rfl (fun K hK => ?_) AllReadyH.nil
          go_simp
          go_wp2_with (go_at_call 32; refine (HENT.out w2.drew HB2.out.drew).mono ?_; rintro e w4 ⟨la, lcap, xa, xcap, rfl, hl4, hx4, hb4⟩)
          have HS4 : Hid (∀ b, b < IB ∨ b = wr.heap.size → w4.heap[b]? = w2.heap[b]?) := hid (fun b hb => hb4.block b (HLT.out b hb).1)
          have i4 : w4.cell? ⟨IB, 0, none⟩ = some fv := (hb4.cell (p := ⟨IB, 0, none⟩) (by show IB < w2.heap.size; omega)).trans iI
          have HS4a : Hid (∀ (o : Obj) (b : Nat), b < IB ∨ b = wr.heap.size → (w4.alloc o).heap[b]? = w2.heap[b]?) := hid (fun o b hb => (heap_alloc_old _ _ (Nat.lt_of_lt_of_le (HLT.out b hb).1 hb4.size)).trans (HS4.out b hb))
          have i4a : ∀ o : Obj, (w4.alloc o).cell? ⟨IB, 0, none⟩ = some fv := fun o => (World.cell?_alloc_lt _ _ _ (World.block_lt_of_cell? w4 _ i4)).trans i4
          clear hHeld
          refine hK.out _ _ (KS.out _ HS4 i4) (fun hHeld => ?_)
          clear hK K
          refine wpAnyH_ready (rs := [11]) (by kernel_rfl) (by simp) ?_
          refine AllReadyH.cons rfl (fun K hK => ?_) AllReadyH.nil
          go_simp
          clear hHeld
          refine hK.out _ _ (KS.out _ (hid (fun b hb => HS4a.out _ b hb)) (i4a _)) (fun hHeld => ?_)
          clear hK K
          refine wpAnyH_ready (rs := [12]) (by kernel_rfl) (by simp) ?_
          refine AllReadyH.cons rfl (fun K hK => ?_) AllReadyH.nil
          have hd4 : w2.drew.heap.size = w2.heap.size := rfl
          have hs4 := hb4.size
          refine step_append_lies _ rfl (.tmp 28) (.tmp 38) 81 rfl (IB + 1) 90 i0 (.agg #[.string ⟨#[]⟩, .string ⟨#[]⟩, .slice none 0 0, .slice none 0 0, .slice none 0 0]) 5 104 Tryz.underlying81 hi hz0 hz1 hz2 rfl (by decide) fv k _ (by simp [Act.eval]) ((ownsRow_below HO2.out.drew hb4).alloc _) ⟨w4.heap.size, 0, none⟩ 1 1 [.string nm, .string fl, .slice la nl lcap, .slice xa nx xcap, .slice ta' ntr tcap'] (by simp [Act.eval]) rfl (ent5_new_at rfl _ _ _ _ _ _) (ent5_ones _ _ _ _ _ _ _ _ _ _ _) (by decide) (by unfold maxLen; omega) (by omega) (by simp; omega) _ rfl ?_
          intro g' cap' w5 hown5 hgrow5 hat5 hlt5
          have HS5 : Hid (∀ b, b < IB ∨ b = wr.heap.size → w5.heap[b]? = w2.heap[b]?) := hid (fun b hb => (hgrow5.block b (by have := (HLT.out b hb).1; simp; omega) (fun e => (HLT.out b hb).2.2 e.symm)).trans (HS4a.out _ b hb))
          have kI5 : w5.heap[IB]? = some (.cells #[fv] 83 (0, 0)) := (hgrow5.block IB (by simp; omega) (fun e => by have := (HOWN.out.lt IB e.symm).1; omega)).trans ((heap_alloc_old _ _ (by omega)).trans ((hb4.block IB (by show IB < w2.heap.size; omega)).trans HK2.out))
          have i5 : w5.cell? ⟨IB, 0, none⟩ = some fv := by simp [World.cell?, kI5]
          have z5 : w5.frozen? ⟨IB, 0, none⟩ = false := by simp [World.frozen?, kI5]
          clear hHeld
          refine hK.out _ _ (KS.out _ HS5 i5) (fun hHeld => ?_)
          clear hK K
          refine wpAnyH_take (i := 13) (oi := ⟨some 40, _, _, _, _, none⟩) (v := ?_) rfl (by kernel_rfl) (by kernel_rfl) (by kernel_rfl) (fun _ _ _ h => h) (Or.inl ⟨by rfl, ?_⟩) (by assumption) ?_
          rotate_left
          · intro W hSw
            go_simp
            try with_reducible rfl
          simp only [Act.put, List.setIfInBounds_toArray]
          refine wpAnyH_done (by kernel_rfl) ?_ _
          unfold lastQ
          clear hHeld
          go_simp
          all_goals
            have hgs : w4.heap.size + 1 ≤ w5.heap.size := by have := hgrow5.size; simpa using this
            have hLg : ∀ b, b < w4.heap.size → fv.ownBlock ≠ some b → w5.heap[b]? = w4.heap[b]? ∧ ¬ ((Value.slice (some ⟨g', 0, none⟩) (k + 1) cap').ownBlock = some b) ∧ b < w5.heap.size := fun b hb hne => by
              refine ⟨(hgrow5.block b (by simp; omega) (fun e => hne e.symm)).trans (heap_alloc_old _ _ hb), fun e => ?_, by omega⟩
              simp [Value.ownBlock] at e
              subst e
              rcases hat5 with h | h
              · exact hne h
              · have : (w4.alloc (Obj.cells #[Value.string nm, Value.string fl, Value.slice la nl lcap, Value.slice xa nx xcap, Value.slice ta' ntr tcap'] 90)).heap.size = w4.heap.size + 1 := by simp
                omega
            have hbel5 : Below IB w1 w5 := (((HBEL.out.trans (HB2.out.mono (Nat.le_of_lt ltIB))).drew.trans (hb4.mono (by show IB ≤ w2.heap.size; omega))).alloc (by omega) _).grown hgrow5 (by simp; omega) (fun b hb => by have := (HOWN.out.lt b hb).1; omega)
            have hwr4 : ∀ b, b < wr.heap.size → w4.heap[b]? = wr.heap[b]? := fun b hb => (hb4.block b (by show b < w2.heap.size; omega)).trans (HB2.out.block b hb)
            have hents5 : EntsBut (fun b => (Value.slice (some ⟨g', 0, none⟩) (k + 1) cap').ownBlock = some b ∨ b = IB) w5 (css ++ [[Value.string nm, .string fl, .slice la nl lcap, .slice xa nx xcap, .slice ta' ntr tcap']]) (EL.take (k + 1)) := by
              rw [HSN.out]
              refine EntsBut.snoc (HENTS.out.same (fun b hb hne => ?_)) rfl (fun W hW => ?_)
              · have hne1 : fv.ownBlock ≠ some b := fun e => hne (.inl e)
                obtain ⟨x1, x2, x3⟩ := hLg b (by omega) hne1
                exact ⟨x3, fun e => e.elim x2 (fun e => hne (.inr e)), x1.trans (hwr4 b hb)⟩
              · have hd2 : w2.drew.heap.size = w2.heap.size := rfl
                obtain ⟨y1, y2, y3⟩ := HE1.out
                have hown1 : ∀ (v : Value) (n : Nat) (xs : List Value), w4.ownsRow w2.drew.heap.size 150 2 v n xs → W.ownsRow w2.drew.heap.size 150 2 v n xs := fun v n xs hv => owns_same hv (fun b hb => by
                  have h1 := hv.lt b hb
                  obtain ⟨x1, x2, x3⟩ := hLg b h1.2 (fun e => by have := (HOWN.out.lt b e).2; omega)
                  exact (hW b x3 (fun e => e.elim x2 (fun e => by omega))).trans x1)
                obtain ⟨la1, lc1, e1, r1⟩ := rdsOf (hown1 _ _ _ hl4) HNL.out.symm
                obtain ⟨xa1, xc1, e2, r2⟩ := rdsOf (hown1 _ _ _ hx4) HNX.out.symm
                cases e1
                cases e2
                have r3 := (HTR.out W (fun b hb => by
                  obtain ⟨x1, x2, x3⟩ := hLg b (by omega) (fun e => by have := (HOWN.out.lt b e).1; omega)
                  exact (hW b x3 (fun e => e.elim x2 (fun e => by omega))).trans (x1.trans (hwr4 b (by omega))))).2
                rw [HNL.out] at r1 ⊢
                rw [HNX.out] at r2 ⊢
                rw [HNTR.out, ← y3] at r3 ⊢
                exact ⟨_, _, _, _, _, _, by rw [y1, y2], r1, r2, r3, by rw [y1]; unfold maxLen; omega, by rw [y2]; unfold maxLen; omega⟩
            have hfin : w5.ownsRow (IB + 1) 90 5 (.slice (some ⟨g', 0, none⟩) (k + 1) cap') (k + 1) (css ++ [[Value.string nm, .string fl, .slice la nl lcap, .slice xa nx xcap, .slice ta' ntr tcap']]).flatten ∧ EntsBut (fun b => (Value.slice (some ⟨g', 0, none⟩) (k + 1) cap').ownBlock = some b ∨ b = IB) w5 (css ++ [[Value.string nm, .string fl, .slice la nl lcap, .slice xa nx xcap, .slice ta' ntr tcap']]) (EL.take (k + 1)) ∧ Below IB w1 w5 ∧ w5.heap[IB]? = some (.cells #[fv] 83 (0, 0)) := ⟨by simpa using hown5, hents5, hbel5, kI5⟩
            clear hs4 hd4 hgs hLg hbel5 hwr4 hents5 i5 z5 kI5 HS5 hown5 hgrow5 hat5 hlt5 i4a HS4a i4 HS4 hl4 hx4 hb4
            revert hfin
            revert w5 cap' g' w4 xcap xa lcap la
            exact key.out
        intro w4 la lcap xa xcap g' cap' w5 ⟨f1, f2, f3, f4⟩
        obtain ⟨w6, hw6⟩ : ∃ v, v = w5.setCell ⟨IB, 0, none⟩ (.slice (some ⟨g', 0, none⟩) (k + 1) cap') := ⟨_, rfl⟩
        have hot : ∀ b, b ≠ IB → w6.heap[b]? = w5.heap[b]? := fun b hb => by rw [hw6, Below.heap_setCell _ _ _ _ hb]
        have hk6 : w6.heap[IB]? = some (.cells #[.slice (some ⟨g', 0, none⟩) (k + 1) cap'] 83 (0, 0)) := by
          rw [hw6, heap_setCell_same _ IB 0 _ _ _ f4]
          rfl
        have hb6 : Below IB w1 w6 := by rw [hw6]; exact f3.setCell (p := ⟨IB, 0, none⟩) (Nat.le_refl _) _
        have ho6 := owns_same (w' := w6) f1 (fun b hb => hot b (fun e => by have := (f1.lt b hb).1; omega))
        have hs6 : w6.heap.size = w5.heap.size := by rw [hw6]; simp
        have he6 := f2.same (L' := fun b => (Value.slice (some ⟨g', 0, none⟩) (k + 1) cap').ownBlock = some b ∨ b = IB) (w' := w6) (fun b hb hne => ⟨by omega, hne, hot b (fun e => hne (.inr e))⟩)
        have HREL := hid (⟨hb6, hk6, ho6, he6⟩ : _ ∧ _ ∧ _ ∧ _)
        rw [← hw6]
        clear hw6 hot hk6 hb6 ho6 hs6 he6 f1 f2 f3 f4 iI HENT HTR KS HLT HO2 HB2 HK2
        go_wp2
        go_roundw
        case rel =>
          obtain ⟨x1, x2, x3, x4⟩ := HREL.out
          exact ⟨k + 1, _, _, by go_num, by omega, x1, x2, x3, x4⟩
        case measure => simp [intOf]; omega
      · have hke : k = cl := by omega
        subst hke
        have hkn' : decide ((k : Int) < (k : Int)) = false := by simp
        have hE0 : EL.take k = EL := List.take_of_length_le (by rw [HELL.out]; exact Nat.le_refl _)
        rw [hE0] at hents
        have hELL := HELL.out
        obtain ⟨a1, c1, rfl, hr1⟩ := hents.rd (base := IB + 1) (by rw [hELL]; exact hown)
        have hbw := HBW1.out.trans (hbel.mono (by omega))
        have HEN := hid (iencode_wf a1 EL.length c1 EL wr hr1 (by rw [HEL.out]; exact HWF.out) (hH.below hbw (Nat.le_refl _)))
        have m0 : wr.cell? ⟨IB, 0, none⟩ = some (.slice a1 EL.length c1) := by simp [World.cell?, hbox]
        rw [hELL] at HEN m0
        clear hents hown hr1 hbox
        go_wp2_with fail
        refine HEN.out.mono ?_
        rintro e w7 ⟨v, rfl, ho7, hb7⟩
        have HO7 := hid (owns_low9 ho7 (show w.heap.size ≤ wr.heap.size by omega))
        have HB7 := hid (hbw.trans (hb7.mono (by omega)))
        clear ho7 hb7 HEN
        go_wp2
        exact bodyPost_ret (v := .tuple #[v, .int .i64 0]) (by simp [results, Tryz.results22, go_sem]) rfl ⟨HB7.out, cs, HCOD.out, v, rfl, by rw [← HEL.out]; exact HO7.out⟩

set_option maxHeartbeats 4000000 in
theorem uBuild_any (pa : Option Addr) (pcap : Nat) (p : List FnD) (bud : Int) (w : World) (hp : RdP w pa p.length pcap p) (hbd : R64 bud) (hH : HeadAt w) :
    Calls Tryz.prog 12 #[.agg #[.slice pa p.length pcap], .int .i64 bud] w fun e w' => Below w.heap.size w w' ∧
      ((layE p bud ≠ 0 ∧ e = .returned (.tuple #[.slice none 0 0, .int .i64 (layE p bud)])) ∨
       (layE p bud = 0 ∧ ∃ cs v, codesD p bud = some cs ∧ e = .returned (.tuple #[v, .int .i64 0]) ∧ w'.ownsRow w.heap.size 5 1 v (encI (imgD p cs)).length (u8s (encI (imgD p cs))))) := by
  obtain ⟨wA, hwA⟩ : ∃ wA, wA = w.alloc (Obj.cells #[.slice pa p.length pcap] 24) := ⟨_, rfl⟩
  have hbA : Below w.heap.size w wA := by rw [hwA]; exact (Below.refl _ _).alloc (Nat.le_refl _) _
  have HE := hid (cBuild_any pa pcap p bud wA (hp.below hbA) hbd (hH.below hbA (Nat.le_refl _)))
  clear hp hbd hH
  go_enter Tryz.func12, Tryz.ntmps12
  go_wp2_with fail
  rw [← hwA]
  refine HE.out.mono ?_
  clear HE hwA
  rintro e w1 ⟨hb1, hres⟩
  have HB := hid (hbA.trans (hb1.mono hbA.size))
  have hsA := hbA.size
  clear hb1 hbA
  rcases hres with ⟨hne, rfl⟩ | ⟨he0, cs, v, hcod, rfl, hown⟩
  · have HN := hid hne
    clear hne
    go_wp2
    exact bodyPost_ret (v := .tuple #[.slice none 0 0, .int .i64 (layE p bud)]) (by simp [results, Tryz.results12, go_sem]) rfl ⟨HB.out, .inl ⟨HN.out, rfl⟩⟩
  · have HF := hid (⟨he0, hcod, owns_low9 hown hsA⟩ : _ ∧ _ ∧ _)
    clear hown he0 hcod
    go_wp2
    exact bodyPost_ret (v := .tuple #[v, .int .i64 0]) (by simp [results, Tryz.results12, go_sem]) rfl ⟨HB.out, .inr ⟨HF.out.1, cs, v, HF.out.2.1, rfl, HF.out.2.2⟩⟩
end Go.Proofs.YthaganponmnanaaGreatDoor
