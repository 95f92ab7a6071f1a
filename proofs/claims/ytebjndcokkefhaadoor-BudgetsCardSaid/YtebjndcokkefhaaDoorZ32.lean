/- Contracts of the developers' code.PlaceOf, code.BegunAt, (*run.Run).Spots, machine.reversed. The pcs of a run, as plain data; bounds of codes; nothing is claimed of the program here. Contracts of the developers' (*run.Run).Spots and machine.reversed. -/
import Derived.Test.YtebjndcokkefhaaDoorZ31
namespace Go.Proofs.YtebjndcokkefhaaDoor
open Go.RowKit

def placeOf (inst op : Int) : List PlD → Nat
  | [] => 0
  | x :: r => if x.inst = inst ∧ x.op = op then 0 else placeOf inst op r + 1
def begunAt (pc : Int) : List (Int × Int) → Nat → Nat
  | [], _ => 0
  | x :: r, k => if x.2 = pc then k + 1 else begunAt pc r (k + 1)

set_option maxHeartbeats 4000000 in
set_option maxRecDepth 100000 in
theorem cPlaceOf_any (c : CodeD) (pa : Option Addr) (pcap : Nat) (ta : Option Addr) (tcap : Nat) (inst op : Int) (w : World) (hp : RdPl w pa c.places.length pcap c.places) :
    Calls Tryd.prog 60 #[.agg #[.int .i64 c.first, .slice pa c.places.length pcap, .slice ta c.tree.length tcap], .int .i64 inst, .int .i64 op] w fun e w' => e = .returned (.int .i64 (placeOf inst op c.places : Nat)) ∧ Below w.heap.size w w' := by
  obtain ⟨first, places, tree⟩ := c
  dsimp only at hp ⊢
  have hpc := hp.2.1
  have hpm := hp.2.2.1
  unfold maxLen at hpm
  have HP := hid hp
  obtain ⟨n, hn⟩ : ∃ v, v = places.length := ⟨_, rfl⟩
  rw [← hn] at hpc ⊢
  have HN := hid hn
  generalize tree.length = m at *
  clear hp hn
  obtain ⟨wb, hwb⟩ : ∃ v, v = w.alloc (Obj.cells #[.int .i64 first, .slice pa n pcap, .slice ta m tcap] 116) := ⟨_, rfl⟩
  have hbb : Below w.heap.size w wb := by rw [hwb]; exact (Below.refl _ _).alloc (Nat.le_refl _) _
  have kb : wb.heap[w.heap.size]? = some (.cells #[.int .i64 first, .slice pa n pcap, .slice ta m tcap] 116 (0, 0)) := by rw [hwb]; exact heap_new_at rfl
  obtain ⟨res, hres⟩ : ∃ v, v = placeOf inst op places := ⟨_, rfl⟩
  rw [← hres]
  have HRES := hid hres
  have HKB := hid kb
  have hltb : w.heap.size < wb.heap.size := (Array.getElem?_eq_some_iff.1 kb).1
  clear hres kb
  go_enter Tryd.func60, Tryd.ntmps60
  go_wp2
  rw [← hwb]
  clear hwb
  go_loopw [12] (fun i wr => ∃ j : Nat, i = .int .i64 j ∧ j ≤ n ∧ res = j + placeOf inst op (places.drop j) ∧ Below wb.heap.size wb wr) (fun i _ => n - (intOf i).toNat)
  case atStart => exact ⟨0, rfl, by omega, by rw [HRES.out]; simp, Below.refl _ _⟩
  case round =>
    obtain ⟨j, rfl, hj, hr, hbel⟩ := hrel
    have hbw := hbb.trans (hbel.mono hbb.size)
    by_cases hjn : j < n
    · have hjn' : (j : Int) < (n : Int) := by omega
      obtain ⟨x, hx⟩ : ∃ x, places[j]? = some x := ⟨_, List.getElem?_eq_getElem (by rw [← HN.out]; exact hjn)⟩
      obtain ⟨b, off, cs, rfl, -, hcell, rfl⟩ := HP.out.2.2.2 j x hx
      have up : ∀ (q : Addr) (u : Value), w.cell? q = some u → wr.cell? q = some u := fun q u h => (hbw.cell (World.block_lt_of_cell? w _ h)).trans h
      have t0 : wr.cell? ⟨b, off + j * 3, none⟩ = some (.int .i64 x.fn) := up _ _ (hcell 0 _ rfl)
      have t1 : wr.cell? ⟨b, off + j * 3 + 1, none⟩ = some (.int .i64 x.op) := up _ _ (hcell 1 _ rfl)
      have t2 : wr.cell? ⟨b, off + j * 3 + 2, none⟩ = some (.int .i64 x.inst) := up _ _ (hcell 2 _ rfl)
      have hdr : places.drop j = x :: places.drop (j + 1) := by
        obtain ⟨hlt, he⟩ := List.getElem?_eq_some_iff.1 hx
        rw [List.drop_eq_getElem_cons hlt, he]
      rw [hdr] at hr
      have ltb := World.block_lt_of_cell? wr _ t0
      simp only at ltb
      have HR := hid hr
      have HBL := hid hbel
      obtain ⟨xf, xo, xi⟩ := x
      dsimp only at *
      have HB2 : Hid (∀ A : Obj, Below wb.heap.size wb (wr.alloc A)) := fun A => hbel.alloc hbel.size A
      have HB3 : Hid (∀ A : Obj, Below w.heap.size w (wr.alloc A)) := fun A => hbw.alloc hbw.size A
      clear hr hcell up hdr hx hbel hbw
      by_cases h1 : xi = inst
      · subst h1
        by_cases h2 : xo = op
        · subst h2
          have HE : Hid (res = j) := by
            have h := HR.out
            unfold placeOf at h
            rw [if_pos ⟨rfl, rfl⟩] at h
            exact h
          go_wp2
          exact bodyPost_ret (v := .int .i64 j) (by simp [results, Tryd.results60, go_sem]) rfl ⟨by rw [HE.out], HB3.out _⟩
        · have h2' : (xo == op) = false := by simpa using h2
          have HE : Hid (res = (j + 1 : Nat) + placeOf xi op (places.drop (j + 1))) := by
            have h := HR.out
            unfold placeOf at h
            rw [if_neg (fun e => h2 e.2)] at h
            show res = _
            omega
          go_wp2
          go_roundw
          case rel => exact ⟨j + 1, by go_num, by omega, HE.out, HB2.out _⟩
          case measure => simp [intOf]; omega
      · have h1' : (xi == inst) = false := by simpa using h1
        have HE : Hid (res = (j + 1 : Nat) + placeOf inst op (places.drop (j + 1))) := by
          have h := HR.out
          unfold placeOf at h
          rw [if_neg (fun e => h1 e.1)] at h
          show res = _
          omega
        go_wp2
        go_roundw
        case rel => exact ⟨j + 1, by go_num, by omega, HE.out, HB2.out _⟩
        case measure => simp [intOf]; omega
    · have hje : j = n := by omega
      subst hje
      have hjn' : decide ((j : Int) < (j : Int)) = false := by simp
      have HE : Hid (res = j) := by
        have hd : places.drop j = [] := List.drop_of_length_le (by rw [← HN.out]; exact Nat.le_refl _)
        rw [hd] at hr
        exact hr
      have k1 := (hbel.block w.heap.size hltb).trans HKB.out
      have z1 : wr.cell? ⟨w.heap.size, 1, none⟩ = some (.slice pa j pcap) := by simp [World.cell?, k1]
      clear hr k1
      go_wp2
      exact bodyPost_ret (v := .int .i64 j) (by simp [results, Tryd.results60, go_sem]) rfl ⟨by rw [HE.out], hbw⟩

set_option maxHeartbeats 4000000 in
set_option maxRecDepth 100000 in
theorem begunAt_any (c : CodeD) (pa : Option Addr) (pcap : Nat) (ta : Option Addr) (tcap : Nat) (pc : Int) (w : World) (hp : RdNd w ta c.tree.length tcap c.tree) (hsm : c.tree.length ≤ 100000) :
    Calls Tryd.prog 61 #[.agg #[.int .i64 c.first, .slice pa c.places.length pcap, .slice ta c.tree.length tcap], .int .i64 pc] w fun e w' => e = .returned (.int .i64 (begunAt pc c.tree 0 : Nat)) ∧ Below w.heap.size w w' := by
  obtain ⟨first, places, tree⟩ := c
  dsimp only at hp hsm ⊢
  have hpc := hp.2.1
  have hpm := hp.2.2.1
  unfold maxLen at hpm
  have HP := hid hp
  obtain ⟨n, hn⟩ : ∃ v, v = tree.length := ⟨_, rfl⟩
  rw [← hn] at hpc hsm ⊢
  have HN := hid hn
  generalize places.length = m at *
  clear hp hn
  obtain ⟨wb, hwb⟩ : ∃ v, v = w.alloc (Obj.cells #[.int .i64 first, .slice pa m pcap, .slice ta n tcap] 116) := ⟨_, rfl⟩
  have hbb : Below w.heap.size w wb := by rw [hwb]; exact (Below.refl _ _).alloc (Nat.le_refl _) _
  obtain ⟨res, hres⟩ : ∃ v, v = begunAt pc tree 0 := ⟨_, rfl⟩
  rw [← hres]
  have HRES := hid hres
  clear hres
  go_enter Tryd.func61, Tryd.ntmps61
  go_wp2
  rw [← hwb]
  clear hwb
  go_loopw [10] (fun i wr => ∃ j : Nat, i = .int .i64 j ∧ j ≤ n ∧ res = begunAt pc (tree.drop j) j ∧ Below w.heap.size w wr) (fun i _ => n - (intOf i).toNat)
  case atStart => exact ⟨0, rfl, by omega, by rw [HRES.out]; simp, hbb⟩
  case round =>
    obtain ⟨j, rfl, hj, hr, hbw⟩ := hrel
    by_cases hjn : j < n
    · have hjn' : (j : Int) < (n : Int) := by omega
      obtain ⟨x, hx⟩ : ∃ x, tree[j]? = some x := ⟨_, List.getElem?_eq_getElem (by rw [← HN.out]; exact hjn)⟩
      obtain ⟨b, off, cs, rfl, -, hcell, rfl⟩ := HP.out.2.2.2 j x hx
      have up : ∀ (q : Addr) (u : Value), w.cell? q = some u → wr.cell? q = some u := fun q u h => (hbw.cell (World.block_lt_of_cell? w _ h)).trans h
      have t0 : wr.cell? ⟨b, off + j * 2, none⟩ = some (.int .i64 x.1) := up _ _ (hcell 0 _ rfl)
      have t1 : wr.cell? ⟨b, off + j * 2 + 1, none⟩ = some (.int .i64 x.2) := up _ _ (hcell 1 _ rfl)
      have hdr : tree.drop j = x :: tree.drop (j + 1) := by
        obtain ⟨hlt, he⟩ := List.getElem?_eq_some_iff.1 hx
        rw [List.drop_eq_getElem_cons hlt, he]
      rw [hdr] at hr
      have ltb := World.block_lt_of_cell? wr _ t0
      simp only at ltb
      have HR := hid hr
      obtain ⟨xf, xp⟩ := x
      dsimp only at *
      have HB3 : Hid (∀ A : Obj, Below w.heap.size w (wr.alloc A)) := fun A => hbw.alloc hbw.size A
      have ew : IntKind.i64.wrap ((j : Int) + 1) = (j : Int) + 1 := by rw [IntKind.wrap_i64]; omega
      clear hr hcell up hdr hx hbw
      by_cases h1 : xp = pc
      · subst h1
        have HE : Hid (res = j + 1) := by
          have h := HR.out
          unfold begunAt at h
          rw [if_pos rfl] at h
          exact h
        go_wp2
        exact bodyPost_ret (v := .int .i64 ((j : Int) + 1)) (by simp [results, Tryd.results61, go_sem]) rfl ⟨by rw [HE.out]; rfl, HB3.out _⟩
      · have h1' : (xp == pc) = false := by simpa using h1
        have HE : Hid (res = begunAt pc (tree.drop (j + 1)) (j + 1)) := by
          have h := HR.out
          unfold begunAt at h
          rw [if_neg h1] at h
          exact h
        go_wp2
        go_roundw
        case rel => exact ⟨j + 1, by go_num, by omega, HE.out, HB3.out _⟩
        case measure => simp [intOf]; omega
    · have hje : j = n := by omega
      subst hje
      have hjn' : decide ((j : Int) < (j : Int)) = false := by simp
      have HE : Hid (res = 0) := by
        have hd : tree.drop j = [] := List.drop_of_length_le (by rw [← HN.out]; exact Nat.le_refl _)
        rw [hd] at hr
        exact hr
      have HBW := hid hbw
      clear hr hbw
      go_wp2
      exact bodyPost_ret (v := .int .i64 0) (by simp [results, Tryd.results61, go_sem]) rfl ⟨by rw [HE.out]; rfl, HBW.out⟩
end Go.Proofs.YtebjndcokkefhaaDoor
namespace Go.Proofs.YtebjndcokkefhaaDoor
open Go.RowKit

def CodeBd (c : CodeD) : Prop := (0 ≤ c.first ∧ c.first ≤ 1000) ∧ c.places.length ≤ 1000 ∧ c.tree.length ≤ 1000
theorem layAll_bd (p : List FnD) (bud : Int) : ∀ (n fn : Nat) (room : Int) (l cs : List CodeD), 0 ≤ room → room ≤ 1000 → layAll p bud n fn room l = some cs → (∀ c ∈ l, CodeBd c) → (∀ c ∈ cs, CodeBd c) ∧ cs.length = l.length + n
  | 0, _, _, l, cs, _, _, h, hl => by
    obtain rfl : l = cs := Option.some.inj h
    exact ⟨hl, rfl⟩
  | n + 1, fn, room, l, cs, h0, h1, h, hl => by
    unfold layAll at h
    split at h
    · cases h
    · next hr =>
      have hb := layI_bnd p bud 12 fn [] ⟨room, [], []⟩ ⟨by dsimp only; omega, by dsimp only [List.length_nil]; omega, by simp⟩
      obtain ⟨b1, b2, b3⟩ := hb
      have ih := layAll_bd p bud n (fn + 1) _ _ cs (by omega) (by omega) h (fun c hc => by
        rcases List.mem_append.1 hc with g | g
        · exact hl c g
        · rw [List.mem_singleton.1 g]
          exact ⟨by dsimp only; omega, by dsimp only; omega, by dsimp only; omega⟩)
      refine ⟨ih.1, ?_⟩
      rw [ih.2, List.length_append]
      simp
      omega
theorem codesD_bd {p : List FnD} {bud : Int} {cs : List CodeD} (h : codesD p bud = some cs) : (∀ c ∈ cs, CodeBd c) ∧ cs.length = p.length := by
  have := layAll_bd p bud p.length 0 1000 [] cs (by decide) (by decide) h (fun c hc => by simp at hc)
  exact ⟨this.1, by rw [this.2]; simp⟩
theorem placeOf_le (inst op : Int) : ∀ l : List PlD, placeOf inst op l ≤ l.length
  | [] => Nat.le_refl _
  | x :: r => by
    unfold placeOf
    split
    · omega
    · have := placeOf_le inst op r
      simp
      omega

def noCode : CodeD := ⟨0, [], []⟩
def codeAt (cs : List CodeD) (fn : Int) (c : CodeD) (k : Nat) : CodeD := if k = 0 then (cs[fn.toNat]?).getD noCode else c
/-- The pcs of the physical frames, the outermost first, behind those in l. -/
def pcsF (cs : List CodeD) : List (Int × Int) → CodeD → Nat → List Int → List Int
  | [], _, _, l => l
  | x :: r, c, k, l =>
    if r.length = 0 then l ++ [(codeAt cs x.1 c k).first + placeOf k x.2 (codeAt cs x.1 c k).places] else
    if begunAt (placeOf k x.2 (codeAt cs x.1 c k).places : Nat) (codeAt cs x.1 c k).tree 0 = 0 then pcsF cs r (codeAt cs x.1 c k) 0 (l ++ [(codeAt cs x.1 c k).first + placeOf k x.2 (codeAt cs x.1 c k).places + 1]) else
    pcsF cs r (codeAt cs x.1 c k) (begunAt (placeOf k x.2 (codeAt cs x.1 c k).places : Nat) (codeAt cs x.1 c k).tree 0) l
def spot (x : LiveD) : Int × Int := (x.fn, x.next)
def pcsD (cs : List CodeD) (live : List LiveD) : List Int := (pcsF cs (live.map spot) noCode 0 []).reverse
end Go.Proofs.YtebjndcokkefhaaDoor
namespace Go.Proofs.YtebjndcokkefhaaDoor
open Go.RowKit

theorem Tryd.infoSpot : (Tryd.prog.info? 122).map (fun i => (i.zero, i.size, i.bytes)) = some (some (.agg #[.int .i64 0, .int .i64 0]), 2, 16) := by kernel_rfl

set_option maxHeartbeats 4000000 in
set_option maxRecDepth 100000 in
theorem Spots_any (X : RX) (w0 : World) (P : List FnD) (rb : Nat) (s : StandD) (w : World) (hgd : Good P) (hw : Wf P s) (hR : RunAt X w0 P rb w s) :
    Calls Tryd.prog 59 #[.pointer (some ⟨rb, 0, none⟩)] w fun e w' => ∃ a cap, e = .returned (.slice a s.live.length cap) ∧
      w'.ownsRow w.heap.size 122 2 (.slice a s.live.length cap) s.live.length ((s.live.map spot).map ndCells).flatten ∧ Below w.heap.size w w' := by
  obtain ⟨pa, pcap, fv, hk, hp0, hb, hrb, hown0, hvr, hkx⟩ := hR
  have HLV := hid hw.live
  have HG := hid hgd
  have hlen := hw.len
  obtain ⟨st, sv, live⟩ := s
  simp only at *
  obtain ⟨nl, hnl⟩ : ∃ v, v = live.length := ⟨_, rfl⟩
  rw [← hnl] at hown0 hlen ⊢
  obtain ⟨va, vcap, rfl, hvc, hvm, hvg⟩ : ∃ va vcap, fv = .slice va nl vcap ∧ nl ≤ vcap ∧ vcap ≤ maxLen ∧ (0 < nl → ∃ g, va = some ⟨g, 0, none⟩) := by
    rcases hown0.2 with ⟨h1, h2⟩ | ⟨g, c', cur, h1, _, _, h3, h4, _⟩
    · exact ⟨none, 0, by rw [h1, h2], by omega, by unfold maxLen; omega, fun h => by omega⟩
    · exact ⟨_, c', h1, h3, h4, fun _ => ⟨g, rfl⟩⟩
  have HNL := hid hnl
  have HROW : Hid (∀ k x g, live[k]? = some x → x.locals.length ≤ 8 → va = some ⟨g, 0, none⟩ → ∀ i u, (frmCells x)[i]? = some u → w.cell? ⟨g, k * 10 + i, none⟩ = some u) := fun k x g hx h8 hva i u hu => by
    subst hva
    have hkl : k < live.length := (List.getElem?_eq_some_iff.1 hx).1
    have hi : i < 10 := by
      have := (List.getElem?_eq_some_iff.1 hu).1
      simp [frmCells, pad8_len h8] at this; omega
    have hall : ∀ c ∈ live.map frmCells, c.length = 10 := fun c hc => by
      obtain ⟨y, hy, rfl⟩ := List.mem_map.1 hc
      simp [frmCells, pad8_len (wf8' HG.out (HLV.out y hy))]
    rw [hown0.cellAt (k * 10 + i) (by omega), flatten_get 10 _ k i hall (by simpa using hkl) hi]
    simp only [List.getD, List.getElem?_map, hx, Option.map_some, Option.getD_some]
    exact hu
  unfold maxLen at hvm
  have r1 : w.cell? ⟨rb, 1, none⟩ = some (.slice va nl vcap) := by simp [World.cell?, hk]
  clear hnl hown0 hp0 hw hgd hk hb hvr hkx
  go_enter Tryd.func59, Tryd.ntmps59
  have hrlt := World.block_lt_of_cell? w _ r1
  simp only at hrlt
  obtain ⟨sp, hsp⟩ : ∃ v, v = live.map spot := ⟨_, rfl⟩
  rw [← hsp]
  have hspl : sp.length = nl := by rw [hsp, HNL.out]; simp
  have HSP : Hid (∀ k x, live[k]? = some x → sp[k]? = some (spot x)) := fun k x hx => by rw [hsp, List.getElem?_map, hx]; rfl
  clear hsp
  obtain ⟨i0, hi, hz0, hz1, hz2⟩ := info_parts Tryd.infoSpot
  go_wp2
  go_loopw [3, 11] (fun lv i wr => ∃ j : Nat, i = .int .i64 j ∧ j ≤ nl ∧ wr.ownsRow w.heap.size 122 2 lv j ((sp.take j).map ndCells).flatten ∧ Below w.heap.size w wr) (fun _ i _ => nl - (intOf i).toNat)
  case atStart => exact ⟨0, rfl, by omega, World.ownsRow_nil _ _ _ _, Below.refl _ _⟩
  case round =>
    obtain ⟨j, rfl, hj, hown, hbel⟩ := hrel
    have hsw := hbel.size
    by_cases hjn : j < nl
    · have hjn' : (j : Int) < (nl : Int) := by omega
      obtain ⟨x, hx⟩ : ∃ x, live[j]? = some x := ⟨_, List.getElem?_eq_getElem (by rw [← HNL.out]; exact hjn)⟩
      have hwx := HLV.out x (List.mem_of_getElem? hx)
      have hx8 := wf8' HG.out hwx
      obtain ⟨g, rfl⟩ := hvg (by omega)
      have hcell := HROW.out j x g hx hx8 rfl
      have hsx := HSP.out j x hx
      obtain ⟨l0, l1, l2, l3, l4, l5, l6, l7, hpad⟩ := frm_array x hx8
      have hfc : frmCells x = [.int .i64 x.fn, .int .i64 x.next, .int .i64 l0, .int .i64 l1, .int .i64 l2, .int .i64 l3, .int .i64 l4, .int .i64 l5, .int .i64 l6, .int .i64 l7] := by unfold frmCells; rw [hpad]; rfl
      rw [hfc] at hcell
      have up : ∀ (q : Addr) (u : Value), w.cell? q = some u → wr.cell? q = some u := fun q u h => (hbel.cell (World.block_lt_of_cell? w _ h)).trans h
      have t0 : wr.cell? ⟨g, j * 10, none⟩ = some (.int .i64 x.fn) := up _ _ (hcell 0 _ rfl)
      have t1 : wr.cell? ⟨g, j * 10 + 1, none⟩ = some (.int .i64 x.next) := up _ _ (hcell 1 _ rfl)
      have t2 : wr.cell? ⟨g, j * 10 + 2, none⟩ = some (.int .i64 l0) := up _ _ (hcell 2 _ rfl)
      have t3 : wr.cell? ⟨g, j * 10 + 3, none⟩ = some (.int .i64 l1) := up _ _ (hcell 3 _ rfl)
      have t4 : wr.cell? ⟨g, j * 10 + 4, none⟩ = some (.int .i64 l2) := up _ _ (hcell 4 _ rfl)
      have t5 : wr.cell? ⟨g, j * 10 + 5, none⟩ = some (.int .i64 l3) := up _ _ (hcell 5 _ rfl)
      have t6 : wr.cell? ⟨g, j * 10 + 6, none⟩ = some (.int .i64 l4) := up _ _ (hcell 6 _ rfl)
      have t7 : wr.cell? ⟨g, j * 10 + 7, none⟩ = some (.int .i64 l5) := up _ _ (hcell 7 _ rfl)
      have t8 : wr.cell? ⟨g, j * 10 + 8, none⟩ = some (.int .i64 l6) := up _ _ (hcell 8 _ rfl)
      have t9 : wr.cell? ⟨g, j * 10 + 9, none⟩ = some (.int .i64 l7) := up _ _ (hcell 9 _ rfl)
      have ltg := World.block_lt_of_cell? wr _ t0
      simp only at ltg
      have hfl2 : ((sp.take j).map ndCells).flatten ++ [.int .i64 x.fn, .int .i64 x.next] = ((sp.take (j + 1)).map ndCells).flatten := by
        obtain ⟨hjf, he⟩ := List.getElem?_eq_some_iff.1 hsx
        rw [List.take_succ_eq_append_getElem hjf, he, List.map_append, List.flatten_append]
        simp [ndCells, spot]
      have HF2 := hid hfl2
      have HOW := hid hown
      obtain ⟨xf, xn, xl⟩ := x
      dsimp only at *
      clear hfl2 hcell up hwx hx hsx hfc hpad hown
      go_wp2_with (at_builtin; refine wpList_append_lies _ rfl (.tmp 15) (.tmp 21) 119 rfl w.heap.size 122 i0 (.agg #[.int .i64 0, .int .i64 0]) 2 16 Tryd.underlying119 hi hz0 hz1 hz2 rfl (by decide) _ _ _ rfl ((HOW.out.alloc _).alloc _) ⟨wr.heap.size + 1, 0, none⟩ 1 1 [.int .i64 xf, .int .i64 xn] rfl rfl (new2_at (by simp) _ _ _) (one2 _ _) (by decide) (by unfold maxLen; omega) (by omega) (by simp; omega) _ rfl ?_)
      intro g' cap' w5 hown5 hgrow5 hat5 hlt5
      rw [← List.map_take, HF2.out] at hown5
      have hb5 : Below w.heap.size w w5 := ((hbel.alloc hsw _).alloc (by simp; omega) _).grown hgrow5 (by simp; omega) (fun k hk => (HOW.out.lt k hk).1)
      have HO5 := hid hown5
      have HB5 := hid hb5
      clear hown5 hgrow5 hat5 hlt5 hb5 HOW
      go_wp2
      go_roundw
      case rel => exact ⟨j + 1, by go_num, by omega, HO5.out, HB5.out⟩
      case measure => simp [intOf]; omega
    · have hje : j = nl := by omega
      subst hje
      have hjn' : decide ((j : Int) < (j : Int)) = false := by simp
      have htk : sp.take j = sp := List.take_of_length_le (by rw [hspl]; exact Nat.le_refl _)
      rw [htk] at hown
      obtain ⟨la, lcap, rfl⟩ : ∃ la lcap, u3 = .slice la j lcap := by
        rcases hown.2 with ⟨h1, h2⟩ | ⟨g, c', cur, h1, _⟩
        · exact ⟨none, 0, by rw [h1, h2]⟩
        · exact ⟨_, _, h1⟩
      have HOW := hid hown
      clear hown htk
      go_wp2
      exact bodyPost_ret (v := .slice la j lcap) (by simp [results, Tryd.results59, go_sem]) rfl ⟨la, lcap, rfl, HOW.out, hbel⟩

theorem new1_at {w : World} {n : Nat} (h : w.heap.size = n) (a : Value) (t : TypeId) : ∀ j u, [a][j]? = some u → (w.alloc (.cells #[a] t)).cell? ((⟨n, 0, none⟩ : Addr).add j) = some u := by
  subst h
  intro j u hu
  match j, hu with
  | 0, hu => simp at hu; subst hu; simp [Addr.add]
theorem one1 (a : Int) : ∀ u ∈ [Value.int .i64 a], u.oneCell' = true := by
  intro u hu; simp at hu; subst hu; rfl

set_option maxHeartbeats 4000000 in
set_option maxRecDepth 100000 in
theorem reversed_any (a : Option Addr) (cap : Nat) (l : List Int) (w : World) (hl : Rd .i64 w a l.length cap l) (h20 : l.length ≤ 1000) :
    Calls Tryd.prog 62 #[.slice a l.length cap] w fun e w' => ∃ a' cap', e = .returned (.slice a' l.length cap') ∧ w'.ownsRow w.heap.size 3 1 (.slice a' l.length cap') l.length (ints l.reverse) ∧ Below w.heap.size w w' := by
  have HL := hid hl
  have hcap := hl.hcap
  have hmax := hl.hmax
  unfold maxLen at hmax
  obtain ⟨n, hn⟩ : ∃ v, v = l.length := ⟨_, rfl⟩
  rw [← hn] at HL hcap h20 ⊢
  have HN := hid hn
  clear hl hn
  go_enter Tryd.func62, Tryd.ntmps62
  obtain ⟨i0, hi, hz0, hz1, hz2⟩ := info_parts Tryd.infoInt
  have ew : IntKind.i64.wrap ((n : Int) - 1) = (n : Int) - 1 := by rw [IntKind.wrap_i64]; omega
  go_wp2
  clear ew
  go_loopw [3, 4] (fun lv i wr => ∃ j : Nat, i = .int .i64 ((n : Int) - 1 - j) ∧ j ≤ n ∧ wr.ownsRow w.heap.size 3 1 lv j (ints (l.reverse.take j)) ∧ Below w.heap.size w wr) (fun _ i _ => (intOf i + 1).toNat)
  case atStart => exact ⟨0, by simp, by omega, World.ownsRow_nil _ _ _ _, Below.refl _ _⟩
  case round =>
    obtain ⟨j, rfl, hj, hown, hbel⟩ := hrel
    have hsw := hbel.size
    by_cases hjn : j < n
    · obtain ⟨k, hk⟩ : ∃ k, k = n - 1 - j := ⟨_, rfl⟩
      have hki : (n : Int) - 1 - j = (k : Int) := by omega
      rw [hki]
      have hkn : (k : Int) < (n : Int) := by omega
      have hkn2 : k < n := by omega
      have hk0 : (0 : Int) ≤ (k : Int) := by omega
      obtain ⟨b, off, rfl, c0⟩ := HL.out.cell k hkn2
      have t0 : wr.cell? ⟨b, off + k, none⟩ = some (.int .i64 (l.getD k 0)) := (hbel.cell (World.block_lt_of_cell? w _ c0)).trans c0
      have ltb := World.block_lt_of_cell? wr _ t0
      simp only at ltb
      have hfl2 : ints (l.reverse.take j) ++ [.int .i64 (l.getD k 0)] = ints (l.reverse.take (j + 1)) := by
        have hjl : j < l.reverse.length := by rw [List.length_reverse, ← HN.out]; exact hjn
        rw [List.take_succ_eq_append_getElem hjl]
        have he : l.reverse[j] = l.getD k 0 := by
          rw [List.getElem_reverse]
          have : l.length - 1 - j = k := by rw [← HN.out]; omega
          simp only [this, List.getD]
          rw [List.getElem?_eq_getElem (by rw [← HN.out]; exact hkn2)]
          rfl
        rw [he]
        simp [ints]
      have HF2 := hid hfl2
      have HOW := hid hown
      generalize l.getD k 0 = vv at *
      have ew : IntKind.i64.wrap ((k : Int) - 1) = (k : Int) - 1 := by rw [IntKind.wrap_i64]; omega
      clear hfl2 hown c0 hk
      go_wp2_with (at_builtin; refine wpList_append_own _ rfl (.tmp 12) (.tmp 17) 41 rfl w.heap.size 3 i0 (.int .i64 0) 1 8 Tryd.underlying41 hi hz0 hz1 hz2 rfl (by decide) _ _ _ rfl (HOW.out.alloc _) ⟨wr.heap.size, 0, none⟩ 1 1 [.int .i64 vv] rfl rfl (new1_at rfl _ _) (one1 _) (by unfold maxLen; omega) (by omega) (by simp; omega) ?_)
      intro v5 w5 hown5 hgrow5 _
      rw [HF2.out] at hown5
      have hb5 : Below w.heap.size w w5 := (hbel.alloc hsw _).grown hgrow5 (by simp; omega) (fun k hk => (HOW.out.lt k hk).1)
      have HO5 := hid hown5
      have HB5 := hid hb5
      clear hown5 hgrow5 hb5 HOW
      go_wp2
      go_roundw
      case rel => exact ⟨j + 1, by first | (rw [← hki]; congr 1; omega) | (congr 1; omega), by omega, HO5.out, HB5.out⟩
      case measure => simp [intOf] <;> omega
    · have hje : j = n := by omega
      subst hje
      have hneg : ((j : Int) - 1 - j) = -1 := by omega
      rw [hneg]
      have htk : l.reverse.take j = l.reverse := List.take_of_length_le (by rw [List.length_reverse, ← HN.out]; exact Nat.le_refl _)
      rw [htk] at hown
      obtain ⟨la, lcap, rfl⟩ : ∃ la lcap, u3 = .slice la j lcap := by
        rcases hown.2 with ⟨h1, h2⟩ | ⟨g, c', cur, h1, _⟩
        · exact ⟨none, 0, by rw [h1, h2]⟩
        · exact ⟨_, _, h1⟩
      have HOW := hid hown
      clear hown htk
      go_wp2
      exact bodyPost_ret (v := .slice la j lcap) (by simp [results, Tryd.results62, go_sem]) rfl ⟨la, lcap, rfl, HOW.out, hbel⟩
end Go.Proofs.YtebjndcokkefhaaDoor
