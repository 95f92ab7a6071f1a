/- Contracts of the developers' code.PlaceOf, code.BegunAt, (*run.Run).Spots, machine.reversed. The pcs of a run, as plain data; bounds of codes; nothing is claimed of the program here. Contracts of the developers' (*run.Run).Spots and machine.reversed. Contracts of the machine's method Pcs, the developers' own and unfold's. -/
import Derived.Test.YtooinlilplecpabQ7
namespace Go.Proofs.Ytooinlilplecpab
open Go.RowKit

def placeOf (inst op : Int) : List PlD → Nat
  | [] => 0
  | x :: r => if x.inst = inst ∧ x.op = op then 0 else placeOf inst op r + 1
def begunAt (pc : Int) : List (Int × Int) → Nat → Nat
  | [], _ => 0
  | x :: r, k => if x.2 = pc then k + 1 else begunAt pc r (k + 1)

set_option maxHeartbeats 4000000 in
set_option maxRecDepth 100000 in
theorem placeOf_any (c : CodeD) (pa : Option Addr) (pcap : Nat) (ta : Option Addr) (tcap : Nat) (inst op : Int) (w : World) (hp : RdPl w pa c.places.length pcap c.places) :
    Calls Try.prog 23 #[.agg #[.int .i64 c.first, .slice pa c.places.length pcap, .slice ta c.tree.length tcap], .int .i64 inst, .int .i64 op] w fun e w' => e = .returned (.int .i64 (placeOf inst op c.places : Nat)) ∧ Below w.heap.size w w' := by
  obtain ⟨first, places, tree⟩ := c
  dsimp only at hp ⊢
  have hpc := hp.2.1
  have hpm := hp.2.2.1
  unfold maxLen at hpm
  have HP := hid hp
  obtain ⟨n, hn⟩ : ∃ v, v = places.length := ⟨_, rfl⟩
  rw [← hn] at hpc ⊢
  have HN := hid hn
  generalize tree.length = m at *
  clear hp hn
  obtain ⟨wb, hwb⟩ : ∃ v, v = w.alloc (Obj.cells #[.int .i64 first, .slice pa n pcap, .slice ta m tcap] 70) := ⟨_, rfl⟩
  have hbb : Below w.heap.size w wb := by rw [hwb]; exact (Below.refl _ _).alloc (Nat.le_refl _) _
  have kb : wb.heap[w.heap.size]? = some (.cells #[.int .i64 first, .slice pa n pcap, .slice ta m tcap] 70 (0, 0)) := by rw [hwb]; exact heap_new_at rfl
  obtain ⟨res, hres⟩ : ∃ v, v = placeOf inst op places := ⟨_, rfl⟩
  rw [← hres]
  have HRES := hid hres
  have HKB := hid kb
  have hltb : w.heap.size < wb.heap.size := (Array.getElem?_eq_some_iff.1 kb).1
  clear hres kb
  go_enter Try.func23, Try.ntmps23
  go_wp2
  rw [← hwb]
  clear hwb
  go_loopw [12] (fun i wr => ∃ j : Nat, i = .int .i64 j ∧ j ≤ n ∧ res = j + placeOf inst op (places.drop j) ∧ Below wb.heap.size wb wr) (fun i _ => n - (intOf i).toNat)
  case atStart => exact ⟨0, rfl, by omega, by rw [HRES.out]; simp, Below.refl _ _⟩
  case round =>
    obtain ⟨j, rfl, hj, hr, hbel⟩ := hrel
    have hbw := hbb.trans (hbel.mono hbb.size)
    by_cases hjn : j < n
    · have hjn' : (j : Int) < (n : Int) := by omega
      obtain ⟨x, hx⟩ : ∃ x, places[j]? = some x := ⟨_, List.getElem?_eq_getElem (by rw [← HN.out]; exact hjn)⟩
      obtain ⟨b, off, cs, rfl, -, hcell, rfl⟩ := HP.out.2.2.2 j x hx
      have up : ∀ (q : Addr) (u : Value), w.cell? q = some u → wr.cell? q = some u := fun q u h => (hbw.cell (World.block_lt_of_cell? w _ h)).trans h
      have t0 : wr.cell? ⟨b, off + j * 3, none⟩ = some (.int .i64 x.fn) := up _ _ (hcell 0 _ rfl)
      have t1 : wr.cell? ⟨b, off + j * 3 + 1, none⟩ = some (.int .i64 x.op) := up _ _ (hcell 1 _ rfl)
      have t2 : wr.cell? ⟨b, off + j * 3 + 2, none⟩ = some (.int .i64 x.inst) := up _ _ (hcell 2 _ rfl)
      have hdr : places.drop j = x :: places.drop (j + 1) := by
        obtain ⟨hlt, he⟩ := List.getElem?_eq_some_iff.1 hx
        rw [List.drop_eq_getElem_cons hlt, he]
      rw [hdr] at hr
      have ltb := World.block_lt_of_cell? wr _ t0
      simp only at ltb
      have HR := hid hr
      have HBL := hid hbel
      obtain ⟨xf, xo, xi⟩ := x
      dsimp only at *
      have HB2 : Hid (∀ A : Obj, Below wb.heap.size wb (wr.alloc A)) := fun A => hbel.alloc hbel.size A
      have HB3 : Hid (∀ A : Obj, Below w.heap.size w (wr.alloc A)) := fun A => hbw.alloc hbw.size A
      clear hr hcell up hdr hx hbel hbw
      by_cases h1 : xi = inst
      · subst h1
        by_cases h2 : xo = op
        · subst h2
          have HE : Hid (res = j) := by
            have h := HR.out
            unfold placeOf at h
            rw [if_pos ⟨rfl, rfl⟩] at h
            exact h
          go_wp2
          exact bodyPost_ret (v := .int .i64 j) (by simp [results, Try.results23, go_sem]) rfl ⟨by rw [HE.out], HB3.out _⟩
        · have h2' : (xo == op) = false := by simpa using h2
          have HE : Hid (res = (j + 1 : Nat) + placeOf xi op (places.drop (j + 1))) := by
            have h := HR.out
            unfold placeOf at h
            rw [if_neg (fun e => h2 e.2)] at h
            show res = _
            omega
          go_wp2
          go_roundw
          case rel => exact ⟨j + 1, by go_num, by omega, HE.out, HB2.out _⟩
          case measure => simp [intOf]; omega
      · have h1' : (xi == inst) = false := by simpa using h1
        have HE : Hid (res = (j + 1 : Nat) + placeOf inst op (places.drop (j + 1))) := by
          have h := HR.out
          unfold placeOf at h
          rw [if_neg (fun e => h1 e.1)] at h
          show res = _
          omega
        go_wp2
        go_roundw
        case rel => exact ⟨j + 1, by go_num, by omega, HE.out, HB2.out _⟩
        case measure => simp [intOf]; omega
    · have hje : j = n := by omega
      subst hje
      have hjn' : decide ((j : Int) < (j : Int)) = false := by simp
      have HE : Hid (res = j) := by
        have hd : places.drop j = [] := List.drop_of_length_le (by rw [← HN.out]; exact Nat.le_refl _)
        rw [hd] at hr
        exact hr
      have k1 := (hbel.block w.heap.size hltb).trans HKB.out
      have z1 : wr.cell? ⟨w.heap.size, 1, none⟩ = some (.slice pa j pcap) := by simp [World.cell?, k1]
      clear hr k1
      go_wp2
      exact bodyPost_ret (v := .int .i64 j) (by simp [results, Try.results23, go_sem]) rfl ⟨by rw [HE.out], hbw⟩

set_option maxHeartbeats 4000000 in
set_option maxRecDepth 100000 in
theorem begunAt_any (c : CodeD) (pa : Option Addr) (pcap : Nat) (ta : Option Addr) (tcap : Nat) (pc : Int) (w : World) (hp : RdNd w ta c.tree.length tcap c.tree) (hsm : c.tree.length ≤ 100000) :
    Calls Try.prog 24 #[.agg #[.int .i64 c.first, .slice pa c.places.length pcap, .slice ta c.tree.length tcap], .int .i64 pc] w fun e w' => e = .returned (.int .i64 (begunAt pc c.tree 0 : Nat)) ∧ Below w.heap.size w w' := by
  obtain ⟨first, places, tree⟩ := c
  dsimp only at hp hsm ⊢
  have hpc := hp.2.1
  have hpm := hp.2.2.1
  unfold maxLen at hpm
  have HP := hid hp
  obtain ⟨n, hn⟩ : ∃ v, v = tree.length := ⟨_, rfl⟩
  rw [← hn] at hpc hsm ⊢
  have HN := hid hn
  generalize places.length = m at *
  clear hp hn
  obtain ⟨wb, hwb⟩ : ∃ v, v = w.alloc (Obj.cells #[.int .i64 first, .slice pa m pcap, .slice ta n tcap] 70) := ⟨_, rfl⟩
  have hbb : Below w.heap.size w wb := by rw [hwb]; exact (Below.refl _ _).alloc (Nat.le_refl _) _
  obtain ⟨res, hres⟩ : ∃ v, v = begunAt pc tree 0 := ⟨_, rfl⟩
  rw [← hres]
  have HRES := hid hres
  clear hres
  go_enter Try.func24, Try.ntmps24
  go_wp2
  rw [← hwb]
  clear hwb
  go_loopw [10] (fun i wr => ∃ j : Nat, i = .int .i64 j ∧ j ≤ n ∧ res = begunAt pc (tree.drop j) j ∧ Below w.heap.size w wr) (fun i _ => n - (intOf i).toNat)
  case atStart => exact ⟨0, rfl, by omega, by rw [HRES.out]; simp, hbb⟩
  case round =>
    obtain ⟨j, rfl, hj, hr, hbw⟩ := hrel
    by_cases hjn : j < n
    · have hjn' : (j : Int) < (n : Int) := by omega
      obtain ⟨x, hx⟩ : ∃ x, tree[j]? = some x := ⟨_, List.getElem?_eq_getElem (by rw [← HN.out]; exact hjn)⟩
      obtain ⟨b, off, cs, rfl, -, hcell, rfl⟩ := HP.out.2.2.2 j x hx
      have up : ∀ (q : Addr) (u : Value), w.cell? q = some u → wr.cell? q = some u := fun q u h => (hbw.cell (World.block_lt_of_cell? w _ h)).trans h
      have t0 : wr.cell? ⟨b, off + j * 2, none⟩ = some (.int .i64 x.1) := up _ _ (hcell 0 _ rfl)
      have t1 : wr.cell? ⟨b, off + j * 2 + 1, none⟩ = some (.int .i64 x.2) := up _ _ (hcell 1 _ rfl)
      have hdr : tree.drop j = x :: tree.drop (j + 1) := by
        obtain ⟨hlt, he⟩ := List.getElem?_eq_some_iff.1 hx
        rw [List.drop_eq_getElem_cons hlt, he]
      rw [hdr] at hr
      have ltb := World.block_lt_of_cell? wr _ t0
      simp only at ltb
      have HR := hid hr
      obtain ⟨xf, xp⟩ := x
      dsimp only at *
      have HB3 : Hid (∀ A : Obj, Below w.heap.size w (wr.alloc A)) := fun A => hbw.alloc hbw.size A
      have ew : IntKind.i64.wrap ((j : Int) + 1) = (j : Int) + 1 := by rw [IntKind.wrap_i64]; omega
      clear hr hcell up hdr hx hbw
      by_cases h1 : xp = pc
      · subst h1
        have HE : Hid (res = j + 1) := by
          have h := HR.out
          unfold begunAt at h
          rw [if_pos rfl] at h
          exact h
        go_wp2
        exact bodyPost_ret (v := .int .i64 ((j : Int) + 1)) (by simp [results, Try.results24, go_sem]) rfl ⟨by rw [HE.out]; rfl, HB3.out _⟩
      · have h1' : (xp == pc) = false := by simpa using h1
        have HE : Hid (res = begunAt pc (tree.drop (j + 1)) (j + 1)) := by
          have h := HR.out
          unfold begunAt at h
          rw [if_neg h1] at h
          exact h
        go_wp2
        go_roundw
        case rel => exact ⟨j + 1, by go_num, by omega, HE.out, HB3.out _⟩
        case measure => simp [intOf]; omega
    · have hje : j = n := by omega
      subst hje
      have hjn' : decide ((j : Int) < (j : Int)) = false := by simp
      have HE : Hid (res = 0) := by
        have hd : tree.drop j = [] := List.drop_of_length_le (by rw [← HN.out]; exact Nat.le_refl _)
        rw [hd] at hr
        exact hr
      have HBW := hid hbw
      clear hr hbw
      go_wp2
      exact bodyPost_ret (v := .int .i64 0) (by simp [results, Try.results24, go_sem]) rfl ⟨by rw [HE.out]; rfl, HBW.out⟩
end Go.Proofs.Ytooinlilplecpab
namespace Go.Proofs.Ytooinlilplecpab
open Go.RowKit

def CodeBd (c : CodeD) : Prop := (0 ≤ c.first ∧ c.first ≤ 1000) ∧ c.places.length ≤ 1000 ∧ c.tree.length ≤ 1000
theorem layAll_bd (p : List FnD) (bud : Int) : ∀ (n fn : Nat) (room : Int) (l cs : List CodeD), 0 ≤ room → room ≤ 1000 → layAll p bud n fn room l = some cs → (∀ c ∈ l, CodeBd c) → (∀ c ∈ cs, CodeBd c) ∧ cs.length = l.length + n
  | 0, _, _, l, cs, _, _, h, hl => by
    obtain rfl : l = cs := Option.some.inj h
    exact ⟨hl, rfl⟩
  | n + 1, fn, room, l, cs, h0, h1, h, hl => by
    unfold layAll at h
    split at h
    · cases h
    · next hr =>
      have hb := layI_bnd p bud 12 fn [] ⟨room, [], []⟩ ⟨by dsimp only; omega, by dsimp only [List.length_nil]; omega, by simp⟩
      obtain ⟨b1, b2, b3⟩ := hb
      have ih := layAll_bd p bud n (fn + 1) _ _ cs (by omega) (by omega) h (fun c hc => by
        rcases List.mem_append.1 hc with g | g
        · exact hl c g
        · rw [List.mem_singleton.1 g]
          exact ⟨by dsimp only; omega, by dsimp only; omega, by dsimp only; omega⟩)
      refine ⟨ih.1, ?_⟩
      rw [ih.2, List.length_append]
      simp
      omega
theorem codesD_bd {p : List FnD} {bud : Int} {cs : List CodeD} (h : codesD p bud = some cs) : (∀ c ∈ cs, CodeBd c) ∧ cs.length = p.length := by
  have := layAll_bd p bud p.length 0 1000 [] cs (by decide) (by decide) h (fun c hc => by simp at hc)
  exact ⟨this.1, by rw [this.2]; simp⟩
theorem placeOf_le (inst op : Int) : ∀ l : List PlD, placeOf inst op l ≤ l.length
  | [] => Nat.le_refl _
  | x :: r => by
    unfold placeOf
    split
    · omega
    · have := placeOf_le inst op r
      simp
      omega

def noCode : CodeD := ⟨0, [], []⟩
def codeAt (cs : List CodeD) (fn : Int) (c : CodeD) (k : Nat) : CodeD := if k = 0 then (cs[fn.toNat]?).getD noCode else c
/-- The pcs of the physical frames, the outermost first, behind those in l. -/
def pcsF (cs : List CodeD) : List (Int × Int) → CodeD → Nat → List Int → List Int
  | [], _, _, l => l
  | x :: r, c, k, l =>
    if r.length = 0 then l ++ [(codeAt cs x.1 c k).first + placeOf k x.2 (codeAt cs x.1 c k).places] else
    if begunAt (placeOf k x.2 (codeAt cs x.1 c k).places : Nat) (codeAt cs x.1 c k).tree 0 = 0 then pcsF cs r (codeAt cs x.1 c k) 0 (l ++ [(codeAt cs x.1 c k).first + placeOf k x.2 (codeAt cs x.1 c k).places + 1]) else
    pcsF cs r (codeAt cs x.1 c k) (begunAt (placeOf k x.2 (codeAt cs x.1 c k).places : Nat) (codeAt cs x.1 c k).tree 0) l
def spot (x : LiveD) : Int × Int := (x.fn, x.next)
def pcsD (cs : List CodeD) (live : List LiveD) : List Int := (pcsF cs (live.map spot) noCode 0 []).reverse
end Go.Proofs.Ytooinlilplecpab
namespace Go.Proofs.Ytooinlilplecpab
open Go.RowKit

theorem Try.infoSpot : (Try.prog.info? 74).map (fun i => (i.zero, i.size, i.bytes)) = some (some (.agg #[.int .i64 0, .int .i64 0]), 2, 16) := by kernel_rfl

set_option maxHeartbeats 4000000 in
set_option maxRecDepth 100000 in
theorem Spots_any (X : RX) (w0 : World) (P : List FnD) (rb : Nat) (s : StandD) (w : World) (hgd : Good P) (hw : Wf P s) (hR : RunAt X w0 P rb w s) :
    Calls Try.prog 22 #[.pointer (some ⟨rb, 0, none⟩)] w fun e w' => ∃ a cap, e = .returned (.slice a s.live.length cap) ∧
      w'.ownsRow w.heap.size 74 2 (.slice a s.live.length cap) s.live.length ((s.live.map spot).map ndCells).flatten ∧ Below w.heap.size w w' := by
  obtain ⟨pa, pcap, fv, hk, hp0, hb, hrb, hown0, hvr, hkx⟩ := hR
  have HLV := hid hw.live
  have HG := hid hgd
  have hlen := hw.len
  obtain ⟨st, sv, live⟩ := s
  simp only at *
  obtain ⟨nl, hnl⟩ : ∃ v, v = live.length := ⟨_, rfl⟩
  rw [← hnl] at hown0 hlen ⊢
  obtain ⟨va, vcap, rfl, hvc, hvm, hvg⟩ : ∃ va vcap, fv = .slice va nl vcap ∧ nl ≤ vcap ∧ vcap ≤ maxLen ∧ (0 < nl → ∃ g, va = some ⟨g, 0, none⟩) := by
    rcases hown0.2 with ⟨h1, h2⟩ | ⟨g, c', cur, h1, _, _, h3, h4, _⟩
    · exact ⟨none, 0, by rw [h1, h2], by omega, by unfold maxLen; omega, fun h => by omega⟩
    · exact ⟨_, c', h1, h3, h4, fun _ => ⟨g, rfl⟩⟩
  have HNL := hid hnl
  have HROW : Hid (∀ k x g, live[k]? = some x → x.locals.length ≤ 8 → va = some ⟨g, 0, none⟩ → ∀ i u, (frmCells x)[i]? = some u → w.cell? ⟨g, k * 10 + i, none⟩ = some u) := fun k x g hx h8 hva i u hu => by
    subst hva
    have hkl : k < live.length := (List.getElem?_eq_some_iff.1 hx).1
    have hi : i < 10 := by
      have := (List.getElem?_eq_some_iff.1 hu).1
      simp [frmCells, pad8_len h8] at this; omega
    have hall : ∀ c ∈ live.map frmCells, c.length = 10 := fun c hc => by
      obtain ⟨y, hy, rfl⟩ := List.mem_map.1 hc
      simp [frmCells, pad8_len (wf8' HG.out (HLV.out y hy))]
    rw [hown0.cellAt (k * 10 + i) (by omega), flatten_get 10 _ k i hall (by simpa using hkl) hi]
    simp only [List.getD, List.getElem?_map, hx, Option.map_some, Option.getD_some]
    exact hu
  unfold maxLen at hvm
  have r1 : w.cell? ⟨rb, 1, none⟩ = some (.slice va nl vcap) := by simp [World.cell?, hk]
  clear hnl hown0 hp0 hw hgd hk hb hvr hkx
  go_enter Try.func22, Try.ntmps22
  have hrlt := World.block_lt_of_cell? w _ r1
  simp only at hrlt
  obtain ⟨sp, hsp⟩ : ∃ v, v = live.map spot := ⟨_, rfl⟩
  rw [← hsp]
  have hspl : sp.length = nl := by rw [hsp, HNL.out]; simp
  have HSP : Hid (∀ k x, live[k]? = some x → sp[k]? = some (spot x)) := fun k x hx => by rw [hsp, List.getElem?_map, hx]; rfl
  clear hsp
  obtain ⟨i0, hi, hz0, hz1, hz2⟩ := info_parts Try.infoSpot
  go_wp2
  go_loopw [3, 11] (fun lv i wr => ∃ j : Nat, i = .int .i64 j ∧ j ≤ nl ∧ wr.ownsRow w.heap.size 74 2 lv j ((sp.take j).map ndCells).flatten ∧ Below w.heap.size w wr) (fun _ i _ => nl - (intOf i).toNat)
  case atStart => exact ⟨0, rfl, by omega, World.ownsRow_nil _ _ _ _, Below.refl _ _⟩
  case round =>
    obtain ⟨j, rfl, hj, hown, hbel⟩ := hrel
    have hsw := hbel.size
    by_cases hjn : j < nl
    · have hjn' : (j : Int) < (nl : Int) := by omega
      obtain ⟨x, hx⟩ : ∃ x, live[j]? = some x := ⟨_, List.getElem?_eq_getElem (by rw [← HNL.out]; exact hjn)⟩
      have hwx := HLV.out x (List.mem_of_getElem? hx)
      have hx8 := wf8' HG.out hwx
      obtain ⟨g, rfl⟩ := hvg (by omega)
      have hcell := HROW.out j x g hx hx8 rfl
      have hsx := HSP.out j x hx
      obtain ⟨l0, l1, l2, l3, l4, l5, l6, l7, hpad⟩ := frm_array x hx8
      have hfc : frmCells x = [.int .i64 x.fn, .int .i64 x.next, .int .i64 l0, .int .i64 l1, .int .i64 l2, .int .i64 l3, .int .i64 l4, .int .i64 l5, .int .i64 l6, .int .i64 l7] := by unfold frmCells; rw [hpad]; rfl
      rw [hfc] at hcell
      have up : ∀ (q : Addr) (u : Value), w.cell? q = some u → wr.cell? q = some u := fun q u h => (hbel.cell (World.block_lt_of_cell? w _ h)).trans h
      have t0 : wr.cell? ⟨g, j * 10, none⟩ = some (.int .i64 x.fn) := up _ _ (hcell 0 _ rfl)
      have t1 : wr.cell? ⟨g, j * 10 + 1, none⟩ = some (.int .i64 x.next) := up _ _ (hcell 1 _ rfl)
      have t2 : wr.cell? ⟨g, j * 10 + 2, none⟩ = some (.int .i64 l0) := up _ _ (hcell 2 _ rfl)
      have t3 : wr.cell? ⟨g, j * 10 + 3, none⟩ = some (.int .i64 l1) := up _ _ (hcell 3 _ rfl)
      have t4 : wr.cell? ⟨g, j * 10 + 4, none⟩ = some (.int .i64 l2) := up _ _ (hcell 4 _ rfl)
      have t5 : wr.cell? ⟨g, j * 10 + 5, none⟩ = some (.int .i64 l3) := up _ _ (hcell 5 _ rfl)
      have t6 : wr.cell? ⟨g, j * 10 + 6, none⟩ = some (.int .i64 l4) := up _ _ (hcell 6 _ rfl)
      have t7 : wr.cell? ⟨g, j * 10 + 7, none⟩ = some (.int .i64 l5) := up _ _ (hcell 7 _ rfl)
      have t8 : wr.cell? ⟨g, j * 10 + 8, none⟩ = some (.int .i64 l6) := up _ _ (hcell 8 _ rfl)
      have t9 : wr.cell? ⟨g, j * 10 + 9, none⟩ = some (.int .i64 l7) := up _ _ (hcell 9 _ rfl)
      have ltg := World.block_lt_of_cell? wr _ t0
      simp only at ltg
      have hfl2 : ((sp.take j).map ndCells).flatten ++ [.int .i64 x.fn, .int .i64 x.next] = ((sp.take (j + 1)).map ndCells).flatten := by
        obtain ⟨hjf, he⟩ := List.getElem?_eq_some_iff.1 hsx
        rw [List.take_succ_eq_append_getElem hjf, he, List.map_append, List.flatten_append]
        simp [ndCells, spot]
      have HF2 := hid hfl2
      have HOW := hid hown
      obtain ⟨xf, xn, xl⟩ := x
      dsimp only at *
      clear hfl2 hcell up hwx hx hsx hfc hpad hown
      go_wp2_with (at_builtin; refine wpList_append_lies _ rfl (.tmp 15) (.tmp 21) 71 rfl w.heap.size 74 i0 (.agg #[.int .i64 0, .int .i64 0]) 2 16 Try.underlying71 hi hz0 hz1 hz2 rfl (by decide) _ _ _ rfl ((HOW.out.alloc _).alloc _) ⟨wr.heap.size + 1, 0, none⟩ 1 1 [.int .i64 xf, .int .i64 xn] rfl rfl (new2_at (by simp) _ _ _) (one2 _ _) (by decide) (by unfold maxLen; omega) (by omega) (by simp; omega) _ rfl ?_)
      intro g' cap' w5 hown5 hgrow5 hat5 hlt5
      rw [← List.map_take, HF2.out] at hown5
      have hb5 : Below w.heap.size w w5 := ((hbel.alloc hsw _).alloc (by simp; omega) _).grown hgrow5 (by simp; omega) (fun k hk => (HOW.out.lt k hk).1)
      have HO5 := hid hown5
      have HB5 := hid hb5
      clear hown5 hgrow5 hat5 hlt5 hb5 HOW
      go_wp2
      go_roundw
      case rel => exact ⟨j + 1, by go_num, by omega, HO5.out, HB5.out⟩
      case measure => simp [intOf]; omega
    · have hje : j = nl := by omega
      subst hje
      have hjn' : decide ((j : Int) < (j : Int)) = false := by simp
      have htk : sp.take j = sp := List.take_of_length_le (by rw [hspl]; exact Nat.le_refl _)
      rw [htk] at hown
      obtain ⟨la, lcap, rfl⟩ : ∃ la lcap, u3 = .slice la j lcap := by
        rcases hown.2 with ⟨h1, h2⟩ | ⟨g, c', cur, h1, _⟩
        · exact ⟨none, 0, by rw [h1, h2]⟩
        · exact ⟨_, _, h1⟩
      have HOW := hid hown
      clear hown htk
      go_wp2
      exact bodyPost_ret (v := .slice la j lcap) (by simp [results, Try.results22, go_sem]) rfl ⟨la, lcap, rfl, HOW.out, hbel⟩

theorem new1_at {w : World} {n : Nat} (h : w.heap.size = n) (a : Value) (t : TypeId) : ∀ j u, [a][j]? = some u → (w.alloc (.cells #[a] t)).cell? ((⟨n, 0, none⟩ : Addr).add j) = some u := by
  subst h
  intro j u hu
  match j, hu with
  | 0, hu => simp at hu; subst hu; simp [Addr.add]
theorem one1 (a : Int) : ∀ u ∈ [Value.int .i64 a], u.oneCell' = true := by
  intro u hu; simp at hu; subst hu; rfl

set_option maxHeartbeats 4000000 in
set_option maxRecDepth 100000 in
theorem reversed_any (a : Option Addr) (cap : Nat) (l : List Int) (w : World) (hl : Rd .i64 w a l.length cap l) (h20 : l.length ≤ 1000) :
    Calls Try.prog 25 #[.slice a l.length cap] w fun e w' => ∃ a' cap', e = .returned (.slice a' l.length cap') ∧ w'.ownsRow w.heap.size 3 1 (.slice a' l.length cap') l.length (ints l.reverse) ∧ Below w.heap.size w w' := by
  have HL := hid hl
  have hcap := hl.hcap
  have hmax := hl.hmax
  unfold maxLen at hmax
  obtain ⟨n, hn⟩ : ∃ v, v = l.length := ⟨_, rfl⟩
  rw [← hn] at HL hcap h20 ⊢
  have HN := hid hn
  clear hl hn
  go_enter Try.func25, Try.ntmps25
  obtain ⟨i0, hi, hz0, hz1, hz2⟩ := info_parts Try.infoInt
  have ew : IntKind.i64.wrap ((n : Int) - 1) = (n : Int) - 1 := by rw [IntKind.wrap_i64]; omega
  go_wp2
  clear ew
  go_loopw [3, 4] (fun lv i wr => ∃ j : Nat, i = .int .i64 ((n : Int) - 1 - j) ∧ j ≤ n ∧ wr.ownsRow w.heap.size 3 1 lv j (ints (l.reverse.take j)) ∧ Below w.heap.size w wr) (fun _ i _ => (intOf i + 1).toNat)
  case atStart => exact ⟨0, by simp, by omega, World.ownsRow_nil _ _ _ _, Below.refl _ _⟩
  case round =>
    obtain ⟨j, rfl, hj, hown, hbel⟩ := hrel
    have hsw := hbel.size
    by_cases hjn : j < n
    · obtain ⟨k, hk⟩ : ∃ k, k = n - 1 - j := ⟨_, rfl⟩
      have hki : (n : Int) - 1 - j = (k : Int) := by omega
      rw [hki]
      have hkn : (k : Int) < (n : Int) := by omega
      have hkn2 : k < n := by omega
      have hk0 : (0 : Int) ≤ (k : Int) := by omega
      obtain ⟨b, off, rfl, c0⟩ := HL.out.cell k hkn2
      have t0 : wr.cell? ⟨b, off + k, none⟩ = some (.int .i64 (l.getD k 0)) := (hbel.cell (World.block_lt_of_cell? w _ c0)).trans c0
      have ltb := World.block_lt_of_cell? wr _ t0
      simp only at ltb
      have hfl2 : ints (l.reverse.take j) ++ [.int .i64 (l.getD k 0)] = ints (l.reverse.take (j + 1)) := by
        have hjl : j < l.reverse.length := by rw [List.length_reverse, ← HN.out]; exact hjn
        rw [List.take_succ_eq_append_getElem hjl]
        have he : l.reverse[j] = l.getD k 0 := by
          rw [List.getElem_reverse]
          have : l.length - 1 - j = k := by rw [← HN.out]; omega
          simp only [this, List.getD]
          rw [List.getElem?_eq_getElem (by rw [← HN.out]; exact hkn2)]
          rfl
        rw [he]
        simp [ints]
      have HF2 := hid hfl2
      have HOW := hid hown
      generalize l.getD k 0 = vv at *
      have ew : IntKind.i64.wrap ((k : Int) - 1) = (k : Int) - 1 := by rw [IntKind.wrap_i64]; omega
      clear hfl2 hown c0 hk
      go_wp2_with (at_builtin; refine wpList_append_own _ rfl (.tmp 12) (.tmp 17) 31 rfl w.heap.size 3 i0 (.int .i64 0) 1 8 Try.underlying31 hi hz0 hz1 hz2 rfl (by decide) _ _ _ rfl (HOW.out.alloc _) ⟨wr.heap.size, 0, none⟩ 1 1 [.int .i64 vv] rfl rfl (new1_at rfl _ _) (one1 _) (by unfold maxLen; omega) (by omega) (by simp; omega) ?_)
      intro v5 w5 hown5 hgrow5 _
      rw [HF2.out] at hown5
      have hb5 : Below w.heap.size w w5 := (hbel.alloc hsw _).grown hgrow5 (by simp; omega) (fun k hk => (HOW.out.lt k hk).1)
      have HO5 := hid hown5
      have HB5 := hid hb5
      clear hown5 hgrow5 hb5 HOW
      go_wp2
      go_roundw
      case rel => exact ⟨j + 1, by first | (rw [← hki]; congr 1; omega) | (congr 1; omega), by omega, HO5.out, HB5.out⟩
      case measure => simp [intOf] <;> omega
    · have hje : j = n := by omega
      subst hje
      have hneg : ((j : Int) - 1 - j) = -1 := by omega
      rw [hneg]
      have htk : l.reverse.take j = l.reverse := List.take_of_length_le (by rw [List.length_reverse, ← HN.out]; exact Nat.le_refl _)
      rw [htk] at hown
      obtain ⟨la, lcap, rfl⟩ : ∃ la lcap, u3 = .slice la j lcap := by
        rcases hown.2 with ⟨h1, h2⟩ | ⟨g, c', cur, h1, _⟩
        · exact ⟨none, 0, by rw [h1, h2]⟩
        · exact ⟨_, _, h1⟩
      have HOW := hid hown
      clear hown htk
      go_wp2
      exact bodyPost_ret (v := .slice la j lcap) (by simp [results, Try.results25, go_sem]) rfl ⟨la, lcap, rfl, HOW.out, hbel⟩
end Go.Proofs.Ytooinlilplecpab
namespace Go.Proofs.Ytooinlilplecpab
open Go.RowKit

theorem begunAt_le (pc : Int) : ∀ (l : List (Int × Int)) (k : Nat), begunAt pc l k ≤ k + l.length
  | [], k => by unfold begunAt; omega
  | x :: r, k => by
    unfold begunAt
    split
    · simp
    · have := begunAt_le pc r (k + 1)
      simp
      omega
theorem RdPl.below {w w' : World} {a : Option Addr} {len cap : Nat} {l : List PlD} (h : RdPl w a len cap l) (hb : Below w.heap.size w w') : RdPl w' a len cap l := RdL.below h hb (fun _ _ h => h)
theorem RdNd.below {w w' : World} {a : Option Addr} {len cap : Nat} {l : List (Int × Int)} (h : RdNd w a len cap l) (hb : Below w.heap.size w w') : RdNd w' a len cap l := RdL.below h hb (fun _ _ h => h)

set_option maxHeartbeats 8000000 in
set_option maxRecDepth 100000 in
theorem mPcs_any (p : List FnD) (bud : Int) (mb : Nat) (X : RX) (w0 : World) (s : StandD) (w : World) (cs : List CodeD) (hcs : codesD p bud = some cs) (hgd : Good (strip p)) (hw : Wf (strip p) s) (hm : MachAt p bud mb X w0 w s) :
    Calls Try.prog 17 #[.pointer (some ⟨mb, 0, none⟩)] w fun e w' => ∃ a cap, e = .returned (.slice a (pcsD cs s.live).length cap) ∧
      w'.ownsRow w.heap.size 3 1 (.slice a (pcsD cs s.live).length cap) (pcsD cs s.live).length (ints (pcsD cs s.live)) ∧ Below w.heap.size w w' := by
  obtain ⟨cs', ca, ccap, hcs', hex, hrd⟩ := hm.codes
  obtain rfl : cs' = cs := Option.some.inj (hcs'.symm.trans hcs)
  have hrdw := hrd w s hm.run
  obtain ⟨hbd, hcl⟩ := codesD_bd hcs
  have hk4 : w.cell? ⟨mb, 4, none⟩ = some (.slice ca cs'.length ccap) := by
    obtain ⟨pa, pcap, v, hk, _⟩ := hm.run
    rw [hex] at hk
    simp [World.cell?, hk]
  have HSP := hid (fun (W : World) (hW : Below w.heap.size w W) => Spots_any X w0 (strip p) mb s W hgd hw (hm.run.below hW))
  have hlen := hw.len
  have HFN : Hid (∀ x ∈ s.live, 0 ≤ x.fn ∧ x.fn < p.length ∧ 0 ≤ x.next ∧ x.next < 100) := fun x hx => by
    have h := hw.live x hx
    have h1 := h.fn
    have h2 := h.next
    have h3 := (h.fnOk hgd).body
    rw [strip_length] at h1
    exact ⟨h1.1, h1.2, h2.1, by omega⟩
  obtain ⟨cl, hcl2⟩ : ∃ v, v = cs'.length := ⟨_, rfl⟩
  rw [← hcl2] at hk4 hcl
  have HCL := hid hcl2
  have HRD := hid hrdw
  have HBD := hid hbd
  obtain ⟨sp, hsp⟩ : ∃ v, v = s.live.map spot := ⟨_, rfl⟩
  have hspl : sp.length = s.live.length := by rw [hsp]; simp
  have HS1 : Hid (∀ x ∈ sp, 0 ≤ x.1 ∧ x.1 < cl ∧ 0 ≤ x.2 ∧ x.2 < 100) := fun x hx => by
    rw [hsp] at hx
    obtain ⟨y, hy, rfl⟩ := List.mem_map.1 hx
    have := HFN.out y hy
    unfold spot
    dsimp only
    omega
  obtain ⟨res, hres⟩ : ∃ v, v = pcsF cs' sp noCode 0 [] := ⟨_, rfl⟩
  have hpd : pcsD cs' s.live = res.reverse := by unfold pcsD; rw [← hsp, ← hres]
  rw [hpd]
  rw [← hsp, ← hspl] at HSP
  rw [← hspl] at hlen
  have HRES := hid hres
  obtain ⟨ns, hns⟩ : ∃ v, v = sp.length := ⟨_, rfl⟩
  rw [← hns] at HSP hlen
  have HNS := hid hns
  have ltm := World.block_lt_of_cell? w _ hk4
  simp only at ltm
  clear hm hw hgd hrd hrdw hbd hcs hcs' hex hsp hspl hres hpd hns hcl2 HFN
  go_enter Try.func17, Try.ntmps17
  obtain ⟨wa, hwa⟩ : ∃ v, v = w.alloc (Obj.cells #[.int .i64 0, .slice none 0 0, .slice none 0 0] 70) := ⟨_, rfl⟩
  have hba : Below w.heap.size w wa := by rw [hwa]; exact (Below.refl _ _).alloc (Nat.le_refl _) _
  have hsa : wa.heap.size = w.heap.size + 1 := by rw [hwa]; simp
  have ka : wa.heap[w.heap.size]? = some (.cells #[.int .i64 0, .slice none 0 0, .slice none 0 0] 70 (0, 0)) := by rw [hwa]; exact heap_new_at rfl
  go_wp2_with fail
  rw [← hwa]
  clear hwa
  refine (HSP.out wa hba).mono ?_
  clear HSP
  rintro e w1 ⟨sa, scap, rfl, hso, hb1⟩
  have hs1 := hb1.size
  have k1 := (hb1.block w.heap.size (by omega)).trans ka
  have HK1 := hid k1
  rw [HNS.out] at hso
  obtain ⟨sa', scap', hse, hsr⟩ := rd_row ndCells 2 (fun _ => rfl) hso (W := w1) (fun _ _ => rfl)
  rw [← HNS.out] at hse hsr
  simp only [Value.slice.injEq, true_and] at hse
  obtain ⟨rfl, rfl⟩ := hse
  have HSR := hid hsr
  have hsc := hsr.2.1
  have hsm := hsr.2.2.1
  unfold maxLen at hsm
  have hbw1 : Below w.heap.size w w1 := hba.trans (hb1.mono hba.size)
  have HSO : Hid (∀ b, (Value.slice sa ns scap).ownBlock = some b → w.heap.size + 1 ≤ b ∧ b < w1.heap.size) := fun b hb => by
    have h := hso.lt b (by rw [← HNS.out]; exact hb)
    omega
  clear hso hsr ka k1
  go_wp2
  go_loopw [3, 5, 16] (fun lv ki i wr => ∃ (j k : Nat) (c : CodeD) (l : List Int) (pa : Option Addr) (pcap : Nat) (ta : Option Addr) (tcap : Nat), i = .int .i64 j ∧ ki = .int .i64 k ∧ (j < ns ∨ (ns = 0 ∧ j = 0)) ∧ k ≤ 1000 ∧ l.length ≤ j ∧ res = pcsF cs' (sp.drop j) c k l ∧ Below w.heap.size w wr ∧
    (∀ b, b < w1.heap.size → b ≠ w.heap.size → wr.heap[b]? = w1.heap[b]?) ∧ w1.heap.size ≤ wr.heap.size ∧ wr.heap[w.heap.size]? = some (.cells #[.int .i64 c.first, .slice pa c.places.length pcap, .slice ta c.tree.length tcap] 70 (0, 0)) ∧
    (k ≠ 0 → RdPl w pa c.places.length pcap c.places ∧ RdNd w ta c.tree.length tcap c.tree ∧ CodeBd c) ∧ wr.ownsRow w1.heap.size 3 1 lv l.length (ints l)) (fun _ _ i _ => ns - (intOf i).toNat)
  case atStart => exact ⟨0, 0, noCode, [], none, 0, none, 0, rfl, rfl, by omega, by omega, by simp, by rw [HRES.out]; simp, hbw1, fun b _ _ => rfl, Nat.le_refl _, HK1.out, fun h => absurd rfl h, World.ownsRow_nil _ _ _ _⟩
  case round =>
    clear HK1
    obtain ⟨j, k, c0, l, pa0, pcap0, ta0, tcap0, rfl, rfl, hj, hk, hll, hr, hbel, hkeep, hsz, hbox, hrd0, hown⟩ := hrel
    have hl20 : l.length ≤ 20 := by omega
    by_cases hn0 : ns = 0
    · have hj0 : j = 0 := by omega
      subst hj0
      subst hn0
      have hsn : sp = [] := List.length_eq_zero_iff.1 HNS.out.symm
      rw [hsn] at hr
      have hl0 : l = [] := List.length_eq_zero_iff.1 (by omega)
      have hfin : res = [] := by rw [hr, hl0]; rfl
      rw [hl0] at hown
      obtain ⟨ra, rcap, rfl, hrdI⟩ := rdI_of_owns (l := []) hown rfl
      have HRV := hid (reversed_any ra rcap [] wr hrdI (by simp))
      have HFN := hid hfin
      have hswr := hbel.size
      have HBL := hid hbel
      simp only [List.length_nil, List.reverse_nil] at HRV
      clear hr hown hfin hl0 hsn hrdI hbox hrd0 hkeep hbel
      simp only [List.length_nil]
      go_wp2_with fail
      refine HRV.out.mono ?_
      clear HRV
      rintro e w6 ⟨fa, fcap, rfl, ho6, hb6⟩
      have HO6 := hid (owns_lower ho6 (base' := w.heap.size) hswr)
      have HB6 := hid (HBL.out.trans (hb6.mono hswr))
      clear ho6 hb6
      go_wp2
      exact bodyPost_ret (v := .slice fa 0 fcap) (by simp [results, Try.results17, go_sem]) rfl ⟨fa, fcap, by rw [HFN.out]; rfl, by rw [HFN.out]; exact HO6.out, HB6.out⟩
    have hjn : j < ns := by omega
    have hjn' : (j : Int) < (ns : Int) := by omega
    obtain ⟨x, hx⟩ : ∃ x, sp[j]? = some x := ⟨_, List.getElem?_eq_getElem (by rw [← HNS.out]; exact hjn)⟩
    obtain ⟨sb, soff, scs, rfl, -, hcell, rfl⟩ := HSR.out.2.2.2 j x hx
    have hsb := HSO.out sb rfl
    have up : ∀ (q : Addr) (u : Value), q.block = sb → w1.cell? q = some u → wr.cell? q = some u := fun q u hq h => (World.cell?_of_block (hkeep q.block (by rw [hq]; exact hsb.2) (by rw [hq]; omega))).trans h
    have t0 : wr.cell? ⟨sb, soff + j * 2, none⟩ = some (.int .i64 x.1) := up _ _ rfl (hcell 0 _ rfl)
    have t1 : wr.cell? ⟨sb, soff + j * 2 + 1, none⟩ = some (.int .i64 x.2) := up _ _ rfl (hcell 1 _ rfl)
    have hxr := HS1.out x (List.mem_of_getElem? hx)
    have hdr : sp.drop j = x :: sp.drop (j + 1) := by
      obtain ⟨hlt, he⟩ := List.getElem?_eq_some_iff.1 hx
      rw [List.drop_eq_getElem_cons hlt, he]
    rw [hdr] at hr
    obtain ⟨x1, x2⟩ := x
    dsimp only at t0 t1 hxr hr
    obtain ⟨fN, rfl⟩ : ∃ n : Nat, x1 = n := ⟨x1.toNat, by omega⟩
    obtain ⟨ll, hll2⟩ : ∃ v, v = l.length := ⟨_, rfl⟩
    rw [← hll2] at hown hll hl20
    have HLL : Hid (l.length = ll) := hll2.symm
    have ltw : w.heap.size < wr.heap.size := by omega
    have ltsb : sb < wr.heap.size := by omega
    clear hcell up hdr hx hll2
    by_cases hk0 : k = 0
    · subst hk0
      -- the code is chosen anew
      obtain ⟨c, hc⟩ : ∃ c, cs'[fN]? = some c := ⟨_, List.getElem?_eq_getElem (by rw [← HCL.out]; omega)⟩
      obtain ⟨cb, coff, ccs, rfl, -, hcc, pa, pcap, ta, tcap, rfl, hrp, hrt⟩ := HRD.out.2.2.2 fN c hc
      have hcat : codeAt cs' (fN : Int) c0 0 = c := by unfold codeAt; rw [if_pos rfl, Int.toNat_natCast, hc]; rfl
      unfold pcsF at hr
      have hz0n : ((0 : Nat) : Int) = 0 := rfl
      rw [hcat, hz0n] at hr
      have HBC := hid (HBD.out c (List.mem_of_getElem? hc))
      have HRP := hid hrp
      have HRT := hid hrt
      have HR := hid hr
      have upw : ∀ (q : Addr) (u : Value), w.cell? q = some u → wr.cell? q = some u := fun q u h => (hbel.cell (World.block_lt_of_cell? w _ h)).trans h
      have d0 : wr.cell? ⟨cb, coff + fN * 3, none⟩ = some (.int .i64 c.first) := upw _ _ (hcc 0 _ rfl)
      have d1 : wr.cell? ⟨cb, coff + fN * 3 + 1, none⟩ = some (.slice pa c.places.length pcap) := upw _ _ (hcc 1 _ rfl)
      have d2 : wr.cell? ⟨cb, coff + fN * 3 + 2, none⟩ = some (.slice ta c.tree.length tcap) := upw _ _ (hcc 2 _ rfl)
      have d4 : wr.cell? ⟨mb, 4, none⟩ = some (.slice (some ⟨cb, coff, none⟩) cl ccap) := upw _ _ hk4
      obtain ⟨w2, hw2⟩ : ∃ v, v = wr.alloc (Obj.cells #[.int .i64 fN, .int .i64 x2] 74) := ⟨_, rfl⟩
      have hb2 : Below wr.heap.size wr w2 := by rw [hw2]; exact (Below.refl _ _).alloc (Nat.le_refl _) _
      have hs2 : w2.heap.size = wr.heap.size + 1 := by rw [hw2]; simp
      have kS0 : w2.heap[wr.heap.size]? = some (.cells #[.int .i64 fN, .int .i64 x2] 74 (0, 0)) := by rw [hw2]; exact heap_new_at rfl
      have up2 : ∀ (q : Addr) (u : Value), wr.cell? q = some u → w2.cell? q = some u := fun q u h => (hb2.cell (World.block_lt_of_cell? wr _ h)).trans h
      have e0 := up2 _ _ d0
      have e1 := up2 _ _ d1
      have e2 := up2 _ _ d2
      have e4 := up2 _ _ d4
      have s0 : w2.cell? ⟨wr.heap.size, 0, none⟩ = some (.int .i64 fN) := by simp [World.cell?, kS0]
      have kbx := (hb2.block w.heap.size ltw).trans hbox
      have b0 : w2.cell? ⟨w.heap.size, 0, none⟩ = some (.int .i64 c0.first) := by simp [World.cell?, kbx]
      have b1 : w2.cell? ⟨w.heap.size, 1, none⟩ = some (.slice pa0 c0.places.length pcap0) := by simp [World.cell?, kbx]
      have b2 : w2.cell? ⟨w.heap.size, 2, none⟩ = some (.slice ta0 c0.tree.length tcap0) := by simp [World.cell?, kbx]
      have f0 : w2.frozen? ⟨w.heap.size, 0, none⟩ = false := by simp [World.frozen?, kbx]
      have f1 : w2.frozen? ⟨w.heap.size, 1, none⟩ = false := by simp [World.frozen?, kbx]
      have f2 : w2.frozen? ⟨w.heap.size, 2, none⟩ = false := by simp [World.frozen?, kbx]
      have hfc : (fN : Int) < (cl : Int) := by omega
      have hfc2 : fN < cl := by omega
      have hccap := HRD.out.2.1
      have hccm := HRD.out.2.2.1
      unfold maxLen at hccm
      rw [← HCL.out] at hccap
      have HKBX := hid kbx
      have HKS0 := hid kS0
      clear d0 d1 d2 d4 upw up2 hcc kbx kS0
      go_wp2
      rw [← hw2]
      clear hw2
      go_region
      obtain ⟨W0, hW0⟩ : ∃ v, v = (((w2.setCell ⟨w.heap.size, 0, none⟩ (.int .i64 c.first)).setCell ⟨w.heap.size, 1, none⟩ (.slice pa c.places.length pcap)).setCell ⟨w.heap.size, 2, none⟩ (.slice ta c.tree.length tcap)).drew := ⟨_, rfl⟩
      have hot : ∀ b, b ≠ w.heap.size → W0.heap[b]? = w2.heap[b]? := fun b hb => by
        rw [hW0]
        show (((w2.setCell ⟨w.heap.size, 0, none⟩ (.int .i64 c.first)).setCell ⟨w.heap.size, 1, none⟩ (.slice pa c.places.length pcap)).setCell ⟨w.heap.size, 2, none⟩ (.slice ta c.tree.length tcap)).heap[b]? = _
        iterate 3 rw [heap_setCell_other _ _ _ _ (by show b ≠ w.heap.size; exact hb)]
      have kW : W0.heap[w.heap.size]? = some (.cells #[.int .i64 c.first, .slice pa c.places.length pcap, .slice ta c.tree.length tcap] 70 (0, 0)) := by
        rw [hW0]
        show (((w2.setCell ⟨w.heap.size, 0, none⟩ (.int .i64 c.first)).setCell ⟨w.heap.size, 1, none⟩ (.slice pa c.places.length pcap)).setCell ⟨w.heap.size, 2, none⟩ (.slice ta c.tree.length tcap)).heap[w.heap.size]? = _
        rw [heap_setCell_same _ w.heap.size 2 _ _ _ (heap_setCell_same _ w.heap.size 1 _ _ _ (heap_setCell_same w2 w.heap.size 0 _ _ _ HKBX.out))]
        rfl
      have kS : W0.heap[wr.heap.size]? = some (.cells #[.int .i64 fN, .int .i64 x2] 74 (0, 0)) := (hot wr.heap.size (by omega)).trans HKS0.out
      have hsW : W0.heap.size = wr.heap.size + 1 := by
        rw [hW0]
        show (((w2.setCell ⟨w.heap.size, 0, none⟩ (.int .i64 c.first)).setCell ⟨w.heap.size, 1, none⟩ (.slice pa c.places.length pcap)).setCell ⟨w.heap.size, 2, none⟩ (.slice ta c.tree.length tcap)).heap.size = _
        simp [hs2]
      have hbW : Below w.heap.size w W0 := by
        rw [hW0]
        exact ((((hbel.trans (hb2.mono hbel.size)).setCell (p := ⟨w.heap.size, 0, none⟩) (Nat.le_refl _) _).setCell (p := ⟨w.heap.size, 1, none⟩) (Nat.le_refl _) _).setCell (p := ⟨w.heap.size, 2, none⟩) (Nat.le_refl _) _).drew
      have hkW : ∀ b, b < w1.heap.size → b ≠ w.heap.size → W0.heap[b]? = w1.heap[b]? := fun b h1 h2 => ((hot b h2).trans (hb2.block b (by omega))).trans (hkeep b h1 h2)
      have HOW : Hid (W0.ownsRow w1.heap.size 3 1 u3 ll (ints l)) := owns_same (ownsRow_below hown hb2) (fun b hb => hot b (by have := (hown.lt b hb).1; omega))
      rw [← hW0]
      clear hW0 hot HKBX HKS0 e0 e1 e2 e4 s0 b0 b1 b2 f0 f1 f2 hb2 hown hkeep hbox hrd0 hr hbel t0 t1 hrp hrt hcat
      have HPO := hid (placeOf_any c pa pcap ta tcap (0 : Int) x2 W0 (HRP.out.below hbW))
      obtain ⟨pc, hpc⟩ : ∃ v, v = placeOf (0 : Int) x2 c.places := ⟨_, rfl⟩
      rw [← hpc] at HPO HR
      have hpcl : pc ≤ 1000 := by rw [hpc]; exact Nat.le_trans (placeOf_le _ _ _) HBC.out.2.1
      clear hpc
      obtain ⟨c1, ⟨c2, c3⟩, c4, c5⟩ : 0 ≤ c.first ∧ (c.first ≤ 1000 ∧ True) ∧ c.places.length ≤ 1000 ∧ c.tree.length ≤ 1000 := ⟨HBC.out.1.1, ⟨HBC.out.1.2, trivial⟩, HBC.out.2.1, HBC.out.2.2⟩
      have z0 : W0.cell? ⟨w.heap.size, 0, none⟩ = some (.int .i64 c.first) := by simp [World.cell?, kW]
      have z1 : W0.cell? ⟨w.heap.size, 1, none⟩ = some (.slice pa c.places.length pcap) := by simp [World.cell?, kW]
      have z2 : W0.cell? ⟨w.heap.size, 2, none⟩ = some (.slice ta c.tree.length tcap) := by simp [World.cell?, kW]
      have y1 : W0.cell? ⟨wr.heap.size, 1, none⟩ = some (.int .i64 x2) := by simp [World.cell?, kS]
      have HKW := hid kW
      have HKK := hid hkW
      have ltc := (Array.getElem?_eq_some_iff.1 kW).1
      clear kW kS hkW
      go_wp2_with fail
      refine HPO.out.mono ?_
      clear HPO z0 z1 z2 y1
      rintro e W1 ⟨rfl, hb1'⟩
      have kW1 := (hb1'.block w.heap.size ltc).trans HKW.out
      have hsW1 := hb1'.size
      have hbW1 : Below w.heap.size w W1 := hbW.trans (hb1'.mono hbW.size)
      have hkW1 : ∀ b, b < w1.heap.size → b ≠ w.heap.size → W1.heap[b]? = w1.heap[b]? := fun b h1 h2 => (hb1'.block b (by omega)).trans (HKK.out b h1 h2)
      have how1 := ownsRow_below HOW.out hb1'
      have HOW1 := hid how1
      have z0 : W1.cell? ⟨w.heap.size, 0, none⟩ = some (.int .i64 c.first) := by simp [World.cell?, kW1]
      have z1 : W1.cell? ⟨w.heap.size, 1, none⟩ = some (.slice pa c.places.length pcap) := by simp [World.cell?, kW1]
      have z2 : W1.cell? ⟨w.heap.size, 2, none⟩ = some (.slice ta c.tree.length tcap) := by simp [World.cell?, kW1]
      have ltc1 := (Array.getElem?_eq_some_iff.1 kW1).1
      have ewn : IntKind.i64.wrap ((ns : Int) - 1) = (ns : Int) - 1 := by rw [IntKind.wrap_i64]; omega
      have ewp : IntKind.i64.wrap (c.first + pc) = c.first + pc := by rw [IntKind.wrap_i64]; omega
      have ewq : IntKind.i64.wrap (c.first + pc + 1) = c.first + pc + 1 := by rw [IntKind.wrap_i64]; omega
      have HKW1 := hid kW1
      have HKK1 := hid hkW1
      have HBW1 := hid hbW1
      clear HKW HKK HOW kW1 how1 hkW1 hbW1
      by_cases hlast : j + 1 = ns
      · have hl1 : ((j : Int) == (ns : Int) - 1) = true := by simp; omega
        have hfin : res = l ++ [c.first + pc] := by
          have h := HR.out
          rw [if_pos (by rw [List.length_drop, ← HNS.out]; omega)] at h
          exact h
        have HFN := hid hfin
        obtain ⟨i0, hi, hz0, hz1, hz2⟩ := info_parts Try.infoInt
        clear hfin HR
        go_wp2_with (at_builtin; refine wpList_append_own _ rfl (.tmp 41) (.tmp 46) 31 rfl w1.heap.size 3 i0 (.int .i64 0) 1 8 Try.underlying31 hi hz0 hz1 hz2 rfl (by decide) _ _ _ rfl (HOW1.out.alloc _) ⟨W1.heap.size, 0, none⟩ 1 1 [.int .i64 (c.first + pc)] rfl rfl (new1_at rfl _ _) (one1 _) (by unfold maxLen; omega) (by omega) (by simp; omega) ?_)
        intro v5 w5 hown5 hgrow5 _
        have hb5 : Below w.heap.size w w5 := (HBW1.out.alloc (by omega) _).grown hgrow5 (by simp; omega) (fun k hk => by have := (HOW1.out.lt k hk).1; omega)
        have hil : ints l ++ [.int .i64 (c.first + pc)] = ints res := by rw [HFN.out]; simp [ints]
        rw [hil] at hown5
        obtain ⟨ra, rcap, rfl, hrdI⟩ := rdI_of_owns hown5 (by rw [HFN.out, List.length_append, HLL.out]; rfl)
        have hrl : res.length = ll + 1 := by rw [HFN.out, List.length_append, HLL.out]; rfl
        have HRV := hid (reversed_any ra rcap res w5 (by rw [hrl]; exact hrdI) (by omega))
        rw [hrl] at HRV
        have HB5 := hid hb5
        have HRL := hid hrl
        have hsw5 := hb5.size
        clear hown5 hgrow5 hb5 hil hrdI hrl HFN HOW1 hi hz0 hz1 hz2 z0 z1 z2 ewn ewp ewq
        go_wp2_with fail
        refine HRV.out.mono ?_
        clear HRV
        rintro e w6 ⟨fa, fcap, rfl, ho6, hb6⟩
        have HO6 := hid (owns_lower ho6 (base' := w.heap.size) hsw5)
        have HB6 := hid (HB5.out.trans (hb6.mono hsw5))
        clear ho6 hb6
        go_wp2
        exact bodyPost_ret (v := .slice fa (ll + 1) fcap) (by simp [results, Try.results17, go_sem]) rfl ⟨fa, fcap, by rw [List.length_reverse, HRL.out], by rw [List.length_reverse, HRL.out]; exact HO6.out, HB6.out⟩
      · have hl1 : ((j : Int) == (ns : Int) - 1) = false := by simp; omega
        have HBG := hid (begunAt_any c pa pcap ta tcap (pc : Int) W1 (HRT.out.below HBW1.out) (by omega))
        obtain ⟨k2, hk2⟩ : ∃ v, v = begunAt (pc : Int) c.tree 0 := ⟨_, rfl⟩
        have hk2l : k2 ≤ 1000 := by rw [hk2]; exact Nat.le_trans (begunAt_le _ _ _) (by omega)
        rw [← hk2] at HBG
        have hres2 : res = if k2 = 0 then pcsF cs' (sp.drop (j + 1)) c 0 (l ++ [c.first + pc + 1]) else pcsF cs' (sp.drop (j + 1)) c k2 l := by
          have h := HR.out
          rw [if_neg (by rw [List.length_drop, ← HNS.out]; omega), ← hk2] at h
          exact h
        have HR2 := hid hres2
        clear hk2 HR hres2
        go_wp2_with fail
        refine HBG.out.mono ?_
        clear HBG z0 z1 z2
        rintro e W2 ⟨rfl, hb2'⟩
        have kW2 := (hb2'.block w.heap.size ltc1).trans HKW1.out
        have hsW2 := hb2'.size
        have hbW2 : Below w.heap.size w W2 := HBW1.out.trans (hb2'.mono HBW1.out.size)
        have hkW2 : ∀ b, b < w1.heap.size → b ≠ w.heap.size → W2.heap[b]? = w1.heap[b]? := fun b h1 h2 => (hb2'.block b (by omega)).trans (HKK1.out b h1 h2)
        have HOW2 := hid (ownsRow_below HOW1.out hb2')
        have z0 : W2.cell? ⟨w.heap.size, 0, none⟩ = some (.int .i64 c.first) := by simp [World.cell?, kW2]
        have ltc2 := (Array.getElem?_eq_some_iff.1 kW2).1
        have HKW2 := hid kW2
        have HKK2 := hid hkW2
        have HBW2 := hid hbW2
        clear HKW1 HKK1 HBW1 HOW1 kW2 hkW2 hbW2
        by_cases hkz : k2 = 0
        · subst hkz
          have HR3 : Hid (res = pcsF cs' (sp.drop (j + 1)) c 0 (l ++ [c.first + pc + 1])) := by
            have h := HR2.out
            rw [if_pos rfl] at h
            exact h
          obtain ⟨i0, hi, hz0, hz1, hz2⟩ := info_parts Try.infoInt
          clear HR2
          go_wp2_with (at_builtin; refine wpList_append_own _ rfl (.tmp 53) (.tmp 59) 31 rfl w1.heap.size 3 i0 (.int .i64 0) 1 8 Try.underlying31 hi hz0 hz1 hz2 rfl (by decide) _ _ _ rfl (HOW2.out.alloc _) ⟨W2.heap.size, 0, none⟩ 1 1 [.int .i64 (c.first + pc + 1)] rfl rfl (new1_at rfl _ _) (one1 _) (by unfold maxLen; omega) (by omega) (by simp; omega) ?_)
          intro v5 w5 hown5 hgrow5 _
          have hb5 : Below w.heap.size w w5 := (HBW2.out.alloc (by omega) _).grown hgrow5 (by simp; omega) (fun k hk => by have := (HOW2.out.lt k hk).1; omega)
          have hil : ints l ++ [.int .i64 (c.first + pc + 1)] = ints (l ++ [c.first + pc + 1]) := by simp [ints]
          rw [hil] at hown5
          have hne5 : ∀ b, b < w1.heap.size → w5.heap[b]? = W2.heap[b]? := fun b h1 => (hgrow5.block b (by simp; omega) (fun e => by have := (HOW2.out.lt b e.symm).1; omega)).trans (heap_alloc_old _ _ (by omega))
          have g1 := (hne5 w.heap.size (by omega)).trans HKW2.out
          have g2 : ∀ b, b < w1.heap.size → b ≠ w.heap.size → w5.heap[b]? = w1.heap[b]? := fun b h1 h2 => (hne5 b h1).trans (HKK2.out b h1 h2)
          have g3 : w1.heap.size ≤ w5.heap.size := by have := hgrow5.size; simp at this; omega
          have HREL := hid (⟨hown5, hb5, g1, g2, g3⟩ : _ ∧ _ ∧ _ ∧ _ ∧ _)
          clear hown5 hgrow5 hb5 hil hne5 g1 g2 g3 HOW2 HBW2 HKW2 HKK2 hi hz0 hz1 hz2 z0 ewn ewp ewq
          go_wp2
          go_roundw
          case rel =>
            obtain ⟨x1, x2, x3, x4, x5⟩ := HREL.out
            exact ⟨j + 1, 0, c, l ++ [c.first + pc + 1], pa, pcap, ta, tcap, by go_num, rfl, by omega, by omega, by rw [List.length_append, HLL.out]; show ll + 1 ≤ j + 1; omega, HR3.out, x2, x4, x5, x3, fun h => absurd rfl h, by rw [List.length_append, HLL.out]; exact x1⟩
          case measure => simp [intOf]; omega
        · have hkz' : ((k2 : Int) == 0) = false := by simp; omega
          have HR3 : Hid (res = pcsF cs' (sp.drop (j + 1)) c k2 l) := by
            have h := HR2.out
            rw [if_neg hkz] at h
            exact h
          clear HR2
          go_wp2
          go_roundw
          case rel => exact ⟨j + 1, k2, c, l, pa, pcap, ta, tcap, by go_num, rfl, by omega, by omega, by rw [HLL.out]; omega, HR3.out, HBW2.out, HKK2.out, by omega, HKW2.out, fun _ => ⟨HRP.out, HRT.out, HBC.out⟩, by rw [HLL.out]; exact HOW2.out⟩
          case measure => simp [intOf]; omega
    · have hcat : codeAt cs' (fN : Int) c0 k = c0 := by unfold codeAt; rw [if_neg hk0]
      unfold pcsF at hr
      rw [hcat] at hr
      obtain ⟨hrp, hrt, hbc⟩ := hrd0 hk0
      have HBC := hid hbc
      have HRP := hid hrp
      have HRT := hid hrt
      have HR := hid hr
      have hk0' : ((k : Int) == 0) = false := by simp; omega
      obtain ⟨W0, hW0⟩ : ∃ v, v = wr.alloc (Obj.cells #[.int .i64 fN, .int .i64 x2] 74) := ⟨_, rfl⟩
      have hb2 : Below wr.heap.size wr W0 := by rw [hW0]; exact (Below.refl _ _).alloc (Nat.le_refl _) _
      have hsW : W0.heap.size = wr.heap.size + 1 := by rw [hW0]; simp
      have kS : W0.heap[wr.heap.size]? = some (.cells #[.int .i64 fN, .int .i64 x2] 74 (0, 0)) := by rw [hW0]; exact heap_new_at rfl
      have kW := (hb2.block w.heap.size ltw).trans hbox
      have hbW : Below w.heap.size w W0 := hbel.trans (hb2.mono hbel.size)
      have hkW : ∀ b, b < w1.heap.size → b ≠ w.heap.size → W0.heap[b]? = w1.heap[b]? := fun b h1 h2 => (hb2.block b (by omega)).trans (hkeep b h1 h2)
      have HOW : Hid (W0.ownsRow w1.heap.size 3 1 u3 ll (ints l)) := ownsRow_below hown hb2
      have HT := hid hW0
      clear hW0 hb2 hown hkeep hbox hrd0 hr hbel hrp hrt hcat hbc
      have HPO := hid (placeOf_any c0 pa0 pcap0 ta0 tcap0 (k : Int) x2 W0 (HRP.out.below hbW))
      obtain ⟨pc, hpc⟩ : ∃ v, v = placeOf (k : Int) x2 c0.places := ⟨_, rfl⟩
      rw [← hpc] at HPO HR
      have hpcl : pc ≤ 1000 := by rw [hpc]; exact Nat.le_trans (placeOf_le _ _ _) HBC.out.2.1
      clear hpc
      obtain ⟨c1, ⟨c2, c3⟩, c4, c5⟩ : 0 ≤ c0.first ∧ (c0.first ≤ 1000 ∧ True) ∧ c0.places.length ≤ 1000 ∧ c0.tree.length ≤ 1000 := ⟨HBC.out.1.1, ⟨HBC.out.1.2, trivial⟩, HBC.out.2.1, HBC.out.2.2⟩
      have z0 : W0.cell? ⟨w.heap.size, 0, none⟩ = some (.int .i64 c0.first) := by simp [World.cell?, kW]
      have z1 : W0.cell? ⟨w.heap.size, 1, none⟩ = some (.slice pa0 c0.places.length pcap0) := by simp [World.cell?, kW]
      have z2 : W0.cell? ⟨w.heap.size, 2, none⟩ = some (.slice ta0 c0.tree.length tcap0) := by simp [World.cell?, kW]
      have y1 : W0.cell? ⟨wr.heap.size, 1, none⟩ = some (.int .i64 x2) := by simp [World.cell?, kS]
      have HKW := hid kW
      have HKK := hid hkW
      have ltc := (Array.getElem?_eq_some_iff.1 kW).1
      clear kW kS hkW
      rw [HT.out] at z0 z1 z2 y1
      go_wp2_with fail
      rw [← HT.out]
      clear HT
      refine HPO.out.mono ?_
      clear HPO z0 z1 z2 y1
      rintro e W1 ⟨rfl, hb1'⟩
      have kW1 := (hb1'.block w.heap.size ltc).trans HKW.out
      have hsW1 := hb1'.size
      have hbW1 : Below w.heap.size w W1 := hbW.trans (hb1'.mono hbW.size)
      have hkW1 : ∀ b, b < w1.heap.size → b ≠ w.heap.size → W1.heap[b]? = w1.heap[b]? := fun b h1 h2 => (hb1'.block b (by omega)).trans (HKK.out b h1 h2)
      have how1 := ownsRow_below HOW.out hb1'
      have HOW1 := hid how1
      have z0 : W1.cell? ⟨w.heap.size, 0, none⟩ = some (.int .i64 c0.first) := by simp [World.cell?, kW1]
      have z1 : W1.cell? ⟨w.heap.size, 1, none⟩ = some (.slice pa0 c0.places.length pcap0) := by simp [World.cell?, kW1]
      have z2 : W1.cell? ⟨w.heap.size, 2, none⟩ = some (.slice ta0 c0.tree.length tcap0) := by simp [World.cell?, kW1]
      have ltc1 := (Array.getElem?_eq_some_iff.1 kW1).1
      have ewn : IntKind.i64.wrap ((ns : Int) - 1) = (ns : Int) - 1 := by rw [IntKind.wrap_i64]; omega
      have ewp : IntKind.i64.wrap (c0.first + pc) = c0.first + pc := by rw [IntKind.wrap_i64]; omega
      have ewq : IntKind.i64.wrap (c0.first + pc + 1) = c0.first + pc + 1 := by rw [IntKind.wrap_i64]; omega
      have HKW1 := hid kW1
      have HKK1 := hid hkW1
      have HBW1 := hid hbW1
      clear HKW HKK HOW kW1 how1 hkW1 hbW1
      by_cases hlast : j + 1 = ns
      · have hl1 : ((j : Int) == (ns : Int) - 1) = true := by simp; omega
        have hfin : res = l ++ [c0.first + pc] := by
          have h := HR.out
          rw [if_pos (by rw [List.length_drop, ← HNS.out]; omega)] at h
          exact h
        have HFN := hid hfin
        obtain ⟨i0, hi, hz0, hz1, hz2⟩ := info_parts Try.infoInt
        clear hfin HR
        go_wp2_with (at_builtin; refine wpList_append_own _ rfl (.tmp 41) (.tmp 46) 31 rfl w1.heap.size 3 i0 (.int .i64 0) 1 8 Try.underlying31 hi hz0 hz1 hz2 rfl (by decide) _ _ _ rfl (HOW1.out.alloc _) ⟨W1.heap.size, 0, none⟩ 1 1 [.int .i64 (c0.first + pc)] rfl rfl (new1_at rfl _ _) (one1 _) (by unfold maxLen; omega) (by omega) (by simp; omega) ?_)
        intro v5 w5 hown5 hgrow5 _
        have hb5 : Below w.heap.size w w5 := (HBW1.out.alloc (by omega) _).grown hgrow5 (by simp; omega) (fun k hk => by have := (HOW1.out.lt k hk).1; omega)
        have hil : ints l ++ [.int .i64 (c0.first + pc)] = ints res := by rw [HFN.out]; simp [ints]
        rw [hil] at hown5
        obtain ⟨ra, rcap, rfl, hrdI⟩ := rdI_of_owns hown5 (by rw [HFN.out, List.length_append, HLL.out]; rfl)
        have hrl : res.length = ll + 1 := by rw [HFN.out, List.length_append, HLL.out]; rfl
        have HRV := hid (reversed_any ra rcap res w5 (by rw [hrl]; exact hrdI) (by omega))
        rw [hrl] at HRV
        have HB5 := hid hb5
        have HRL := hid hrl
        have hsw5 := hb5.size
        clear hown5 hgrow5 hb5 hil hrdI hrl HFN HOW1 hi hz0 hz1 hz2 z0 z1 z2 ewn ewp ewq
        go_wp2_with fail
        refine HRV.out.mono ?_
        clear HRV
        rintro e w6 ⟨fa, fcap, rfl, ho6, hb6⟩
        have HO6 := hid (owns_lower ho6 (base' := w.heap.size) hsw5)
        have HB6 := hid (HB5.out.trans (hb6.mono hsw5))
        clear ho6 hb6
        go_wp2
        exact bodyPost_ret (v := .slice fa (ll + 1) fcap) (by simp [results, Try.results17, go_sem]) rfl ⟨fa, fcap, by rw [List.length_reverse, HRL.out], by rw [List.length_reverse, HRL.out]; exact HO6.out, HB6.out⟩
      · have hl1 : ((j : Int) == (ns : Int) - 1) = false := by simp; omega
        have HBG := hid (begunAt_any c0 pa0 pcap0 ta0 tcap0 (pc : Int) W1 (HRT.out.below HBW1.out) (by omega))
        obtain ⟨k2, hk2⟩ : ∃ v, v = begunAt (pc : Int) c0.tree 0 := ⟨_, rfl⟩
        have hk2l : k2 ≤ 1000 := by rw [hk2]; exact Nat.le_trans (begunAt_le _ _ _) (by omega)
        rw [← hk2] at HBG
        have hres2 : res = if k2 = 0 then pcsF cs' (sp.drop (j + 1)) c0 0 (l ++ [c0.first + pc + 1]) else pcsF cs' (sp.drop (j + 1)) c0 k2 l := by
          have h := HR.out
          rw [if_neg (by rw [List.length_drop, ← HNS.out]; omega), ← hk2] at h
          exact h
        have HR2 := hid hres2
        clear hk2 HR hres2
        go_wp2_with fail
        refine HBG.out.mono ?_
        clear HBG z0 z1 z2
        rintro e W2 ⟨rfl, hb2'⟩
        have kW2 := (hb2'.block w.heap.size ltc1).trans HKW1.out
        have hsW2 := hb2'.size
        have hbW2 : Below w.heap.size w W2 := HBW1.out.trans (hb2'.mono HBW1.out.size)
        have hkW2 : ∀ b, b < w1.heap.size → b ≠ w.heap.size → W2.heap[b]? = w1.heap[b]? := fun b h1 h2 => (hb2'.block b (by omega)).trans (HKK1.out b h1 h2)
        have HOW2 := hid (ownsRow_below HOW1.out hb2')
        have z0 : W2.cell? ⟨w.heap.size, 0, none⟩ = some (.int .i64 c0.first) := by simp [World.cell?, kW2]
        have ltc2 := (Array.getElem?_eq_some_iff.1 kW2).1
        have HKW2 := hid kW2
        have HKK2 := hid hkW2
        have HBW2 := hid hbW2
        clear HKW1 HKK1 HBW1 HOW1 kW2 hkW2 hbW2
        by_cases hkz : k2 = 0
        · subst hkz
          have HR3 : Hid (res = pcsF cs' (sp.drop (j + 1)) c0 0 (l ++ [c0.first + pc + 1])) := by
            have h := HR2.out
            rw [if_pos rfl] at h
            exact h
          obtain ⟨i0, hi, hz0, hz1, hz2⟩ := info_parts Try.infoInt
          clear HR2
          go_wp2_with (at_builtin; refine wpList_append_own _ rfl (.tmp 53) (.tmp 59) 31 rfl w1.heap.size 3 i0 (.int .i64 0) 1 8 Try.underlying31 hi hz0 hz1 hz2 rfl (by decide) _ _ _ rfl (HOW2.out.alloc _) ⟨W2.heap.size, 0, none⟩ 1 1 [.int .i64 (c0.first + pc + 1)] rfl rfl (new1_at rfl _ _) (one1 _) (by unfold maxLen; omega) (by omega) (by simp; omega) ?_)
          intro v5 w5 hown5 hgrow5 _
          have hb5 : Below w.heap.size w w5 := (HBW2.out.alloc (by omega) _).grown hgrow5 (by simp; omega) (fun k hk => by have := (HOW2.out.lt k hk).1; omega)
          have hil : ints l ++ [.int .i64 (c0.first + pc + 1)] = ints (l ++ [c0.first + pc + 1]) := by simp [ints]
          rw [hil] at hown5
          have hne5 : ∀ b, b < w1.heap.size → w5.heap[b]? = W2.heap[b]? := fun b h1 => (hgrow5.block b (by simp; omega) (fun e => by have := (HOW2.out.lt b e.symm).1; omega)).trans (heap_alloc_old _ _ (by omega))
          have g1 := (hne5 w.heap.size (by omega)).trans HKW2.out
          have g2 : ∀ b, b < w1.heap.size → b ≠ w.heap.size → w5.heap[b]? = w1.heap[b]? := fun b h1 h2 => (hne5 b h1).trans (HKK2.out b h1 h2)
          have g3 : w1.heap.size ≤ w5.heap.size := by have := hgrow5.size; simp at this; omega
          have HREL := hid (⟨hown5, hb5, g1, g2, g3⟩ : _ ∧ _ ∧ _ ∧ _ ∧ _)
          clear hown5 hgrow5 hb5 hil hne5 g1 g2 g3 HOW2 HBW2 HKW2 HKK2 hi hz0 hz1 hz2 z0 ewn ewp ewq
          go_wp2
          go_roundw
          case rel =>
            obtain ⟨x1, x2, x3, x4, x5⟩ := HREL.out
            exact ⟨j + 1, 0, c0, l ++ [c0.first + pc + 1], pa0, pcap0, ta0, tcap0, by go_num, rfl, by omega, by omega, by rw [List.length_append, HLL.out]; show ll + 1 ≤ j + 1; omega, HR3.out, x2, x4, x5, x3, fun h => absurd rfl h, by rw [List.length_append, HLL.out]; exact x1⟩
          case measure => simp [intOf]; omega
        · have hkz' : ((k2 : Int) == 0) = false := by simp; omega
          have HR3 : Hid (res = pcsF cs' (sp.drop (j + 1)) c0 k2 l) := by
            have h := HR2.out
            rw [if_neg hkz] at h
            exact h
          clear HR2
          go_wp2
          go_roundw
          case rel => exact ⟨j + 1, k2, c0, l, pa0, pcap0, ta0, tcap0, by go_num, rfl, by omega, by omega, by rw [HLL.out]; omega, HR3.out, HBW2.out, HKK2.out, by omega, HKW2.out, fun _ => ⟨HRP.out, HRT.out, HBC.out⟩, by rw [HLL.out]; exact HOW2.out⟩
          case measure => simp [intOf]; omega

set_option maxHeartbeats 4000000 in
set_option maxRecDepth 100000 in
theorem uPcs_any (p : List FnD) (bud : Int) (mb : Nat) (X : RX) (w0 : World) (s : StandD) (w : World) (cs : List CodeD) (hcs : codesD p bud = some cs) (hgd : Good (strip p)) (hw : Wf (strip p) s) (hm : MachAt p bud mb X w0 w s) :
    Calls Try.prog 12 #[.pointer (some ⟨mb, 0, none⟩)] w fun e w' => ∃ a cap, e = .returned (.slice a (pcsD cs s.live).length cap) ∧
      w'.ownsRow w.heap.size 3 1 (.slice a (pcsD cs s.live).length cap) (pcsD cs s.live).length (ints (pcsD cs s.live)) ∧ Below w.heap.size w w' := by
  have HS := hid (mPcs_any p bud mb X w0 s w cs hcs hgd hw hm)
  clear hm hgd hw hcs
  generalize pcsD cs s.live = l at *
  obtain ⟨n, hn⟩ : ∃ v, v = l.length := ⟨_, rfl⟩
  rw [← hn] at HS ⊢
  clear hn
  go_enter Try.func12, Try.ntmps12
  go_wp2_with fail
  refine HS.out.mono ?_
  clear HS
  rintro e w1 ⟨a, cap, rfl, ho, hb⟩
  have HO := hid ho
  have HB := hid hb
  clear ho hb
  go_wp2
  exact bodyPost_ret (v := .slice a n cap) (by simp [results, Try.results12, go_sem]) rfl ⟨a, cap, rfl, HO.out, HB.out⟩
end Go.Proofs.Ytooinlilplecpab
