/- Contract of unfoldref.Next: one step. -/
import Derived.Test.YtffnfjkjlmlonaaGreatDoorR8
import Derived.Test.YtffnfjkjlmlonaaGreatDoorR9
namespace Go.Proofs.YtffnfjkjlmlonaaGreatDoor
open Go.RowKit

set_option maxHeartbeats 4000000 in
set_option maxRecDepth 100000 in
theorem Next_ended (U : Nat → Prop) (pa : Option Addr) (pcap : Nat) (p : List FnD) (sa : Option Addr) (scap : Nat) (s : StandD) (w : World) (hs : RdL 3 (RdLiveU U) w sa s.live.length scap s.live) (hsU : InU U sa s.live.length) (h0 : s.status ≠ 0) :
    Calls Tryz.prog 122 #[.agg #[.slice pa p.length pcap], .agg #[.int .i64 s.status, .int .i64 s.value, .slice sa s.live.length scap]] w fun e w' =>
      ∃ cs, e = .returned (.agg cs.toArray) ∧ RdStandU (OrNew U w.heap.size) w' cs s ∧ Below w.heap.size w w' := by
  obtain ⟨hs, hsU⟩ := rdL_old hs hsU
  have hSS : ∀ (W : World), Below w.heap.size w W → RdStandU (OrNew U w.heap.size) W [.int .i64 s.status, .int .i64 s.value, .slice sa s.live.length scap] s := fun W hW => ⟨sa, scap, rfl, hs.keeps hsU (Keeps.below hW) (fun _ _ h => h.keeps (Keeps.below hW) (fun _ h => .inl h.1)), fun h0 q hq => .inl (hsU h0 q hq).1⟩
  have HS := hid hSS
  clear hSS
  have h0' : (s.status != 0) = true := by simpa using h0
  obtain ⟨st, sv, live⟩ := s
  simp only at *
  clear hs hsU h0
  generalize live.length = nl at *
  generalize p.length = pl at *
  go_enter Tryz.func122, Tryz.ntmps122
  go_wp2
  have hb : Below w.heap.size w (((w.alloc (Obj.cells #[.slice pa pl pcap] 44)).alloc (Obj.cells #[.int .i64 st, .int .i64 sv, .slice sa nl scap] 95)).alloc (Obj.cells #[.int .i64 st, .int .i64 sv, .slice sa nl scap] 95)) := (((Below.refl _ _).alloc (Nat.le_refl _) _).alloc (by simp) _).alloc (by simp; omega) _
  exact bodyPost_ret (v := .agg #[.int .i64 st, .int .i64 sv, .slice sa nl scap]) (by simp [results, Tryz.results122, go_sem]) rfl ⟨[.int .i64 st, .int .i64 sv, .slice sa nl scap], rfl, HS.out _ hb, hb⟩

theorem set_self_loc {l : List Int} {k : Nat} {v : Int} (h : v = (l[k]?).getD 0) : l.set k v = l := by
  by_cases hk : k < l.length
  · rw [h, List.getElem?_eq_getElem hk]
    simp
  · exact List.set_eq_of_length_le (by omega)

set_option maxHeartbeats 4000000 in
set_option maxRecDepth 100000 in
theorem Next_top (U : Nat → Prop) (pa : Option Addr) (pcap : Nat) (p : List FnD) (sa : Option Addr) (scap : Nat) (ini : List LiveD) (x : LiveD) (w : World) (hg : Good p) (hp : RdP w pa p.length pcap p)
    (hs : RdL 3 (RdLiveU U) w sa (ini.length + 1) scap (ini ++ [x])) (hsU : InU U sa (ini.length + 1)) (hlen : ini.length + 1 ≤ 20) (hini : ∀ y ∈ ini, WfLive p y ∧ (opOf p y).code = 5) (hx : WfLive p x) :
    Calls Tryz.prog 122 #[.agg #[.slice pa p.length pcap], .agg #[.int .i64 0, .int .i64 0, .slice sa (ini.length + 1) scap]] w fun e w' =>
      ∃ cs, e = .returned (.agg cs.toArray) ∧ RdStandU (OrNew U w.heap.size) w' cs (stepTop p ini x) ∧ Below w.heap.size w w' := by
  replace hs := rdL_old hs hsU
  clear hsU
  obtain ⟨hs, hsU⟩ := hs
  obtain ⟨m, hm⟩ : ∃ m, m = ini.length := ⟨_, rfl⟩
  rw [← hm] at hs hsU hlen ⊢
  have hcx : (ini ++ [x])[m]? = some x := by simp [hm]
  obtain ⟨b, off, cs, e1, -, hcells, hlive⟩ := hs.2.2.2 m x hcx
  obtain ⟨la, lcap, rfl, hrdc, hrdU⟩ := hlive
  have hok := hx.opOk hg
  have hfk := hx.fnOk hg
  have hfl := hfk.locals
  have hloc := hx.locals
  have hcn := hx.next
  have hcf := hx.fn
  have ha := hok.a
  obtain ⟨pb, poff, ba, bcap, rfl, -, -, -, -, -, c4, hrb, -, -⟩ := hp.at x.fn.toNat _ (fnOf_some hx)
  obtain ⟨qb, qoff, oa, ocap, rfl, -, q0, q1, q2, q3, q4, q5, hro⟩ := hrb.opAt x.next.toNat _ (opOf_some hx)
  have hbl1 := hrb.2.1
  have hbl2 := hrb.2.2.1
  have hpc1 := hp.2.1
  have hpc2 := hp.2.2.1
  have hsc1 := hs.2.1
  have hsc2 := hs.2.2.1
  unfold maxLen at hbl2 hpc2 hsc2
  have hcell : ∀ j u, [Value.int .i64 x.fn, .int .i64 x.next, .slice la x.locals.length lcap][j]? = some u → w.cell? ⟨b, off + m * 3 + j, none⟩ = some u := hcells
  have c0 : w.cell? ⟨b, off + m * 3, none⟩ = _ := hcell 0 _ rfl
  have c1 := hcell 1 _ rfl
  have c2 := hcell 2 _ rfl
  subst e1
  obtain ⟨o, hoo⟩ : ∃ o, o = opOf p x := ⟨_, rfl⟩
  rw [← hoo] at q0 q1 q2 q3 q4 q5 hro hok ha
  have HOO := hid hoo
  clear hoo
  have hvx := hx.loc ha
  have hvr := hx.val ha
  have hst : stepTop p ini x = if o.code = 5 then (if ini.length + 1 = 20 then ⟨3, 0, ini ++ [x]⟩ else ⟨0, 0, ini ++ [x] ++ [calleeD p x o]⟩)
      else if o.code = 6 then (match ini.getLast? with | none => ⟨1, locOf x o.a, []⟩ | some c => ⟨0, 0, ini.dropLast ++ [setL c (opOf p c).a (locOf x o.a) (c.next + 1)]⟩)
      else if o.code = 4 then ⟨0, 0, ini ++ [⟨x.fn, if locOf x o.a = 0 then x.next + 1 else o.b, x.locals⟩]⟩
      else if o.code = 0 then ⟨0, 0, ini ++ [setL x o.a o.b (x.next + 1)]⟩
      else if o.code = 3 ∧ locOf x o.c = 0 then ⟨2, 0, ini ++ [x]⟩
      else ⟨0, 0, ini ++ [setL x o.a (cnt o.code (locOf x o.b) (locOf x o.c)) (x.next + 1)]⟩ := by rw [HOO.out]; rfl
  obtain ⟨sd, hsd⟩ : ∃ sd, sd = stepTop p ini x := ⟨_, rfl⟩
  rw [← hsd] at hst ⊢
  clear hsd
  have HST := hid hst
  have HWP := hid hp
  have HHS := hid hs
  have HG := hid hg
  have HXW := hid hx
  have HINI := hid hini
  have HOK := hid hok
  have HRO := hid hro
  have HRX := hid hrdc
  obtain ⟨fN, hfN⟩ : ∃ n : Nat, x.fn = n := ⟨x.fn.toNat, by omega⟩
  obtain ⟨sN, hsN⟩ : ∃ n : Nat, x.next = n := ⟨x.next.toNat, by omega⟩
  obtain ⟨aN, haN⟩ : ∃ n : Nat, o.a = n := ⟨o.a.toNat, by omega⟩
  have hfp : fN < p.length := by omega
  have hsb : sN < (fnOf p x).body.length := by omega
  have haL : aN < x.locals.length := by omega
  obtain ⟨xb, xoff, rfl, hxc⟩ := hrdc.cell aN haL
  have hva : x.locals.getD aN 0 = locOf x o.a := by rw [haN]; simp [locOf, List.getD_eq_getElem?_getD]
  rw [hva] at hxc
  rw [hfN] at c0 c4
  rw [hsN] at c1 q0 q1 q2 q3 q4 q5
  rw [haN] at q2
  simp only [Int.toNat_natCast] at c4 q0 q1 q2 q3 q4 q5
  have hxcap := hrdc.hcap
  have hxmax := hrdc.hmax
  unfold maxLen at hxmax
  have hl8 : x.locals.length ≤ 8 := by omega
  have hb30 := hfk.body
  clear hst hp hs hg hx hini hok hro hrdc hcells hcell hrb hcx hfk hvx hva hcf hcn
  obtain ⟨pl, hpl⟩ : ∃ v, v = p.length := ⟨_, rfl⟩
  rw [← hpl] at hpc1 hfp ⊢
  have HPL := hid hpl
  clear hpl
  obtain ⟨nl, hnl⟩ : ∃ v, v = x.locals.length := ⟨_, rfl⟩
  rw [← hnl] at c2 haL hxcap hl8
  have HNL := hid hnl
  clear hnl
  obtain ⟨bl, hbl⟩ : ∃ v, v = (fnOf p x).body.length := ⟨_, rfl⟩
  rw [← hbl] at c4 hsb hbl1 hb30
  have HBL := hid hbl
  clear hbl
  obtain ⟨na, hna⟩ : ∃ v, v = o.args.length := ⟨_, rfl⟩
  rw [← hna] at q5
  have HNA := hid hna
  clear hna
  obtain ⟨va, hvv⟩ : ∃ v, v = locOf x o.a := ⟨_, rfl⟩
  rw [← hvv] at hxc hvr
  have HVV := hid hvv
  have HFN := hid hfN
  have HSN := hid hsN
  have HAN := hid haN
  clear hvv hfN hsN haN ha hloc hfl
  obtain ⟨oc, hoc⟩ : ∃ v, v = o.code := ⟨_, rfl⟩
  obtain ⟨ol, hol⟩ : ∃ v, v = o.line := ⟨_, rfl⟩
  obtain ⟨ob, hob⟩ : ∃ v, v = o.b := ⟨_, rfl⟩
  obtain ⟨od, hod⟩ : ∃ v, v = o.c := ⟨_, rfl⟩
  rw [← hoc] at q0
  rw [← hol] at q1
  rw [← hob] at q3
  rw [← hod] at q4
  have HOC := hid hoc
  have HOL := hid hol
  have HOB := hid hob
  have HOD := hid hod
  clear hoc hol hob hod
  have hm1 : ((m + 1 : Nat) : Int) = (m : Int) + 1 := by omega
  have hm2 : ((m : Int) + 1 - 1) = (m : Int) := by omega
  have hm0 : (((m : Int) + 1) == 0) = false := by simp; omega
  have HM := hid hm
  clear hm
  have lt1 := World.block_lt_of_cell? w _ c0
  have lt2 := World.block_lt_of_cell? w _ c4
  have lt3 := World.block_lt_of_cell? w _ q0
  have lt4 := World.block_lt_of_cell? w _ hxc
  simp only at lt1 lt2 lt3 lt4
  have lt1a : b < w.heap.size + 1 := by omega
  have lt2a : pb < w.heap.size + 1 := by omega
  have lt3a : qb < w.heap.size + 1 := by omega
  have lt4a : xb < w.heap.size + 1 := by omega
  have lt1b : b < w.heap.size + 1 + 1 := by omega
  have lt2b : pb < w.heap.size + 1 + 1 := by omega
  have lt3b : qb < w.heap.size + 1 + 1 := by omega
  have lt4b : xb < w.heap.size + 1 + 1 := by omega
  obtain ⟨wb, hwb⟩ : ∃ wb, wb = ((w.alloc (Obj.cells #[.slice (some ⟨pb, poff, none⟩) pl pcap] 44)).alloc (Obj.cells #[.int .i64 0, .int .i64 0, .slice (some ⟨b, off, none⟩) (m + 1) scap] 95)).alloc (Obj.cells #[.int .i64 0, .int .i64 0, .slice none 0 0] 95) := ⟨_, rfl⟩
  have hbb : Below w.heap.size w wb := by rw [hwb]; exact (((Below.refl _ _).alloc (Nat.le_refl _) _).alloc (by simp) _).alloc (by simp; omega) _
  have hbs : wb.heap.size = w.heap.size + 3 := by rw [hwb]; simp
  have k0 : wb.heap[w.heap.size]? = some (.cells #[.slice (some ⟨pb, poff, none⟩) pl pcap] 44 (0, 0)) := by rw [hwb]; exact heap_at1 (by simp <;> omega) (heap_at1 (by simp <;> omega) (heap_new_at (by simp)))
  have k1 : wb.heap[w.heap.size + 1]? = some (.cells #[.int .i64 0, .int .i64 0, .slice (some ⟨b, off, none⟩) (m + 1) scap] 95 (0, 0)) := by rw [hwb]; exact heap_at1 (by simp <;> omega) (heap_new_at (by simp))
  have k2 : wb.heap[w.heap.size + 1 + 1]? = some (.cells #[.int .i64 0, .int .i64 0, .slice none 0 0] 95 (0, 0)) := by rw [hwb]; exact heap_new_at (by simp)
  obtain ⟨w1, hw1⟩ : ∃ w1, w1 = wb.alloc (Obj.cells #[.int .i64 fN, .int .i64 sN, .slice (some ⟨xb, xoff, none⟩) nl lcap] 172) := ⟨_, rfl⟩
  have hb1 : Below wb.heap.size wb w1 := by rw [hw1]; exact (Below.refl _ _).alloc (Nat.le_refl _) _
  have hs1 : w1.heap.size = w.heap.size + 4 := by rw [hw1]; simp [hbs]
  have j3 : w1.heap[w.heap.size + 1 + 1 + 1]? = some (.cells #[.int .i64 fN, .int .i64 sN, .slice (some ⟨xb, xoff, none⟩) nl lcap] 172 (0, 0)) := by rw [hw1]; exact heap_new_at hbs
  have j0 := (hb1.block w.heap.size (by omega)).trans k0
  have j1 := (hb1.block (w.heap.size + 1) (by omega)).trans k1
  have j2 := (hb1.block (w.heap.size + 1 + 1) (by omega)).trans k2
  have hbw1 := hbb.trans (hb1.mono hbb.size)
  have HW1 := hid hw1
  rw [hwb] at hw1
  go_enter Tryz.func122, Tryz.ntmps122
  go_wp2
  rw [← hw1]
  have up1 : ∀ (q : Addr) (u : Value), w.cell? q = some u → w1.cell? q = some u := fun q u h => (hbw1.cell (World.block_lt_of_cell? w _ h)).trans h
  have s0 : w1.cell? ⟨w.heap.size, 0, none⟩ = some (.slice (some ⟨pb, poff, none⟩) pl pcap) := by simp [World.cell?, j0]
  have s1 : w1.cell? ⟨w.heap.size + 1 + 1 + 1, 0, none⟩ = some (.int .i64 fN) := by simp [World.cell?, j3]
  have s2 : w1.cell? ⟨w.heap.size + 1 + 1 + 1, 1, none⟩ = some (.int .i64 sN) := by simp [World.cell?, j3]
  have s3 := up1 _ _ c4
  have p0 := up1 _ _ q0
  have p1 := up1 _ _ q1
  have p2 := up1 _ _ q2
  have p3 := up1 _ _ q3
  have p4 := up1 _ _ q4
  have p5 := up1 _ _ q5
  have hxc1 := up1 _ _ hxc
  have HS1 := hid hs1
  have HBS := hid hbs
  have HJ0 := hid j0
  have HJ1 := hid j1
  have HJ2 := hid j2
  have HJ3 := hid j3
  clear hw1 hwb k0 k1 k2 q0 q1 q2 q3 q4 q5 c0 c1 c2 c4 hxc up1 lt1 lt2 lt3 lt4 lt1a lt1b lt2a lt2b lt3a lt3b lt4a lt4b hs1 hbs HW1 j0 j1 j2 j3
  have HU1 := hid (fun (W : World) (h : Below w1.heap.size w1 W) (q : Addr) (u : Value) (hc : w1.cell? q = some u) => (h.cell (World.block_lt_of_cell? w1 _ hc)).trans hc)
  have KS := hid (fun (W : World) (h : Below w1.heap.size w1 W) => (⟨h, HU1.out W h _ _ s0, HU1.out W h _ _ s1, HU1.out W h _ _ s2, HU1.out W h _ _ s3, HU1.out W h _ _ p0, HU1.out W h _ _ p1, HU1.out W h _ _ p2, HU1.out W h _ _ p3, HU1.out W h _ _ p4, HU1.out W h _ _ p5⟩ : Below w1.heap.size w1 W ∧ W.cell? ⟨w.heap.size, 0, none⟩ = some (.slice (some ⟨pb, poff, none⟩) pl pcap) ∧ W.cell? ⟨w.heap.size + 1 + 1 + 1, 0, none⟩ = some (.int .i64 fN) ∧ W.cell? ⟨w.heap.size + 1 + 1 + 1, 1, none⟩ = some (.int .i64 sN) ∧
    W.cell? ⟨pb, poff + fN * 5 + 4, none⟩ = some (.slice (some ⟨qb, qoff, none⟩) bl bcap) ∧ W.cell? ⟨qb, qoff + sN * 6, none⟩ = some (.int .i64 oc) ∧ W.cell? ⟨qb, qoff + sN * 6 + 1, none⟩ = some (.int .i64 ol) ∧ W.cell? ⟨qb, qoff + sN * 6 + 2, none⟩ = some (.int .i64 aN) ∧ W.cell? ⟨qb, qoff + sN * 6 + 3, none⟩ = some (.int .i64 ob) ∧ W.cell? ⟨qb, qoff + sN * 6 + 4, none⟩ = some (.int .i64 od) ∧ W.cell? ⟨qb, qoff + sN * 6 + 5, none⟩ = some (.slice oa na ocap)))
  clear s0 s1 s2 s3 p0 p1 p2 p3 p4 p5
  go_region_held (fun W => Below w1.heap.size w1 W ∧ W.cell? ⟨w.heap.size, 0, none⟩ = some (.slice (some ⟨pb, poff, none⟩) pl pcap) ∧ W.cell? ⟨w.heap.size + 1 + 1 + 1, 0, none⟩ = some (.int .i64 fN) ∧ W.cell? ⟨w.heap.size + 1 + 1 + 1, 1, none⟩ = some (.int .i64 sN) ∧
    W.cell? ⟨pb, poff + fN * 5 + 4, none⟩ = some (.slice (some ⟨qb, qoff, none⟩) bl bcap) ∧ W.cell? ⟨qb, qoff + sN * 6, none⟩ = some (.int .i64 oc) ∧ W.cell? ⟨qb, qoff + sN * 6 + 1, none⟩ = some (.int .i64 ol) ∧ W.cell? ⟨qb, qoff + sN * 6 + 2, none⟩ = some (.int .i64 aN) ∧ W.cell? ⟨qb, qoff + sN * 6 + 3, none⟩ = some (.int .i64 ob) ∧ W.cell? ⟨qb, qoff + sN * 6 + 4, none⟩ = some (.int .i64 od) ∧ W.cell? ⟨qb, qoff + sN * 6 + 5, none⟩ = some (.slice oa na ocap))
    ((refine KS.out _ ?_; first | exact (Below.refl _ _).drew | exact (‹Below w1.heap.size w1 _ ∧ _›.1).alloc (‹Below w1.heap.size w1 _ ∧ _›.1).size _ | exact ((Below.refl _ _).alloc (Nat.le_refl _) _).drew | exact ((Below.refl _ _).drew).alloc (Nat.le_refl _) _))
    (fail)
  obtain ⟨w2, hw2⟩ : ∃ w2, w2 = (w1.alloc (Obj.cells #[.int .i64 oc, .int .i64 ol, .int .i64 aN, .int .i64 ob, .int .i64 od, .slice oa na ocap] 183)).drew := ⟨_, rfl⟩
  obtain ⟨ox, hox⟩ : ∃ v, v = w1.heap.size := ⟨_, rfl⟩
  have hs2 : w2.heap.size = w1.heap.size + 1 := by
    rw [hw2]
    show (w1.alloc _).heap.size = _
    simp
  have hb12 : Below w1.heap.size w1 w2 := by rw [hw2]; exact ((Below.refl _ _).alloc (Nat.le_refl _) _).drew
  have i4 : w2.heap[ox]? = some (.cells #[.int .i64 oc, .int .i64 ol, .int .i64 aN, .int .i64 ob, .int .i64 od, .slice oa na ocap] 183 (0, 0)) := by rw [hw2, hox]; exact alloc_drew_new _ _ _
  have hs1 := HS1.out
  have i0 := (hb12.block w.heap.size (by omega)).trans HJ0.out
  have i1 := (hb12.block (w.heap.size + 1) (by omega)).trans HJ1.out
  have i2 := (hb12.block (w.heap.size + 1 + 1) (by omega)).trans HJ2.out
  have i3 := (hb12.block (w.heap.size + 1 + 1 + 1) (by omega)).trans HJ3.out
  have hbw2 := hbw1.trans (hb12.mono hbw1.size)
  have hxc2 : w2.cell? ⟨xb, xoff + aN, none⟩ = some (.int .i64 va) := HU1.out w2 hb12 _ _ hxc1
  have hsz2 : w2.heap.size = w.heap.size + 5 := by omega
  have hox4 : ox = w.heap.size + 4 := by omega
  have t2 : w2.cell? ⟨w.heap.size + 1 + 1 + 1, 2, none⟩ = some (.slice (some ⟨xb, xoff, none⟩) nl lcap) := by simp [World.cell?, i3]
  have t1 : w2.cell? ⟨w.heap.size + 1 + 1 + 1, 1, none⟩ = some (.int .i64 sN) := by simp [World.cell?, i3]
  have t3 : w2.cell? ⟨ox, 2, none⟩ = some (.int .i64 aN) := by simp [World.cell?, i4]
  have t4 : w2.cell? ⟨ox, 0, none⟩ = some (.int .i64 oc) := by simp [World.cell?, i4]
  rw [← hw2, ← hox]
  have HI0 := hid i0
  have HI1 := hid i1
  have HI2 := hid i2
  have HI3 := hid i3
  have HI4 := hid i4
  have HX4 := hid hox4
  have HZ2 := hid hsz2
  clear hw2 hox hs2 hb12 hs1 HS1 HJ0 HJ1 HJ2 HJ3 KS HU1 hxc1 i0 i1 i2 i3 i4 hbw1 hb1 hox4 hsz2 HBS
  have haL' : (aN : Int) < (nl : Int) := by omega
  have t5 : w2.cell? ⟨w.heap.size, 0, none⟩ = some (.slice (some ⟨pb, poff, none⟩) pl pcap) := by simp [World.cell?, HI0.out]
  have t6 : w2.cell? ⟨w.heap.size + 1, 0, none⟩ = some (.int .i64 0) := by simp [World.cell?, HI1.out]
  have t7 : w2.cell? ⟨w.heap.size + 1, 1, none⟩ = some (.int .i64 0) := by simp [World.cell?, HI1.out]
  have t8 : w2.cell? ⟨w.heap.size + 1, 2, none⟩ = some (.slice (some ⟨b, off, none⟩) (m + 1) scap) := by simp [World.cell?, HI1.out]
  have t9 : w2.cell? ⟨w.heap.size + 1 + 1 + 1, 0, none⟩ = some (.int .i64 fN) := by simp [World.cell?, HI3.out]
  have v1 : w2.cell? ⟨ox, 1, none⟩ = some (.int .i64 ol) := by simp [World.cell?, HI4.out]
  have v3 : w2.cell? ⟨ox, 3, none⟩ = some (.int .i64 ob) := by simp [World.cell?, HI4.out]
  have v4 : w2.cell? ⟨ox, 4, none⟩ = some (.int .i64 od) := by simp [World.cell?, HI4.out]
  have v5 : w2.cell? ⟨ox, 5, none⟩ = some (.slice oa na ocap) := by simp [World.cell?, HI4.out]
  have HBX : Hid (∀ w3, Below w2.heap.size w2 w3 → w3.heap[w.heap.size + 1 + 1]? = some (.cells #[.int .i64 0, .int .i64 0, .slice none 0 0] 95 (0, 0))) := fun w3 h3 => (h3.block (w.heap.size + 1 + 1) (by have := HZ2.out; omega)).trans HI2.out
  by_cases h5 : oc = 5
  · have hsd : sd = if ini.length + 1 = 20 then ⟨3, 0, ini ++ [x]⟩ else ⟨0, 0, ini ++ [x] ++ [calleeD p x o]⟩ := by rw [HST.out, if_pos (by rw [← HOC.out]; exact h5)]
    have hcall := HOK.out.call (by rw [← HOC.out]; exact h5)
    have hfb := HG.out.fns _ _ (fnAt_some ⟨hcall.1, hcall.2.1⟩)
    have hfb1 := hfb.locals
    have hfb2 := hfb.params
    have hxl := HXW.out.locals
    have hl2 : (ini ++ [x]).length = m + 1 := by rw [HM.out]; simp
    have hen := entered_any (Old U w) (some ⟨pb, poff, none⟩) pcap p (some ⟨b, off, none⟩) scap ⟨0, 0, ini ++ [x]⟩ x (some ⟨xb, xoff, none⟩) lcap o oa ocap o.b.toNat (fnAt p o.b) (fnAt p o.b).locals.toNat w2
      (HWP.out.below hbw2) (by show RdL _ _ _ _ (ini ++ [x]).length _ (ini ++ [x]); rw [hl2]; exact HHS.out.below hbw2 (fun _ _ h => h.below hbw2)) (by show InU _ _ (ini ++ [x]).length; rw [hl2]; exact hsU) (HRX.out.below hbw2 (Nat.le_refl _)) (HRO.out.below hbw2 (Nat.le_refl _))
      (by show (ini ++ [x]).length ≤ 20; omega) (by omega) (fnAt_some ⟨hcall.1, hcall.2.1⟩) (by omega) (by omega) (by have := hcall.2.2.1; omega) (by rw [← HNL.out]; exact hl8) (fun k hk => by have := hcall.2.2.2 k hk; omega)
    have hsd2 : (if (ini ++ [x]).length = 20 then (⟨3, 0, ini ++ [x]⟩ : StandD) else ⟨0, 0, (ini ++ [x]) ++ [⟨o.b, 0, fillI (o.args.map (locOf x)) (fnAt p o.b).locals.toNat o.args.length⟩]⟩) = sd := by
      rw [hsd, hl2, HM.out]; rfl
    simp only at hen
    rw [hsd2, hl2, ← HPL.out, ← HNL.out, ← HNA.out, ← HOC.out, ← HOL.out, ← HOB.out, ← HOD.out, HFN.out, HSN.out, HAN.out] at hen
    have HEN := hid hen
    clear hen hsd hsd2 hl2 hcall hfb hfb1 hfb2 hxl
    subst h5
    go_wp2_with fail
    refine HEN.out.mono ?_
    rintro e w3 ⟨cs, rfl, hstd, hb3⟩
    have HSD := hid hstd
    obtain ⟨ra, rcap, rfl, -, -⟩ := hstd
    have g2 := HBX.out w3 hb3
    have x0 : w3.cell? ⟨w.heap.size + 1 + 1, 0, none⟩ = some (.int .i64 0) := by simp [World.cell?, g2]
    have x1 : w3.cell? ⟨w.heap.size + 1 + 1, 1, none⟩ = some (.int .i64 0) := by simp [World.cell?, g2]
    have x2 : w3.cell? ⟨w.heap.size + 1 + 1, 2, none⟩ = some (.slice none 0 0) := by simp [World.cell?, g2]
    have f0 : w3.frozen? ⟨w.heap.size + 1 + 1, 0, none⟩ = false := by simp [World.frozen?, g2]
    have f1 : w3.frozen? ⟨w.heap.size + 1 + 1, 1, none⟩ = false := by simp [World.frozen?, g2]
    have f2 : w3.frozen? ⟨w.heap.size + 1 + 1, 2, none⟩ = false := by simp [World.frozen?, g2]
    have HBE := hid (below_boxed (bx := w.heap.size + 1 + 1) (hbw2.trans (hb3.mono hbw2.size)) (by omega) (.int .i64 sd.status) (.int .i64 sd.value) (.slice ra sd.live.length rcap))
    have HSE := hid (stand_boxed (bx := w.heap.size + 1 + 1) HSD.out (by omega) (by have := HZ2.out; omega) (.int .i64 sd.status) (.int .i64 sd.value) (.slice ra sd.live.length rcap))
    clear g2
    go_wp2
    exact bodyPost_ret (v := .agg #[.int .i64 sd.status, .int .i64 sd.value, .slice ra sd.live.length rcap]) (by simp [results, Tryz.results122, go_sem, x0, x1, x2]) rfl ⟨_, rfl, HSE.out, HBE.out⟩
  · have h5' : (oc == 5) = false := by simpa using h5
    have n5 : ¬ o.code = 5 := by rw [← HOC.out]; exact h5
    by_cases h6 : oc = 6
    · have hsd : sd = (match ini.getLast? with | none => ⟨1, locOf x o.a, []⟩ | some c => ⟨0, 0, ini.dropLast ++ [setL c (opOf p c).a (locOf x o.a) (c.next + 1)]⟩) := by rw [HST.out, if_neg n5, if_pos (by rw [← HOC.out]; exact h6)]
      have hl2 : (ini ++ [x]).length = m + 1 := by rw [HM.out]; simp
      have hen := left_any (Old U w) (some ⟨pb, poff, none⟩) pcap p (some ⟨b, off, none⟩) scap ini x va w2 HG.out
        (HWP.out.below hbw2) (by rw [hl2]; exact HHS.out.below hbw2 (fun _ _ h => h.below hbw2)) (by rw [hl2]; exact hsU) (by have := HM.out; omega) HINI.out
      rw [hl2, ← HPL.out] at hen
      rw [← HVV.out] at hsd
      have HEN := hid hen
      have HSDE := hid hsd
      clear hen hsd hl2
      subst h6
      go_wp2_with fail
      refine HEN.out.mono ?_
      rintro e w3 ⟨cs, rfl, hstd0, hb3⟩
      have hstd : RdStandU (OrNew (Old U w) w2.heap.size) w3 cs sd := by
        revert hstd0
        rw [HSDE.out]
        cases ini.getLast? <;> exact fun h => h
      clear hstd0
      have HSD := hid hstd
      obtain ⟨ra, rcap, rfl, -, -⟩ := hstd
      have g2 := HBX.out w3 hb3
      have x0 : w3.cell? ⟨w.heap.size + 1 + 1, 0, none⟩ = some (.int .i64 0) := by simp [World.cell?, g2]
      have x1 : w3.cell? ⟨w.heap.size + 1 + 1, 1, none⟩ = some (.int .i64 0) := by simp [World.cell?, g2]
      have x2 : w3.cell? ⟨w.heap.size + 1 + 1, 2, none⟩ = some (.slice none 0 0) := by simp [World.cell?, g2]
      have f0 : w3.frozen? ⟨w.heap.size + 1 + 1, 0, none⟩ = false := by simp [World.frozen?, g2]
      have f1 : w3.frozen? ⟨w.heap.size + 1 + 1, 1, none⟩ = false := by simp [World.frozen?, g2]
      have f2 : w3.frozen? ⟨w.heap.size + 1 + 1, 2, none⟩ = false := by simp [World.frozen?, g2]
      have HBE := hid (below_boxed (bx := w.heap.size + 1 + 1) (hbw2.trans (hb3.mono hbw2.size)) (by omega) (.int .i64 sd.status) (.int .i64 sd.value) (.slice ra sd.live.length rcap))
      have HSE := hid (stand_boxed (bx := w.heap.size + 1 + 1) HSD.out (by omega) (by have := HZ2.out; omega) (.int .i64 sd.status) (.int .i64 sd.value) (.slice ra sd.live.length rcap))
      clear g2
      go_wp2
      exact bodyPost_ret (v := .agg #[.int .i64 sd.status, .int .i64 sd.value, .slice ra sd.live.length rcap]) (by simp [results, Tryz.results122, go_sem, x0, x1, x2]) rfl ⟨_, rfl, HSE.out, HBE.out⟩
    · have h6' : (oc == 6) = false := by simpa using h6
      have n6 : ¬ o.code = 6 := by rw [← HOC.out]; exact h6
      have hrest : sd = if o.code = 4 then ⟨0, 0, ini ++ [⟨x.fn, if locOf x o.a = 0 then x.next + 1 else o.b, x.locals⟩]⟩
          else if o.code = 0 then ⟨0, 0, ini ++ [setL x o.a o.b (x.next + 1)]⟩
          else if o.code = 3 ∧ locOf x o.c = 0 then ⟨2, 0, ini ++ [x]⟩
          else ⟨0, 0, ini ++ [setL x o.a (cnt o.code (locOf x o.b) (locOf x o.c)) (x.next + 1)]⟩ := by rw [HST.out, if_neg n5, if_neg n6]
      have hlt := HOK.out.last n6
      have hcode := HOK.out.code
      rw [← HOC.out] at hcode
      have hUN := fun (W : World) (hW : Below w.heap.size w W) => under_any (RdLiveU (Old U w)) (some ⟨b, off, none⟩) scap (ini ++ [x]) 1 W RdLiveU.shape (by rw [show (ini ++ [x]).length = m + 1 by rw [HM.out]; simp]; exact HHS.out.below hW (fun _ _ h => h.below hW)) (by simp) (by rw [show (ini ++ [x]).length = m + 1 by rw [HM.out]; simp]; omega)
      rw [show (ini ++ [x]).length = m + 1 by rw [HM.out]; simp] at hUN
      have h1i : (((1 : Nat) : Int)) = 1 := rfl
      rw [h1i] at hUN
      have HUN := hid hUN
      have HREST := hid hrest
      clear hUN hrest h1i HST
      have hBU := fun (W : World) (vv nx : Int) (hW : Below w2.heap.size w2 W) => but_any x (some ⟨xb, xoff, none⟩) lcap aN vv nx W (HRX.out.below (hbw2.trans (hW.mono hbw2.size)) (Nat.le_refl _)) (by rw [← HNL.out]; exact haL) (by rw [← HNL.out]; omega)
      rw [HFN.out, HSN.out, ← HNL.out] at hBU
      have HBU0 := hid hBU
      clear hBU
      by_cases h4 : oc = 4
      · subst h4
        by_cases hv0 : va = 0
        · subst hv0
          obtain ⟨newl, hnewl⟩ : ∃ v, v = x.locals.set aN 0 := ⟨_, rfl⟩
          have HSD0 : Hid ((⟨0, 0, ini ++ [⟨fN, sN + 1, newl⟩]⟩ : StandD) = sd) := by
            show _ = _
            have hself : newl = x.locals := by
              rw [hnewl]
              exact set_self_loc (HVV.out.trans (by unfold locOf; rw [HAN.out, Int.toNat_natCast]))
            rw [HREST.out, if_pos HOC.out.symm, if_pos HVV.out.symm, hself, HFN.out, HSN.out]
          have HBU := hid (fun (W : World) (hW : Below w2.heap.size w2 W) => HBU0.out W 0 (sN + 1) hW)
          rw [← hnewl] at HBU
          clear HBU0 HREST hnewl
          go_wp2_with fail
          refine (HBU.out _ (by first | exact Below.refl _ _ | exact below_drawn (Below.refl _ _) nq)).mono ?_
          rintro e w4 ⟨cs4, rfl, hlive4, hnew4, hb4'⟩
          have hb4 : Below w2.heap.size w2 w4 := by first | exact hb4' | exact (below_drawn (Below.refl _ _) nq).trans hb4'
          have hlv4 : RdLiveU (fun b => w2.heap.size ≤ b) w4 cs4 _ := liveU_new hlive4 hnew4
          clear hb4'
          obtain ⟨la5, lcap5, rfl, -⟩ := hlive4
          simp only at hlv4 ⊢
          have hsz4 := hb4.size
          have hltS : w.heap.size + 1 < w4.heap.size := by have := HZ2.out; omega
          have r8 : w4.cell? ⟨w.heap.size + 1, 2, none⟩ = some (.slice (some ⟨b, off, none⟩) (m + 1) scap) := (hb4.cell (World.block_lt_of_cell? w2 _ t8)).trans t8
          obtain ⟨w5, hw5⟩ : ∃ w5, w5 = w4.alloc (Obj.cells #[.int .i64 fN, .int .i64 (sN + 1), .slice la5 newl.length lcap5] 172) := ⟨_, rfl⟩
          obtain ⟨yb, hyb⟩ : ∃ yb, yb = w4.heap.size := ⟨_, rfl⟩
          have y0 : w5.cell? ⟨yb, 0, none⟩ = some (.int .i64 fN) := by rw [hw5, hyb]; simp
          have y1 : w5.cell? ⟨yb, 1, none⟩ = some (.int .i64 (sN + 1)) := by rw [hw5, hyb]; simp
          have y2 : w5.cell? ⟨yb, 2, none⟩ = some (.slice la5 newl.length lcap5) := by rw [hw5, hyb]; simp
          have hb5 : Below w2.heap.size w2 w5 := by rw [hw5]; exact hb4.alloc hb4.size _
          have hlv5 : RdLiveU (fun b => w2.heap.size ≤ b) w5 [.int .i64 fN, .int .i64 (sN + 1), .slice la5 newl.length lcap5] ⟨fN, (sN + 1), newl⟩ := by rw [hw5]; exact hlv4.below ((Below.refl _ _).alloc (Nat.le_refl _) _)
          have hbw5 := hbw2.trans (hb5.mono hbw2.size)
          have HUW := hid (HUN.out w5 hbw5)
          have HLV5 := hid hlv5
          clear hlv4 hnew4 t1 t2 t3 t4 t5 t6 t7 t8 t9 v1 v3 v4 v5 hlv5
          go_wp2_with fail
          rw [← hw5]
          refine HUW.out.mono ?_
          rintro e w6 ⟨v6, css, rfl, hown6, hcl, hc3, hcR, hb6⟩
          have hlv5 := HLV5.out
          have hsz6 := hb6.size
          have hsz5 := hb5.size
          have yl := World.block_lt_of_cell? w5 _ y0
          have u0 := (hb6.cell (p := ⟨yb, 0, none⟩) yl).trans y0
          have u1 := (hb6.cell (p := ⟨yb, 1, none⟩) yl).trans y1
          have u2 := (hb6.cell (p := ⟨yb, 2, none⟩) yl).trans y2
          have hmm : m + 1 - 1 = m := by omega
          rw [hmm] at hown6 hcl
          have HOW := hid hown6
          have HC3 := hid hc3
          have HCL := hid hcl
          have HCR := hid hcR
          have hlt6 : ∀ k, v6.ownBlock = some k → w5.heap.size ≤ k := fun k hk => (hown6.lt k hk).1
          clear hown6 hc3 hcl hcR y0 y1 y2 r8 HUW
          obtain ⟨i0, hi, hz0, hz1, hz2⟩ := info_parts Tryz.infoLive
          rw [← hyb]
          clear hyb hw5
          generalize hnw : newl.length = ll at *
          go_wp2_with (at_builtin; refine wpList_append_lies _ rfl (.tmp 113) (.tmp 115) 93 rfl w5.heap.size 172 i0 (.agg #[.int .i64 0, .int .i64 0, .slice none 0 0]) 3 40 Tryz.underlying93 hi hz0 hz1 hz2 rfl (by decide) _ _ _ rfl (HOW.out.alloc _) ⟨w6.heap.size, 0, none⟩ 1 1 [.int .i64 fN, .int .i64 (sN + 1), .slice la5 ll lcap5] rfl rfl ?d1 ?d2 (by decide) ?d3 ?d4 ?d5 _ rfl ?_)
          case d1 =>
            intro i u hu
            match i, hu with
            | 0, hu => simp at hu; subst hu; simp [Addr.add]
            | 1, hu => simp at hu; subst hu; simp [Addr.add]
            | 2, hu => simp at hu; subst hu; simp [Addr.add]
          case d2 => intro u hu; simp at hu; rcases hu with rfl | rfl | rfl <;> rfl
          case d3 => unfold maxLen; omega
          case d4 => omega
          case d5 => simp; omega
          intro g cap7 w3 hown7 hgrow7 _ hg7
          have hb67 : Below w5.heap.size w6 w3 := ((Below.refl _ _).alloc (by omega) _).grown hgrow7 (by simp; omega) hlt6
          have hb57 : Below w5.heap.size w5 w3 := hb6.trans hb67
          have hb3 : Below w2.heap.size w2 w3 := hb5.trans (hb57.mono hb5.size)
          have hstd := stand_snoc (V := OrNew (Old U w) w2.heap.size) (ls := ini) (y := ⟨fN, (sN + 1), newl⟩) 0 0 hown7 HC3.out HCL.out HM.out.symm
            (fun i z cs h1 h2 => ((HCR.out i z cs (by rw [List.getElem?_append_left (List.getElem?_eq_some_iff.1 h1).1]; exact h1) h2).below hb57).keeps (Keeps.below (Below.refl _ _)) (fun _ h => .inl h))
            ((hlv5.below hb57).keeps (Keeps.below (Below.refl _ _)) (fun b hb => .inr hb)) (fun b hb => .inr (by omega))
          rw [HSD0.out] at hstd
          clear hown7 hgrow7 u0 u1 u2 hlv5
          have HSD := hid hstd
          have g2 := HBX.out w3 hb3
          have x0 : w3.cell? ⟨w.heap.size + 1 + 1, 0, none⟩ = some (.int .i64 0) := by simp [World.cell?, g2]
          have x1 : w3.cell? ⟨w.heap.size + 1 + 1, 1, none⟩ = some (.int .i64 0) := by simp [World.cell?, g2]
          have x2 : w3.cell? ⟨w.heap.size + 1 + 1, 2, none⟩ = some (.slice none 0 0) := by simp [World.cell?, g2]
          have f0 : w3.frozen? ⟨w.heap.size + 1 + 1, 0, none⟩ = false := by simp [World.frozen?, g2]
          have f1 : w3.frozen? ⟨w.heap.size + 1 + 1, 1, none⟩ = false := by simp [World.frozen?, g2]
          have f2 : w3.frozen? ⟨w.heap.size + 1 + 1, 2, none⟩ = false := by simp [World.frozen?, g2]
          have HBE := hid (below_boxed (bx := w.heap.size + 1 + 1) (hbw2.trans (hb3.mono hbw2.size)) (by omega) (.int .i64 0) (.int .i64 0) (.slice (some ⟨g, 0, none⟩) (m + 1) cap7))
          have HSE := hid (stand_boxed (bx := w.heap.size + 1 + 1) HSD.out (by omega) (by have := HZ2.out; omega) (.int .i64 0) (.int .i64 0) (.slice (some ⟨g, 0, none⟩) (m + 1) cap7))
          clear g2 hstd
          go_wp2
          exact bodyPost_ret (v := .agg #[.int .i64 0, .int .i64 0, .slice (some ⟨g, 0, none⟩) (m + 1) cap7]) (by simp [results, Tryz.results122, go_sem, x0, x1, x2]) rfl ⟨_, rfl, HSE.out, HBE.out⟩
        · have hv0' : (va != 0) = true := by simpa using hv0
          obtain ⟨newl, hnewl⟩ : ∃ v, v = x.locals.set aN va := ⟨_, rfl⟩
          have HSD0 : Hid ((⟨0, 0, ini ++ [⟨fN, ob, newl⟩]⟩ : StandD) = sd) := by
            show _ = _
            have hself : newl = x.locals := by
              rw [hnewl]
              exact set_self_loc (HVV.out.trans (by unfold locOf; rw [HAN.out, Int.toNat_natCast]))
            rw [HREST.out, if_pos HOC.out.symm, if_neg (by rw [← HVV.out]; exact hv0), hself, HFN.out, ← HOB.out]
          have HBU := hid (fun (W : World) (hW : Below w2.heap.size w2 W) => HBU0.out W va ob hW)
          rw [← hnewl] at HBU
          clear HBU0 HREST hnewl
          go_wp2_with fail
          refine (HBU.out _ (by first | exact Below.refl _ _ | exact below_drawn (Below.refl _ _) nq)).mono ?_
          rintro e w4 ⟨cs4, rfl, hlive4, hnew4, hb4'⟩
          have hb4 : Below w2.heap.size w2 w4 := by first | exact hb4' | exact (below_drawn (Below.refl _ _) nq).trans hb4'
          have hlv4 : RdLiveU (fun b => w2.heap.size ≤ b) w4 cs4 _ := liveU_new hlive4 hnew4
          clear hb4'
          obtain ⟨la5, lcap5, rfl, -⟩ := hlive4
          simp only at hlv4 ⊢
          have hsz4 := hb4.size
          have hltS : w.heap.size + 1 < w4.heap.size := by have := HZ2.out; omega
          have r8 : w4.cell? ⟨w.heap.size + 1, 2, none⟩ = some (.slice (some ⟨b, off, none⟩) (m + 1) scap) := (hb4.cell (World.block_lt_of_cell? w2 _ t8)).trans t8
          obtain ⟨w5, hw5⟩ : ∃ w5, w5 = w4.alloc (Obj.cells #[.int .i64 fN, .int .i64 ob, .slice la5 newl.length lcap5] 172) := ⟨_, rfl⟩
          obtain ⟨yb, hyb⟩ : ∃ yb, yb = w4.heap.size := ⟨_, rfl⟩
          have y0 : w5.cell? ⟨yb, 0, none⟩ = some (.int .i64 fN) := by rw [hw5, hyb]; simp
          have y1 : w5.cell? ⟨yb, 1, none⟩ = some (.int .i64 ob) := by rw [hw5, hyb]; simp
          have y2 : w5.cell? ⟨yb, 2, none⟩ = some (.slice la5 newl.length lcap5) := by rw [hw5, hyb]; simp
          have hb5 : Below w2.heap.size w2 w5 := by rw [hw5]; exact hb4.alloc hb4.size _
          have hlv5 : RdLiveU (fun b => w2.heap.size ≤ b) w5 [.int .i64 fN, .int .i64 ob, .slice la5 newl.length lcap5] ⟨fN, ob, newl⟩ := by rw [hw5]; exact hlv4.below ((Below.refl _ _).alloc (Nat.le_refl _) _)
          have hbw5 := hbw2.trans (hb5.mono hbw2.size)
          have HUW := hid (HUN.out w5 hbw5)
          have HLV5 := hid hlv5
          clear hlv4 hnew4 t1 t2 t3 t4 t5 t6 t7 t8 t9 v1 v3 v4 v5 hlv5
          go_wp2_with fail
          rw [← hw5]
          refine HUW.out.mono ?_
          rintro e w6 ⟨v6, css, rfl, hown6, hcl, hc3, hcR, hb6⟩
          have hlv5 := HLV5.out
          have hsz6 := hb6.size
          have hsz5 := hb5.size
          have yl := World.block_lt_of_cell? w5 _ y0
          have u0 := (hb6.cell (p := ⟨yb, 0, none⟩) yl).trans y0
          have u1 := (hb6.cell (p := ⟨yb, 1, none⟩) yl).trans y1
          have u2 := (hb6.cell (p := ⟨yb, 2, none⟩) yl).trans y2
          have hmm : m + 1 - 1 = m := by omega
          rw [hmm] at hown6 hcl
          have HOW := hid hown6
          have HC3 := hid hc3
          have HCL := hid hcl
          have HCR := hid hcR
          have hlt6 : ∀ k, v6.ownBlock = some k → w5.heap.size ≤ k := fun k hk => (hown6.lt k hk).1
          clear hown6 hc3 hcl hcR y0 y1 y2 r8 HUW
          obtain ⟨i0, hi, hz0, hz1, hz2⟩ := info_parts Tryz.infoLive
          rw [← hyb]
          clear hyb hw5
          generalize hnw : newl.length = ll at *
          go_wp2_with (at_builtin; refine wpList_append_lies _ rfl (.tmp 113) (.tmp 115) 93 rfl w5.heap.size 172 i0 (.agg #[.int .i64 0, .int .i64 0, .slice none 0 0]) 3 40 Tryz.underlying93 hi hz0 hz1 hz2 rfl (by decide) _ _ _ rfl (HOW.out.alloc _) ⟨w6.heap.size, 0, none⟩ 1 1 [.int .i64 fN, .int .i64 ob, .slice la5 ll lcap5] rfl rfl ?d1 ?d2 (by decide) ?d3 ?d4 ?d5 _ rfl ?_)
          case d1 =>
            intro i u hu
            match i, hu with
            | 0, hu => simp at hu; subst hu; simp [Addr.add]
            | 1, hu => simp at hu; subst hu; simp [Addr.add]
            | 2, hu => simp at hu; subst hu; simp [Addr.add]
          case d2 => intro u hu; simp at hu; rcases hu with rfl | rfl | rfl <;> rfl
          case d3 => unfold maxLen; omega
          case d4 => omega
          case d5 => simp; omega
          intro g cap7 w3 hown7 hgrow7 _ hg7
          have hb67 : Below w5.heap.size w6 w3 := ((Below.refl _ _).alloc (by omega) _).grown hgrow7 (by simp; omega) hlt6
          have hb57 : Below w5.heap.size w5 w3 := hb6.trans hb67
          have hb3 : Below w2.heap.size w2 w3 := hb5.trans (hb57.mono hb5.size)
          have hstd := stand_snoc (V := OrNew (Old U w) w2.heap.size) (ls := ini) (y := ⟨fN, ob, newl⟩) 0 0 hown7 HC3.out HCL.out HM.out.symm
            (fun i z cs h1 h2 => ((HCR.out i z cs (by rw [List.getElem?_append_left (List.getElem?_eq_some_iff.1 h1).1]; exact h1) h2).below hb57).keeps (Keeps.below (Below.refl _ _)) (fun _ h => .inl h))
            ((hlv5.below hb57).keeps (Keeps.below (Below.refl _ _)) (fun b hb => .inr hb)) (fun b hb => .inr (by omega))
          rw [HSD0.out] at hstd
          clear hown7 hgrow7 u0 u1 u2 hlv5
          have HSD := hid hstd
          have g2 := HBX.out w3 hb3
          have x0 : w3.cell? ⟨w.heap.size + 1 + 1, 0, none⟩ = some (.int .i64 0) := by simp [World.cell?, g2]
          have x1 : w3.cell? ⟨w.heap.size + 1 + 1, 1, none⟩ = some (.int .i64 0) := by simp [World.cell?, g2]
          have x2 : w3.cell? ⟨w.heap.size + 1 + 1, 2, none⟩ = some (.slice none 0 0) := by simp [World.cell?, g2]
          have f0 : w3.frozen? ⟨w.heap.size + 1 + 1, 0, none⟩ = false := by simp [World.frozen?, g2]
          have f1 : w3.frozen? ⟨w.heap.size + 1 + 1, 1, none⟩ = false := by simp [World.frozen?, g2]
          have f2 : w3.frozen? ⟨w.heap.size + 1 + 1, 2, none⟩ = false := by simp [World.frozen?, g2]
          have HBE := hid (below_boxed (bx := w.heap.size + 1 + 1) (hbw2.trans (hb3.mono hbw2.size)) (by omega) (.int .i64 0) (.int .i64 0) (.slice (some ⟨g, 0, none⟩) (m + 1) cap7))
          have HSE := hid (stand_boxed (bx := w.heap.size + 1 + 1) HSD.out (by omega) (by have := HZ2.out; omega) (.int .i64 0) (.int .i64 0) (.slice (some ⟨g, 0, none⟩) (m + 1) cap7))
          clear g2 hstd
          go_wp2
          exact bodyPost_ret (v := .agg #[.int .i64 0, .int .i64 0, .slice (some ⟨g, 0, none⟩) (m + 1) cap7]) (by simp [results, Tryz.results122, go_sem, x0, x1, x2]) rfl ⟨_, rfl, HSE.out, HBE.out⟩
      · have h4' : (oc == 4) = false := by simpa using h4
        have n4 : ¬ o.code = 4 := by rw [← HOC.out]; exact h4
        by_cases h0 : oc = 0
        · subst h0
          obtain ⟨newl, hnewl⟩ : ∃ v, v = x.locals.set aN ob := ⟨_, rfl⟩
          have HSD0 : Hid ((⟨0, 0, ini ++ [⟨fN, sN + 1, newl⟩]⟩ : StandD) = sd) := by
            show _ = _
            rw [HREST.out, if_neg n4, if_pos HOC.out.symm, hnewl]
            show _ = (⟨0, 0, ini ++ [⟨x.fn, x.next + 1, x.locals.set o.a.toNat o.b⟩]⟩ : StandD)
            rw [HFN.out, HSN.out, HAN.out, ← HOB.out]; simp
          have HBU := hid (fun (W : World) (hW : Below w2.heap.size w2 W) => HBU0.out W ob (sN + 1) hW)
          rw [← hnewl] at HBU
          clear HBU0 HREST hnewl
          go_wp2_with fail
          refine (HBU.out _ (by first | exact Below.refl _ _ | exact below_drawn (Below.refl _ _) nq)).mono ?_
          rintro e w4 ⟨cs4, rfl, hlive4, hnew4, hb4'⟩
          have hb4 : Below w2.heap.size w2 w4 := by first | exact hb4' | exact (below_drawn (Below.refl _ _) nq).trans hb4'
          have hlv4 : RdLiveU (fun b => w2.heap.size ≤ b) w4 cs4 _ := liveU_new hlive4 hnew4
          clear hb4'
          obtain ⟨la5, lcap5, rfl, -⟩ := hlive4
          simp only at hlv4 ⊢
          have hsz4 := hb4.size
          have hltS : w.heap.size + 1 < w4.heap.size := by have := HZ2.out; omega
          have r8 : w4.cell? ⟨w.heap.size + 1, 2, none⟩ = some (.slice (some ⟨b, off, none⟩) (m + 1) scap) := (hb4.cell (World.block_lt_of_cell? w2 _ t8)).trans t8
          obtain ⟨w5, hw5⟩ : ∃ w5, w5 = w4.alloc (Obj.cells #[.int .i64 fN, .int .i64 (sN + 1), .slice la5 newl.length lcap5] 172) := ⟨_, rfl⟩
          obtain ⟨yb, hyb⟩ : ∃ yb, yb = w4.heap.size := ⟨_, rfl⟩
          have y0 : w5.cell? ⟨yb, 0, none⟩ = some (.int .i64 fN) := by rw [hw5, hyb]; simp
          have y1 : w5.cell? ⟨yb, 1, none⟩ = some (.int .i64 (sN + 1)) := by rw [hw5, hyb]; simp
          have y2 : w5.cell? ⟨yb, 2, none⟩ = some (.slice la5 newl.length lcap5) := by rw [hw5, hyb]; simp
          have hb5 : Below w2.heap.size w2 w5 := by rw [hw5]; exact hb4.alloc hb4.size _
          have hlv5 : RdLiveU (fun b => w2.heap.size ≤ b) w5 [.int .i64 fN, .int .i64 (sN + 1), .slice la5 newl.length lcap5] ⟨fN, (sN + 1), newl⟩ := by rw [hw5]; exact hlv4.below ((Below.refl _ _).alloc (Nat.le_refl _) _)
          have hbw5 := hbw2.trans (hb5.mono hbw2.size)
          have HUW := hid (HUN.out w5 hbw5)
          have HLV5 := hid hlv5
          clear hlv4 hnew4 t1 t2 t3 t4 t5 t6 t7 t8 t9 v1 v3 v4 v5 hlv5
          go_wp2_with fail
          rw [← hw5]
          refine HUW.out.mono ?_
          rintro e w6 ⟨v6, css, rfl, hown6, hcl, hc3, hcR, hb6⟩
          have hlv5 := HLV5.out
          have hsz6 := hb6.size
          have hsz5 := hb5.size
          have yl := World.block_lt_of_cell? w5 _ y0
          have u0 := (hb6.cell (p := ⟨yb, 0, none⟩) yl).trans y0
          have u1 := (hb6.cell (p := ⟨yb, 1, none⟩) yl).trans y1
          have u2 := (hb6.cell (p := ⟨yb, 2, none⟩) yl).trans y2
          have hmm : m + 1 - 1 = m := by omega
          rw [hmm] at hown6 hcl
          have HOW := hid hown6
          have HC3 := hid hc3
          have HCL := hid hcl
          have HCR := hid hcR
          have hlt6 : ∀ k, v6.ownBlock = some k → w5.heap.size ≤ k := fun k hk => (hown6.lt k hk).1
          clear hown6 hc3 hcl hcR y0 y1 y2 r8 HUW
          obtain ⟨i0, hi, hz0, hz1, hz2⟩ := info_parts Tryz.infoLive
          rw [← hyb]
          clear hyb hw5
          generalize hnw : newl.length = ll at *
          go_wp2_with (at_builtin; refine wpList_append_lies _ rfl (.tmp 113) (.tmp 115) 93 rfl w5.heap.size 172 i0 (.agg #[.int .i64 0, .int .i64 0, .slice none 0 0]) 3 40 Tryz.underlying93 hi hz0 hz1 hz2 rfl (by decide) _ _ _ rfl (HOW.out.alloc _) ⟨w6.heap.size, 0, none⟩ 1 1 [.int .i64 fN, .int .i64 (sN + 1), .slice la5 ll lcap5] rfl rfl ?d1 ?d2 (by decide) ?d3 ?d4 ?d5 _ rfl ?_)
          case d1 =>
            intro i u hu
            match i, hu with
            | 0, hu => simp at hu; subst hu; simp [Addr.add]
            | 1, hu => simp at hu; subst hu; simp [Addr.add]
            | 2, hu => simp at hu; subst hu; simp [Addr.add]
          case d2 => intro u hu; simp at hu; rcases hu with rfl | rfl | rfl <;> rfl
          case d3 => unfold maxLen; omega
          case d4 => omega
          case d5 => simp; omega
          intro g cap7 w3 hown7 hgrow7 _ hg7
          have hb67 : Below w5.heap.size w6 w3 := ((Below.refl _ _).alloc (by omega) _).grown hgrow7 (by simp; omega) hlt6
          have hb57 : Below w5.heap.size w5 w3 := hb6.trans hb67
          have hb3 : Below w2.heap.size w2 w3 := hb5.trans (hb57.mono hb5.size)
          have hstd := stand_snoc (V := OrNew (Old U w) w2.heap.size) (ls := ini) (y := ⟨fN, (sN + 1), newl⟩) 0 0 hown7 HC3.out HCL.out HM.out.symm
            (fun i z cs h1 h2 => ((HCR.out i z cs (by rw [List.getElem?_append_left (List.getElem?_eq_some_iff.1 h1).1]; exact h1) h2).below hb57).keeps (Keeps.below (Below.refl _ _)) (fun _ h => .inl h))
            ((hlv5.below hb57).keeps (Keeps.below (Below.refl _ _)) (fun b hb => .inr hb)) (fun b hb => .inr (by omega))
          rw [HSD0.out] at hstd
          clear hown7 hgrow7 u0 u1 u2 hlv5
          have HSD := hid hstd
          have g2 := HBX.out w3 hb3
          have x0 : w3.cell? ⟨w.heap.size + 1 + 1, 0, none⟩ = some (.int .i64 0) := by simp [World.cell?, g2]
          have x1 : w3.cell? ⟨w.heap.size + 1 + 1, 1, none⟩ = some (.int .i64 0) := by simp [World.cell?, g2]
          have x2 : w3.cell? ⟨w.heap.size + 1 + 1, 2, none⟩ = some (.slice none 0 0) := by simp [World.cell?, g2]
          have f0 : w3.frozen? ⟨w.heap.size + 1 + 1, 0, none⟩ = false := by simp [World.frozen?, g2]
          have f1 : w3.frozen? ⟨w.heap.size + 1 + 1, 1, none⟩ = false := by simp [World.frozen?, g2]
          have f2 : w3.frozen? ⟨w.heap.size + 1 + 1, 2, none⟩ = false := by simp [World.frozen?, g2]
          have HBE := hid (below_boxed (bx := w.heap.size + 1 + 1) (hbw2.trans (hb3.mono hbw2.size)) (by omega) (.int .i64 0) (.int .i64 0) (.slice (some ⟨g, 0, none⟩) (m + 1) cap7))
          have HSE := hid (stand_boxed (bx := w.heap.size + 1 + 1) HSD.out (by omega) (by have := HZ2.out; omega) (.int .i64 0) (.int .i64 0) (.slice (some ⟨g, 0, none⟩) (m + 1) cap7))
          clear g2 hstd
          go_wp2
          exact bodyPost_ret (v := .agg #[.int .i64 0, .int .i64 0, .slice (some ⟨g, 0, none⟩) (m + 1) cap7]) (by simp [results, Tryz.results122, go_sem, x0, x1, x2]) rfl ⟨_, rfl, HSE.out, HBE.out⟩
        · have h0' : (oc == 0) = false := by simpa using h0
          have n0 : ¬ o.code = 0 := by rw [← HOC.out]; exact h0
          have hth := HOK.out.three (by rw [← HOC.out]; omega)
          obtain ⟨bN, hbN⟩ : ∃ n : Nat, o.b = n := ⟨o.b.toNat, by omega⟩
          obtain ⟨dN, hdN⟩ : ∃ n : Nat, o.c = n := ⟨o.c.toNat, by omega⟩
          have hxl := HXW.out.locals
          have hbL : bN < nl := by have := HNL.out; omega
          have hdL : dN < nl := by have := HNL.out; omega
          have hrx2 := HRX.out.below hbw2 (Nat.le_refl _)
          obtain ⟨_, _, e1, cb⟩ := hrx2.cell bN (by rw [← HNL.out]; exact hbL)
          cases e1
          obtain ⟨_, _, e1, cd⟩ := hrx2.cell dN (by rw [← HNL.out]; exact hdL)
          cases e1
          have hvb : x.locals.getD bN 0 = locOf x o.b := by rw [hbN]; simp [locOf, List.getD_eq_getElem?_getD]
          have hvd : x.locals.getD dN 0 = locOf x o.c := by rw [hdN]; simp [locOf, List.getD_eq_getElem?_getD]
          have hrb := HXW.out.val hth.1
          have hrd := HXW.out.val hth.2
          rw [hvb] at cb
          rw [hvd] at cd
          obtain ⟨vb, hvb2⟩ : ∃ v, v = locOf x o.b := ⟨_, rfl⟩
          obtain ⟨vd, hvd2⟩ : ∃ v, v = locOf x o.c := ⟨_, rfl⟩
          rw [← hvb2] at cb hrb
          rw [← hvd2] at cd hrd
          have HVB := hid hvb2
          have HVD := hid hvd2
          have eb : ob = (bN : Int) := HOB.out.trans hbN
          have ed : od = (dN : Int) := HOD.out.trans hdN
          have hbL' : (bN : Int) < (nl : Int) := by omega
          have hdL' : (dN : Int) < (nl : Int) := by omega
          clear hvb hvd hvb2 hvd2 hrx2 hth hxl hbN hdN
          subst eb
          subst ed
          obtain ⟨newl, hnewl⟩ : ∃ v, v = x.locals.set aN (cnt oc vb vd) := ⟨_, rfl⟩
          have hsdz : ¬ (oc = 3 ∧ vd = 0) → (⟨0, 0, ini ++ [⟨fN, sN + 1, newl⟩]⟩ : StandD) = sd := fun hz => by
            rw [HREST.out, if_neg n4, if_neg n0, if_neg (by rw [← HOC.out, ← HVD.out]; exact hz), hnewl]
            show _ = (⟨0, 0, ini ++ [⟨x.fn, x.next + 1, x.locals.set o.a.toNat (cnt o.code (locOf x o.b) (locOf x o.c))⟩]⟩ : StandD)
            rw [HFN.out, HSN.out, HAN.out, ← HVB.out, ← HVD.out, ← HOC.out]; simp
          by_cases h3 : oc = 3
          · subst h3
            by_cases hd0 : vd = 0
            · subst hd0
              have hsd : sd = ⟨2, 0, ini ++ [x]⟩ := by rw [HREST.out, if_neg n4, if_neg n0, if_pos ⟨HOC.out.symm, HVD.out.symm⟩]
              have hl2 : (ini ++ [x]).length = m + 1 := by rw [HM.out]; simp
              have hstd : RdStandU (OrNew (Old U w) w2.heap.size) w2 [.int .i64 2, .int .i64 0, .slice (some ⟨b, off, none⟩) (m + 1) scap] sd := by
                rw [hsd]
                refine ⟨some ⟨b, off, none⟩, scap, by rw [hl2], ?_, ?_⟩
                · show RdL _ _ _ _ (ini ++ [x]).length _ (ini ++ [x])
                  rw [hl2]
                  exact (HHS.out.below hbw2 (fun _ _ h => h.below hbw2)).keeps hsU (Keeps.below (Below.refl _ _)) (fun _ _ h => h.keeps (Keeps.below (Below.refl _ _)) (fun _ h => .inl h))
                · show InU _ _ (ini ++ [x]).length
                  rw [hl2]
                  exact fun h0 q hq => .inl (hsU h0 q hq)
              have g2 := HBX.out w2 (Below.refl _ _)
              have x0 : w2.cell? ⟨w.heap.size + 1 + 1, 0, none⟩ = some (.int .i64 0) := by simp [World.cell?, g2]
              have x1 : w2.cell? ⟨w.heap.size + 1 + 1, 1, none⟩ = some (.int .i64 0) := by simp [World.cell?, g2]
              have x2 : w2.cell? ⟨w.heap.size + 1 + 1, 2, none⟩ = some (.slice none 0 0) := by simp [World.cell?, g2]
              have f0 : w2.frozen? ⟨w.heap.size + 1 + 1, 0, none⟩ = false := by simp [World.frozen?, g2]
              have f1 : w2.frozen? ⟨w.heap.size + 1 + 1, 1, none⟩ = false := by simp [World.frozen?, g2]
              have f2 : w2.frozen? ⟨w.heap.size + 1 + 1, 2, none⟩ = false := by simp [World.frozen?, g2]
              have HBE := hid (below_boxed (bx := w.heap.size + 1 + 1) hbw2 (by omega) (.int .i64 2) (.int .i64 0) (.slice (some ⟨b, off, none⟩) (m + 1) scap))
              have HSE := hid (stand_boxed (bx := w.heap.size + 1 + 1) hstd (by omega) (by have := HZ2.out; omega) (.int .i64 2) (.int .i64 0) (.slice (some ⟨b, off, none⟩) (m + 1) scap))
              clear g2 hstd hsd hl2 hsdz
              go_wp2
              exact bodyPost_ret (v := .agg #[.int .i64 2, .int .i64 0, .slice (some ⟨b, off, none⟩) (m + 1) scap]) (by simp [results, Tryz.results122, go_sem, x0, x1, x2]) rfl ⟨_, rfl, HSE.out, HBE.out⟩
            · have hd0' : (vd == 0) = false := by simpa using hd0
              have HSD0 := hid (hsdz (fun h => hd0 h.2))
              have HCN := hid (fun W => counted_any 3 vb vd W hrb.1 hrb.2 hrd.1 hrd.2 (fun _ => hd0))
              obtain ⟨vc, hvc⟩ : ∃ v, v = cnt 3 vb vd := ⟨_, rfl⟩
              rw [← hvc] at HCN hnewl
              have HBU := hid (fun (W : World) (hW : Below w2.heap.size w2 W) => HBU0.out W vc (sN + 1) hW)
              rw [← hnewl] at HBU
              clear HBU0 HREST hnewl hsdz hvc
              go_wp2
              go_quiet (exact Calls.quiet_of_same (HCN.out _))
              go_wp2_with fail
              refine (HBU.out _ (by first | exact Below.refl _ _ | exact below_drawn (Below.refl _ _) nq)).mono ?_
              rintro e w4 ⟨cs4, rfl, hlive4, hnew4, hb4'⟩
              have hb4 : Below w2.heap.size w2 w4 := by first | exact hb4' | exact (below_drawn (Below.refl _ _) nq).trans hb4'
              have hlv4 : RdLiveU (fun b => w2.heap.size ≤ b) w4 cs4 _ := liveU_new hlive4 hnew4
              clear hb4'
              obtain ⟨la5, lcap5, rfl, -⟩ := hlive4
              simp only at hlv4 ⊢
              have hsz4 := hb4.size
              have hltS : w.heap.size + 1 < w4.heap.size := by have := HZ2.out; omega
              have r8 : w4.cell? ⟨w.heap.size + 1, 2, none⟩ = some (.slice (some ⟨b, off, none⟩) (m + 1) scap) := (hb4.cell (World.block_lt_of_cell? w2 _ t8)).trans t8
              obtain ⟨w5, hw5⟩ : ∃ w5, w5 = w4.alloc (Obj.cells #[.int .i64 fN, .int .i64 (sN + 1), .slice la5 newl.length lcap5] 172) := ⟨_, rfl⟩
              obtain ⟨yb, hyb⟩ : ∃ yb, yb = w4.heap.size := ⟨_, rfl⟩
              have y0 : w5.cell? ⟨yb, 0, none⟩ = some (.int .i64 fN) := by rw [hw5, hyb]; simp
              have y1 : w5.cell? ⟨yb, 1, none⟩ = some (.int .i64 (sN + 1)) := by rw [hw5, hyb]; simp
              have y2 : w5.cell? ⟨yb, 2, none⟩ = some (.slice la5 newl.length lcap5) := by rw [hw5, hyb]; simp
              have hb5 : Below w2.heap.size w2 w5 := by rw [hw5]; exact hb4.alloc hb4.size _
              have hlv5 : RdLiveU (fun b => w2.heap.size ≤ b) w5 [.int .i64 fN, .int .i64 (sN + 1), .slice la5 newl.length lcap5] ⟨fN, (sN + 1), newl⟩ := by rw [hw5]; exact hlv4.below ((Below.refl _ _).alloc (Nat.le_refl _) _)
              have hbw5 := hbw2.trans (hb5.mono hbw2.size)
              have HUW := hid (HUN.out w5 hbw5)
              have HLV5 := hid hlv5
              clear hlv4 hnew4 t1 t2 t3 t4 t5 t6 t7 t8 t9 v1 v3 v4 v5 hlv5
              go_wp2_with fail
              rw [← hw5]
              refine HUW.out.mono ?_
              rintro e w6 ⟨v6, css, rfl, hown6, hcl, hc3, hcR, hb6⟩
              have hlv5 := HLV5.out
              have hsz6 := hb6.size
              have hsz5 := hb5.size
              have yl := World.block_lt_of_cell? w5 _ y0
              have u0 := (hb6.cell (p := ⟨yb, 0, none⟩) yl).trans y0
              have u1 := (hb6.cell (p := ⟨yb, 1, none⟩) yl).trans y1
              have u2 := (hb6.cell (p := ⟨yb, 2, none⟩) yl).trans y2
              have hmm : m + 1 - 1 = m := by omega
              rw [hmm] at hown6 hcl
              have HOW := hid hown6
              have HC3 := hid hc3
              have HCL := hid hcl
              have HCR := hid hcR
              have hlt6 : ∀ k, v6.ownBlock = some k → w5.heap.size ≤ k := fun k hk => (hown6.lt k hk).1
              clear hown6 hc3 hcl hcR y0 y1 y2 r8 HUW
              obtain ⟨i0, hi, hz0, hz1, hz2⟩ := info_parts Tryz.infoLive
              rw [← hyb]
              clear hyb hw5
              generalize hnw : newl.length = ll at *
              go_wp2_with (at_builtin; refine wpList_append_lies _ rfl (.tmp 113) (.tmp 115) 93 rfl w5.heap.size 172 i0 (.agg #[.int .i64 0, .int .i64 0, .slice none 0 0]) 3 40 Tryz.underlying93 hi hz0 hz1 hz2 rfl (by decide) _ _ _ rfl (HOW.out.alloc _) ⟨w6.heap.size, 0, none⟩ 1 1 [.int .i64 fN, .int .i64 (sN + 1), .slice la5 ll lcap5] rfl rfl ?d1 ?d2 (by decide) ?d3 ?d4 ?d5 _ rfl ?_)
              case d1 =>
                intro i u hu
                match i, hu with
                | 0, hu => simp at hu; subst hu; simp [Addr.add]
                | 1, hu => simp at hu; subst hu; simp [Addr.add]
                | 2, hu => simp at hu; subst hu; simp [Addr.add]
              case d2 => intro u hu; simp at hu; rcases hu with rfl | rfl | rfl <;> rfl
              case d3 => unfold maxLen; omega
              case d4 => omega
              case d5 => simp; omega
              intro g cap7 w3 hown7 hgrow7 _ hg7
              have hb67 : Below w5.heap.size w6 w3 := ((Below.refl _ _).alloc (by omega) _).grown hgrow7 (by simp; omega) hlt6
              have hb57 : Below w5.heap.size w5 w3 := hb6.trans hb67
              have hb3 : Below w2.heap.size w2 w3 := hb5.trans (hb57.mono hb5.size)
              have hstd := stand_snoc (V := OrNew (Old U w) w2.heap.size) (ls := ini) (y := ⟨fN, (sN + 1), newl⟩) 0 0 hown7 HC3.out HCL.out HM.out.symm
                (fun i z cs h1 h2 => ((HCR.out i z cs (by rw [List.getElem?_append_left (List.getElem?_eq_some_iff.1 h1).1]; exact h1) h2).below hb57).keeps (Keeps.below (Below.refl _ _)) (fun _ h => .inl h))
                ((hlv5.below hb57).keeps (Keeps.below (Below.refl _ _)) (fun b hb => .inr hb)) (fun b hb => .inr (by omega))
              rw [HSD0.out] at hstd
              clear hown7 hgrow7 u0 u1 u2 hlv5
              have HSD := hid hstd
              have g2 := HBX.out w3 hb3
              have x0 : w3.cell? ⟨w.heap.size + 1 + 1, 0, none⟩ = some (.int .i64 0) := by simp [World.cell?, g2]
              have x1 : w3.cell? ⟨w.heap.size + 1 + 1, 1, none⟩ = some (.int .i64 0) := by simp [World.cell?, g2]
              have x2 : w3.cell? ⟨w.heap.size + 1 + 1, 2, none⟩ = some (.slice none 0 0) := by simp [World.cell?, g2]
              have f0 : w3.frozen? ⟨w.heap.size + 1 + 1, 0, none⟩ = false := by simp [World.frozen?, g2]
              have f1 : w3.frozen? ⟨w.heap.size + 1 + 1, 1, none⟩ = false := by simp [World.frozen?, g2]
              have f2 : w3.frozen? ⟨w.heap.size + 1 + 1, 2, none⟩ = false := by simp [World.frozen?, g2]
              have HBE := hid (below_boxed (bx := w.heap.size + 1 + 1) (hbw2.trans (hb3.mono hbw2.size)) (by omega) (.int .i64 0) (.int .i64 0) (.slice (some ⟨g, 0, none⟩) (m + 1) cap7))
              have HSE := hid (stand_boxed (bx := w.heap.size + 1 + 1) HSD.out (by omega) (by have := HZ2.out; omega) (.int .i64 0) (.int .i64 0) (.slice (some ⟨g, 0, none⟩) (m + 1) cap7))
              clear g2 hstd
              go_wp2
              exact bodyPost_ret (v := .agg #[.int .i64 0, .int .i64 0, .slice (some ⟨g, 0, none⟩) (m + 1) cap7]) (by simp [results, Tryz.results122, go_sem, x0, x1, x2]) rfl ⟨_, rfl, HSE.out, HBE.out⟩
          · have h3' : (oc == 3) = false := by simpa using h3
            have HSD0 := hid (hsdz (fun h => h3 h.1))
            have HCN := hid (fun W => counted_any oc vb vd W hrb.1 hrb.2 hrd.1 hrd.2 (fun h => absurd h h3))
            obtain ⟨vc, hvc⟩ : ∃ v, v = cnt oc vb vd := ⟨_, rfl⟩
            rw [← hvc] at HCN hnewl
            have HBU := hid (fun (W : World) (hW : Below w2.heap.size w2 W) => HBU0.out W vc (sN + 1) hW)
            rw [← hnewl] at HBU
            clear HBU0 HREST hnewl hsdz hvc
            go_wp2
            go_quiet (exact Calls.quiet_of_same (HCN.out _))
            go_wp2_with fail
            refine (HBU.out _ (by first | exact Below.refl _ _ | exact below_drawn (Below.refl _ _) nq)).mono ?_
            rintro e w4 ⟨cs4, rfl, hlive4, hnew4, hb4'⟩
            have hb4 : Below w2.heap.size w2 w4 := by first | exact hb4' | exact (below_drawn (Below.refl _ _) nq).trans hb4'
            have hlv4 : RdLiveU (fun b => w2.heap.size ≤ b) w4 cs4 _ := liveU_new hlive4 hnew4
            clear hb4'
            obtain ⟨la5, lcap5, rfl, -⟩ := hlive4
            simp only at hlv4 ⊢
            have hsz4 := hb4.size
            have hltS : w.heap.size + 1 < w4.heap.size := by have := HZ2.out; omega
            have r8 : w4.cell? ⟨w.heap.size + 1, 2, none⟩ = some (.slice (some ⟨b, off, none⟩) (m + 1) scap) := (hb4.cell (World.block_lt_of_cell? w2 _ t8)).trans t8
            obtain ⟨w5, hw5⟩ : ∃ w5, w5 = w4.alloc (Obj.cells #[.int .i64 fN, .int .i64 (sN + 1), .slice la5 newl.length lcap5] 172) := ⟨_, rfl⟩
            obtain ⟨yb, hyb⟩ : ∃ yb, yb = w4.heap.size := ⟨_, rfl⟩
            have y0 : w5.cell? ⟨yb, 0, none⟩ = some (.int .i64 fN) := by rw [hw5, hyb]; simp
            have y1 : w5.cell? ⟨yb, 1, none⟩ = some (.int .i64 (sN + 1)) := by rw [hw5, hyb]; simp
            have y2 : w5.cell? ⟨yb, 2, none⟩ = some (.slice la5 newl.length lcap5) := by rw [hw5, hyb]; simp
            have hb5 : Below w2.heap.size w2 w5 := by rw [hw5]; exact hb4.alloc hb4.size _
            have hlv5 : RdLiveU (fun b => w2.heap.size ≤ b) w5 [.int .i64 fN, .int .i64 (sN + 1), .slice la5 newl.length lcap5] ⟨fN, (sN + 1), newl⟩ := by rw [hw5]; exact hlv4.below ((Below.refl _ _).alloc (Nat.le_refl _) _)
            have hbw5 := hbw2.trans (hb5.mono hbw2.size)
            have HUW := hid (HUN.out w5 hbw5)
            have HLV5 := hid hlv5
            clear hlv4 hnew4 t1 t2 t3 t4 t5 t6 t7 t8 t9 v1 v3 v4 v5 hlv5
            go_wp2_with fail
            rw [← hw5]
            refine HUW.out.mono ?_
            rintro e w6 ⟨v6, css, rfl, hown6, hcl, hc3, hcR, hb6⟩
            have hlv5 := HLV5.out
            have hsz6 := hb6.size
            have hsz5 := hb5.size
            have yl := World.block_lt_of_cell? w5 _ y0
            have u0 := (hb6.cell (p := ⟨yb, 0, none⟩) yl).trans y0
            have u1 := (hb6.cell (p := ⟨yb, 1, none⟩) yl).trans y1
            have u2 := (hb6.cell (p := ⟨yb, 2, none⟩) yl).trans y2
            have hmm : m + 1 - 1 = m := by omega
            rw [hmm] at hown6 hcl
            have HOW := hid hown6
            have HC3 := hid hc3
            have HCL := hid hcl
            have HCR := hid hcR
            have hlt6 : ∀ k, v6.ownBlock = some k → w5.heap.size ≤ k := fun k hk => (hown6.lt k hk).1
            clear hown6 hc3 hcl hcR y0 y1 y2 r8 HUW
            obtain ⟨i0, hi, hz0, hz1, hz2⟩ := info_parts Tryz.infoLive
            rw [← hyb]
            clear hyb hw5
            generalize hnw : newl.length = ll at *
            go_wp2_with (at_builtin; refine wpList_append_lies _ rfl (.tmp 113) (.tmp 115) 93 rfl w5.heap.size 172 i0 (.agg #[.int .i64 0, .int .i64 0, .slice none 0 0]) 3 40 Tryz.underlying93 hi hz0 hz1 hz2 rfl (by decide) _ _ _ rfl (HOW.out.alloc _) ⟨w6.heap.size, 0, none⟩ 1 1 [.int .i64 fN, .int .i64 (sN + 1), .slice la5 ll lcap5] rfl rfl ?d1 ?d2 (by decide) ?d3 ?d4 ?d5 _ rfl ?_)
            case d1 =>
              intro i u hu
              match i, hu with
              | 0, hu => simp at hu; subst hu; simp [Addr.add]
              | 1, hu => simp at hu; subst hu; simp [Addr.add]
              | 2, hu => simp at hu; subst hu; simp [Addr.add]
            case d2 => intro u hu; simp at hu; rcases hu with rfl | rfl | rfl <;> rfl
            case d3 => unfold maxLen; omega
            case d4 => omega
            case d5 => simp; omega
            intro g cap7 w3 hown7 hgrow7 _ hg7
            have hb67 : Below w5.heap.size w6 w3 := ((Below.refl _ _).alloc (by omega) _).grown hgrow7 (by simp; omega) hlt6
            have hb57 : Below w5.heap.size w5 w3 := hb6.trans hb67
            have hb3 : Below w2.heap.size w2 w3 := hb5.trans (hb57.mono hb5.size)
            have hstd := stand_snoc (V := OrNew (Old U w) w2.heap.size) (ls := ini) (y := ⟨fN, (sN + 1), newl⟩) 0 0 hown7 HC3.out HCL.out HM.out.symm
              (fun i z cs h1 h2 => ((HCR.out i z cs (by rw [List.getElem?_append_left (List.getElem?_eq_some_iff.1 h1).1]; exact h1) h2).below hb57).keeps (Keeps.below (Below.refl _ _)) (fun _ h => .inl h))
              ((hlv5.below hb57).keeps (Keeps.below (Below.refl _ _)) (fun b hb => .inr hb)) (fun b hb => .inr (by omega))
            rw [HSD0.out] at hstd
            clear hown7 hgrow7 u0 u1 u2 hlv5
            have HSD := hid hstd
            have g2 := HBX.out w3 hb3
            have x0 : w3.cell? ⟨w.heap.size + 1 + 1, 0, none⟩ = some (.int .i64 0) := by simp [World.cell?, g2]
            have x1 : w3.cell? ⟨w.heap.size + 1 + 1, 1, none⟩ = some (.int .i64 0) := by simp [World.cell?, g2]
            have x2 : w3.cell? ⟨w.heap.size + 1 + 1, 2, none⟩ = some (.slice none 0 0) := by simp [World.cell?, g2]
            have f0 : w3.frozen? ⟨w.heap.size + 1 + 1, 0, none⟩ = false := by simp [World.frozen?, g2]
            have f1 : w3.frozen? ⟨w.heap.size + 1 + 1, 1, none⟩ = false := by simp [World.frozen?, g2]
            have f2 : w3.frozen? ⟨w.heap.size + 1 + 1, 2, none⟩ = false := by simp [World.frozen?, g2]
            have HBE := hid (below_boxed (bx := w.heap.size + 1 + 1) (hbw2.trans (hb3.mono hbw2.size)) (by omega) (.int .i64 0) (.int .i64 0) (.slice (some ⟨g, 0, none⟩) (m + 1) cap7))
            have HSE := hid (stand_boxed (bx := w.heap.size + 1 + 1) HSD.out (by omega) (by have := HZ2.out; omega) (.int .i64 0) (.int .i64 0) (.slice (some ⟨g, 0, none⟩) (m + 1) cap7))
            clear g2 hstd
            go_wp2
            exact bodyPost_ret (v := .agg #[.int .i64 0, .int .i64 0, .slice (some ⟨g, 0, none⟩) (m + 1) cap7]) (by simp [results, Tryz.results122, go_sem, x0, x1, x2]) rfl ⟨_, rfl, HSE.out, HBE.out⟩
end Go.Proofs.YtffnfjkjlmlonaaGreatDoor
