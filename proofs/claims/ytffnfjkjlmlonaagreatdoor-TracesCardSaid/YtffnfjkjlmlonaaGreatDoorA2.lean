/- Contract of the reference's (*Code).lay: how many places there are, and whether there are too many. -/
import Derived.Test.YtffnfjkjlmlonaaGreatDoorZ8
import Derived.Test.YtffnfjkjlmlonaaGreatDoorQ1b
import Derived.Deep.AppendLies
import Derived.Deep.RegionWith
namespace Go.Proofs.YtffnfjkjlmlonaaGreatDoor
open Go.RowKit

/-- A code in memory: its box, its places. -/
structure RcAt (cb : Nat) (w : World) (v : Value) (nos : Int) (s : Nat × Bool) : Prop where
  box : w.heap[cb]? = some (.cells #[v, .bool s.2, .int .i64 nos] 225 (0, 0))
  row : ∃ xs, w.ownsRow (cb + 1) 227 5 v s.1 xs
  n1 : s.1 ≤ 1000
  n2 : 0 ≤ nos
  n3 : nos ≤ s.1
/-- What is kept while a code grows. -/
structure KeptL (cb : Nat) (v : Value) (w : World) (v' : Value) (w' : World) : Prop where
  low : Below cb w w'
  block : ∀ b, b < w.heap.size → b ≠ cb → v.ownBlock ≠ some b → w'.heap[b]? = w.heap[b]?
  own : ∀ b, v'.ownBlock = some b → v.ownBlock = some b ∨ w.heap.size ≤ b
theorem KeptL.refl (cb : Nat) (v : Value) (w : World) : KeptL cb v w v w := ⟨Below.refl _ _, fun _ _ _ _ => rfl, fun _ h => .inl h⟩
theorem KeptL.trans {cb : Nat} {v v1 v2 : Value} {w w1 w2 : World} (h : KeptL cb v w v1 w1) (h2 : KeptL cb v1 w1 v2 w2) : KeptL cb v w v2 w2 := by
  have hs := h.low.size
  refine ⟨h.low.trans h2.low, fun b hb hc ho => ?_, fun b hb => ?_⟩
  · refine (h2.block b (by omega) hc fun e => ?_).trans (h.block b hb hc ho)
    rcases h.own b e with h3 | h3
    · exact ho h3
    · omega
  · rcases h2.own b hb with h3 | h3
    · exact h.own b h3
    · exact .inr (by omega)
theorem KeptL.below {cb : Nat} {v v1 : Value} {w w1 w2 : World} (h : KeptL cb v w v1 w1) (h2 : Below w1.heap.size w1 w2) (hc : cb ≤ w1.heap.size) : KeptL cb v w v1 w2 := by
  have hs := h.low.size
  exact ⟨h.low.trans (h2.mono hc), fun b hb hn ho => (h2.block b (by omega)).trans (h.block b hb hn ho), h.own⟩
theorem KeptL.set {cb : Nat} {v v1 : Value} {w w1 : World} (h : KeptL cb v w v1 w1) (j : Nat) (u : Value) : KeptL cb v w v1 (w1.setCell ⟨cb, j, none⟩ u) :=
  ⟨h.low.setCell (p := ⟨cb, j, none⟩) (Nat.le_refl _) u, fun b hb hn ho => (heap_setCell_other w1 ⟨cb, j, none⟩ b u hn).trans (h.block b hb hn ho), h.own⟩
theorem KeptL.grown {cb : Nat} {v v1 v2 : Value} {w w1 w2 : World} (h : KeptL cb v w v1 w1) (hg : w1.grownBy w2 v1.ownBlock) (hc : cb ≤ w1.heap.size) (ho : ∀ b, v1.ownBlock = some b → cb ≤ b) (hn : ∀ b, v2.ownBlock = some b → v1.ownBlock = some b ∨ w1.heap.size ≤ b) : KeptL cb v w v2 w2 := by
  have hs := h.low.size
  refine ⟨h.low.grown hg hc ho, fun b hb hcb hob => ?_, fun b hb => ?_⟩
  · refine (hg.block b (by omega) fun e => ?_).trans (h.block b hb hcb hob)
    rcases h.own b e.symm with h3 | h3
    · exact hob h3
    · omega
  · rcases hn b hb with h3 | h3
    · exact h.own b h3
    · exact .inr (by omega)
theorem RcAt.lt {cb : Nat} {w : World} {v : Value} {nos : Int} {s : Nat × Bool} (h : RcAt cb w v nos s) : cb < w.heap.size := (Array.getElem?_eq_some_iff.1 h.box).1
theorem RcAt.far {cb : Nat} {w : World} {v : Value} {nos : Int} {s : Nat × Bool} (h : RcAt cb w v nos s) : ∀ b, v.ownBlock = some b → cb + 1 ≤ b := fun b hb => by
  obtain ⟨xs, hx⟩ := h.row
  exact (hx.lt b hb).1
theorem RcAt.below {cb : Nat} {w w' : World} {v : Value} {nos : Int} {s : Nat × Bool} (h : RcAt cb w v nos s) (hb : Below w.heap.size w w') : RcAt cb w' v nos s := by
  obtain ⟨xs, hx⟩ := h.row
  exact ⟨(hb.block cb h.lt).trans h.box, ⟨xs, ownsRow_below hx hb⟩, h.n1, h.n2, h.n3⟩
theorem RcAt.long {cb : Nat} {w : World} {v : Value} {nos : Int} {s : Nat × Bool} (h : RcAt cb w v nos s) : RcAt cb (w.setCell ⟨cb, 1, none⟩ (.bool true)) v nos (s.1, true) := by
  obtain ⟨xs, hx⟩ := h.row
  refine ⟨by rw [heap_setCell_same w cb 1 _ _ _ h.box]; rfl, ⟨xs, ownsRow_setCell_other hx (own_ne hx (Nat.lt_succ_self _)) _⟩, h.n1, h.n2, h.n3⟩
theorem RcAt.nos {cb : Nat} {w : World} {v : Value} {nos : Int} {s : Nat × Bool} (h : RcAt cb w v nos s) (k : Int) (h0 : 0 ≤ k) (h1 : k ≤ s.1) : RcAt cb (w.setCell ⟨cb, 2, none⟩ (.int .i64 k)) v k s := by
  obtain ⟨xs, hx⟩ := h.row
  refine ⟨by rw [heap_setCell_same w cb 2 _ _ _ h.box]; rfl, ⟨xs, ownsRow_setCell_other hx (own_ne hx (Nat.lt_succ_self _)) _⟩, h.n1, h0, h1⟩
theorem RcAt.add {cb : Nat} {w w' : World} {v v2 : Value} {nos : Int} {n : Nat} (h : RcAt cb w v nos (n, false)) (hg : w.grownBy w' v.ownBlock) {xs : List Value} (ho : w'.ownsRow (cb + 1) 227 5 v2 (n + 1) xs) (hn : n < 1000) : RcAt cb (w'.setCell ⟨cb, 0, none⟩ v2) v2 nos (n + 1, false) := by
  obtain ⟨ys, hy⟩ := h.row
  have hb := (hg.block cb h.lt (fun e => own_ne hy (Nat.lt_succ_self _) e.symm)).trans h.box
  refine ⟨by rw [heap_setCell_same w' cb 0 _ _ _ hb]; rfl, ⟨xs, ownsRow_setCell_other ho (own_ne ho (Nat.lt_succ_self _)) _⟩, by dsimp only; omega, h.n2, ?_⟩
  have := h.n3
  dsimp only at this ⊢
  omega
theorem RcAt.grownBox {cb : Nat} {w w' : World} {v : Value} {nos : Int} {s : Nat × Bool} (h : RcAt cb w v nos s) (hg : w.grownBy w' v.ownBlock) : w'.heap[cb]? = some (.cells #[v, .bool s.2, .int .i64 nos] 225 (0, 0)) := by
  obtain ⟨ys, hy⟩ := h.row
  exact (hg.block cb h.lt (fun e => own_ne hy (Nat.lt_succ_self _) e.symm)).trans h.box
theorem KeptL.add {cb : Nat} {v v1 : Value} {w w1 w2 : World} {nos : Int} {s : Nat × Bool} (h : KeptL cb v w v1 w1) (hr : RcAt cb w1 v1 nos s) {g n c : Nat} (hg : w1.grownBy w2 v1.ownBlock) (hat : v1.ownBlock = some g ∨ g = w1.heap.size) : KeptL cb v w (.slice (some ⟨g, 0, none⟩) n c) (w2.setCell ⟨cb, 0, none⟩ (.slice (some ⟨g, 0, none⟩) n c)) :=
  (h.grown hg (Nat.le_of_lt hr.lt) (fun b hb => by have := hr.far b hb; omega) (fun b hb => by
    have e : g = b := by simpa [Value.ownBlock] using hb
    subst e
    rcases hat with h1 | h1
    · exact .inl h1
    · exact .inr (by omega))).set 0 _
theorem Rd.keptL {cb : Nat} {v v' : Value} {w w' : World} {a : Option Addr} {len cap : Nat} {l : List Int} (h : Rd .i64 w a len cap l) (hk : KeptL cb v w v' w') (hf : ∀ q, a = some q → q.block ≠ cb ∧ v.ownBlock ≠ some q.block) : Rd .i64 w' a len cap l := by
  refine ⟨h.hlen, h.hcap, h.hmax, fun i hi => ?_⟩
  obtain ⟨b, off, e, hc⟩ := h.cell i hi
  refine ⟨b, off, e, ?_⟩
  have hb := World.block_lt_of_cell? w _ hc
  simp only at hb
  obtain ⟨f1, f2⟩ := hf _ e
  have := hk.block b hb f1 f2
  simp only [World.cell?, this]
  exact hc
theorem Tryz.infoRPlace : (Tryz.prog.info? 227).map (fun i => (i.zero, i.size, i.bytes)) = some (some (.agg #[.int .i64 0, .int .i64 0, .slice none 0 0, .int .i64 0, .bool false]), 5, 56) := by kernel_rfl
theorem new5_at {w : World} {n : Nat} (h : w.heap.size = n) (a b c d e : Value) (t : TypeId) : ∀ j u, [a, b, c, d, e][j]? = some u → (w.alloc (.cells #[a, b, c, d, e] t)).cell? ((⟨n, 0, none⟩ : Addr).add j) = some u := by
  subst h
  intro j u hu
  match j, hu with
  | 0, hu => simp at hu; subst hu; simp [Addr.add]
  | 1, hu => simp at hu; subst hu; simp [Addr.add]
  | 2, hu => simp at hu; subst hu; simp [Addr.add]
  | 3, hu => simp at hu; subst hu; simp [Addr.add]
  | 4, hu => simp at hu; subst hu; simp [Addr.add]
theorem one5 (a b : Int) (s : Option Addr) (l c : Nat) (d : Int) (e : Bool) : ∀ u ∈ [Value.int .i64 a, .int .i64 b, .slice s l c, .int .i64 d, .bool e], u.oneCell' = true := by
  intro u hu; simp at hu; rcases hu with rfl | rfl | rfl | rfl | rfl <;> rfl

/-- What lay does, asked of a call. -/
def LaysAt (p : List FnD) (bud : Int) (f : Nat) (w0 : World) (pa : Option Addr) (pcap cb : Nat) : Prop :=
  ∀ (fn : Nat) (ar : List Int) (w : World) (v : Value) (nos : Int) (n : Nat) (ra : Option Addr) (rl rcap : Nat) (ya : Option Addr) (yl ycap : Nat) (way : List Int) (no : Int),
    freeN ar p.length ≤ f → fn < p.length → (fn : Int) ∉ ar → RcAt cb w v nos (n, false) → Below w0.heap.size w0 w → Rd .i64 w ra rl rcap (ar.reverse ++ [(fn : Int)]) → (∀ q, ra = some q → q.block ≠ cb ∧ v.ownBlock ≠ some q.block) → rl + f ≤ 20 →
    Rd .i64 w ya yl ycap way → (∀ q, ya = some q → q.block ≠ cb ∧ v.ownBlock ≠ some q.block) → ((ya = none ∧ yl = 0 ∧ ycap = 0) ∨ 0 < yl) → yl + f ≤ 20 →
    Calls Tryz.prog 214 #[.pointer (some ⟨cb, 0, none⟩), .agg #[.slice pa p.length pcap], .int .i64 bud, .slice ra rl rcap, .slice ya yl ycap, .int .i64 no] w fun e w' => e = .returned (.tuple #[]) ∧ ∃ v', (∃ nos', RcAt cb w' v' nos' (rlI p bud f fn ar (n, false))) ∧ KeptL cb v w v' w'

set_option maxHeartbeats 8000000 in
set_option maxRecDepth 100000 in
theorem lay_step (p : List FnD) (hgd : Good p) (bud : Int) (f : Nat) (w0 : World) (pa : Option Addr) (pcap cb : Nat) (hp0 : RdP w0 pa p.length pcap p) (hcb : w0.heap.size ≤ cb) (IH : LaysAt p bud f w0 pa pcap cb) : LaysAt p bud (f + 1) w0 pa pcap cb := by
  intro fn ar w v nos n ra rl rcap ya yl ycap way no hfr hfn hni hR hold hra hrb hrl hya hyb hyn hyl
  have hfc := freeN_cons hni (by omega) p.length (by omega)
  have ltw := hR.lt
  obtain ⟨wA, hwA⟩ : ∃ v, v = w.alloc (Obj.cells #[.slice pa p.length pcap] 44) := ⟨_, rfl⟩
  have hbA : Below w.heap.size w wA := by rw [hwA]; exact (Below.refl _ _).alloc (Nat.le_refl _) _
  have hsA : wA.heap.size = w.heap.size + 1 := by rw [hwA]; simp
  have kA : wA.heap[w.heap.size]? = some (.cells #[.slice pa p.length pcap] 44 (0, 0)) := by rw [hwA]; exact heap_new_at rfl
  have hrlen := hra.hlen
  simp only [List.length_append, List.length_reverse, List.length_cons, List.length_nil] at hrlen
  obtain ⟨rb, roff, rfl, hlast⟩ := hra.cell (rl - 1) (by omega)
  have hlv : (ar.reverse ++ [(fn : Int)]).getD (rl - 1) 0 = (fn : Int) := by
    rw [List.getD, List.getElem?_append_right (by simp; omega)]
    simp
    rw [show rl - 1 - ar.length = 0 by omega]
    rfl
  rw [hlv] at hlast
  have ltr := World.block_lt_of_cell? w _ hlast
  simp only at ltr
  have hfs : p[fn]? = some (fnAt p fn) := by
    have := fnAt_some (p := p) (n := (fn : Int)) ⟨by omega, by omega⟩
    simpa using this
  obtain ⟨pb, poff, ba, bcap, rfl, -, -, -, -, -, c4', hrbd, -, -⟩ := hp0.at fn _ hfs
  have hbl1 := hrbd.2.1
  have hbl2 := hrbd.2.2.1
  have hpc1 := hp0.2.1
  have hpc2 := hp0.2.2.1
  have hrc1 := hra.hcap
  have hrc2 := hra.hmax
  have hyc1 := hya.hcap
  have hyc2 := hya.hmax
  unfold maxLen at hbl2 hpc2 hrc2 hyc2
  have ew : IntKind.i64.wrap ((rl : Int) - 1) = ((rl - 1 : Nat) : Int) := by rw [IntKind.wrap_i64]; omega
  have HGD := hid hgd
  have HIH := hid IH
  have HP0 := hid hp0
  have HRB := hid hrbd
  have HC4 := hid c4'
  have HFS := hid hfs
  have HKA := hid kA
  have HOLD := hid hold
  have HRA := hid (hra.below hbA (Nat.le_refl _))
  have HYA := hid (hya.below hbA (Nat.le_refl _))
  have hvlt : ∀ b, v.ownBlock = some b → b < w.heap.size := fun b hb => by
    obtain ⟨xs, hx⟩ := hR.row
    exact (hx.lt b hb).2
  have HNA := hid hrb
  have HNY := hid hyb
  have HYN := hid hyn
  have HVLT := hid hvlt
  have HRA0 := hid (hR.below hbA)
  have HBA := hid hbA
  obtain ⟨bn, hbn⟩ : ∃ v, v = (fnAt p fn).body.length := ⟨_, rfl⟩
  have HBN := hid hbn
  rw [← hbn] at hbl1 HC4
  obtain ⟨pn, hpn⟩ : ∃ v, v = p.length := ⟨_, rfl⟩
  have HPN := hid hpn
  rw [← hpn] at hpc1 HKA hwA ⊢
  have hfp : (fn : Int) < (pn : Int) := by omega
  obtain ⟨body, hbody⟩ : ∃ b, b = (fnAt p fn).body := ⟨_, rfl⟩
  rw [← hbody] at HBN HRB
  obtain ⟨fin, hfin⟩ : ∃ t, t = rlI p bud (f + 1) fn ar (n, false) := ⟨_, rfl⟩
  rw [← hfin]
  have HFIN : Hid (fin = rlB (rlI p bud f) p bud ((fn : Int) :: ar) body (n, false)) := by rw [hfin, hbody]; rfl
  have HBODY := hid hbody
  have hrl1 : (1 : Int) ≤ (rl : Int) := by omega
  clear hfin hbody hpn hbn hra hya hrb hyb hyn hvlt hR hold hbA kA hlv hfs hrbd c4' hp0 hgd IH
  go_enter Tryz.func214, Tryz.ntmps214
  go_wp2
  rw [← hwA]
  clear hwA hlast
  go_loopw [13] (fun iv wr => ∃ (j : Nat) (v' : Value) (nos' : Int) (t : Nat × Bool), iv = .int .i64 j ∧ j ≤ bn ∧ RcAt cb wr v' nos' t ∧ KeptL cb v wA v' wr ∧ fin = rlB (rlI p bud f) p bud ((fn : Int) :: ar) (body.drop j) t) (fun iv _ => bn - (intOf iv).toNat)
  case atStart => exact ⟨0, v, nos, (n, false), rfl, by omega, HRA0.out, KeptL.refl _ _ _, HFIN.out⟩
  case round =>
    clear HRA0 HFIN
    obtain ⟨j, v', nos', t, rfl, hj, hrc, hkp, hfe⟩ := hrel
    have hcw := hrc.lt
    have hsz := hkp.low.size
    have hvA : v.ownBlock ≠ some w.heap.size := fun e => by have := HVLT.out _ e; omega
    have kr := (hkp.block w.heap.size (by omega) (by omega) hvA).trans HKA.out
    have hold' : Below w0.heap.size w0 wr := (HOLD.out.trans (HBA.out.mono HOLD.out.size)).trans (hkp.low.mono hcb)
    have hpr := HP0.out.below hold'
    have c4 := (hold'.cell (World.block_lt_of_cell? w0 _ HC4.out)).trans HC4.out
    have ltp := World.block_lt_of_cell? wr _ c4
    simp only at ltp
    have p0 : wr.cell? ⟨w.heap.size, 0, none⟩ = some (.slice (some ⟨pb, poff, none⟩) pn pcap) := by simp [World.cell?, kr]
    obtain ⟨la, lcap, rfl, hlc, hlm⟩ : ∃ la lcap, v' = .slice la t.1 lcap ∧ t.1 ≤ lcap ∧ lcap ≤ maxLen := by
      obtain ⟨xs, hx⟩ := hrc.row
      rcases hx.2 with ⟨h1, h2⟩ | ⟨g, c, cur, h1, _, _, h3, h4, _⟩
      · exact ⟨none, 0, by rw [h1, h2], by omega, by unfold maxLen; omega⟩
      · exact ⟨_, c, h1, h3, h4⟩
    unfold maxLen at hlm
    have hbx := hrc.box
    have b0 : wr.cell? ⟨cb, 0, none⟩ = some (.slice la t.1 lcap) := by simp [World.cell?, hbx]
    have b1 : wr.cell? ⟨cb, 1, none⟩ = some (.bool t.2) := by simp [World.cell?, hbx]
    have b2 : wr.cell? ⟨cb, 2, none⟩ = some (.int .i64 nos') := by simp [World.cell?, hbx]
    have f0 : wr.frozen? ⟨cb, 0, none⟩ = false := by simp [World.frozen?, hbx]
    have f1 : wr.frozen? ⟨cb, 1, none⟩ = false := by simp [World.frozen?, hbx]
    have f2 : wr.frozen? ⟨cb, 2, none⟩ = false := by simp [World.frozen?, hbx]
    have ltA : w.heap.size < wr.heap.size := by omega
    have hn1 := hrc.n1
    have hn2 := hrc.n2
    have hn3 := hrc.n3
    by_cases hjn : j < bn
    · have hjn' : (j : Int) < (bn : Int) := by omega
      obtain ⟨o, ho⟩ : ∃ o, body[j]? = some o := ⟨_, List.getElem?_eq_getElem (by rw [← HBN.out]; exact hjn)⟩
      have hdr : body.drop j = o :: body.drop (j + 1) := by
        obtain ⟨hlt, he⟩ := List.getElem?_eq_some_iff.1 ho
        rw [List.drop_eq_getElem_cons hlt, he]
      rw [hdr] at hfe
      obtain ⟨tn, tb⟩ := t
      dsimp only at *
      by_cases h1000 : tn = 1000
      · have he : fin = (tn, true) := by rw [hfe]; unfold rlB; rw [if_pos (.inl h1000)]
        have HR := hid hrc.long
        have HKK := hid (hkp.set 1 (.bool true))
        have HE := hid he
        subst h1000
        clear hfe hrc hkp hbx kr hdr ho he
        go_wp2
        refine bodyPost_ret (v := .tuple #[]) (by simp [results, Tryz.results214, go_sem]) rfl ⟨rfl, .slice la 1000 lcap, ⟨nos', by rw [HE.out]; exact HR.out⟩, ?_⟩
        · exact ⟨(HBA.out.mono (Nat.le_of_lt ltw)).trans HKK.out.low, fun b hb hn ho => (HKK.out.block b (by omega) hn ho).trans (HBA.out.block b hb), fun b hb => by
            rcases HKK.out.own b hb with h | h
            · exact .inl h
            · exact .inr (by omega)⟩
      · have h1' : ((tn : Int) == 1000) = false := by simp; omega
        cases tb with
        | true =>
          have he : fin = (tn, true) := by rw [hfe]; unfold rlB; rw [if_pos (.inr rfl)]
          have HR := hid hrc
          have HKK := hid hkp
          have HE := hid he
          clear hfe hrc hkp hbx kr hdr ho he
          go_wp2
          refine bodyPost_ret (v := .tuple #[]) (by simp [results, Tryz.results214, go_sem]) rfl ⟨rfl, .slice la tn lcap, ⟨nos', by rw [HE.out]; exact HR.out⟩, ?_⟩
          · exact ⟨(HBA.out.mono (Nat.le_of_lt ltw)).trans HKK.out.low, fun b hb hn ho => (HKK.out.block b (by omega) hn ho).trans (HBA.out.block b hb), fun b hb => by
              rcases HKK.out.own b hb with h | h
              · exact .inl h
              · exact .inr (by omega)⟩
        | false =>
          have hn999 : tn < 1000 := by omega
          obtain ⟨qb, qoff, oa, ocap, rfl, -, q0, q1, q2, q3, q4, q5, -⟩ := HRB.out.opAt j _ ho
          have hup : ∀ (q : Addr) (u : Value), w0.cell? q = some u → wr.cell? q = some u := fun q u h => (hold'.cell (World.block_lt_of_cell? w0 _ h)).trans h
          replace q0 := hup _ _ q0
          replace q1 := hup _ _ q1
          replace q2 := hup _ _ q2
          replace q3 := hup _ _ q3
          replace q4 := hup _ _ q4
          replace q5 := hup _ _ q5
          have ltq := World.block_lt_of_cell? wr _ q0
          simp only at ltq
          have hop : o.code = 5 → 0 ≤ o.b ∧ o.b < p.length := fun hc => by
            have hx := HGD.out.fns fn (fnAt p fn) HFS.out
            have := (hx.ops j o (by rw [← HBODY.out]; exact ho)).call hc
            exact ⟨this.1, this.2.1⟩
          have HOP := hid hop
          have hra' := HRA.out.keptL hkp HNA.out
          have hya' := HYA.out.keptL hkp HNY.out
          have HRC := hid hrc
          have HKP := hid hkp
          have HPR := hid hpr
          have HRR := hid hra'
          have HYR := hid hya'
          have HFE : Hid (fin = if inlB p bud ((fn : Int) :: ar) o = true then rlB (rlI p bud f) p bud ((fn : Int) :: ar) (body.drop (j + 1)) (rlI p bud f o.b ((fn : Int) :: ar) (tn + 1, false)) else rlB (rlI p bud f) p bud ((fn : Int) :: ar) (body.drop (j + 1)) (tn + 1, false)) := hid (by
            rw [hfe]
            conv => lhs; unfold rlB
            rw [if_neg (by rintro (h | h); exact h1000 h; cases h)])
          have HKR := hid kr
          have HOLR := hid hold'
          have hown' : Value.ownBlock (.slice la tn lcap) ≠ some w.heap.size := fun e => by
            rcases hkp.own _ e with h | h
            · exact hvA h
            · omega
          clear hfe hrc hkp hbx kr hdr ho hup hpr hra' hya' hop hold'
          obtain ⟨oc, ol, oA, ob, od, oargs⟩ := o
          dsimp only at *
          obtain ⟨na, hna⟩ : ∃ v, v = oargs.length := ⟨_, rfl⟩
          rw [← hna] at q5
          clear hna
          obtain ⟨w5, hw5⟩ : ∃ v, v = wr.alloc (Obj.cells #[.int .i64 oc, .int .i64 ol, .int .i64 oA, .int .i64 ob, .int .i64 od, .slice oa na ocap] 183) := ⟨_, rfl⟩
          have hb5 : Below wr.heap.size wr w5 := by rw [hw5]; exact (Below.refl _ _).alloc (Nat.le_refl _) _
          have hs5 : w5.heap.size = wr.heap.size + 1 := by rw [hw5]; simp
          have k5 : w5.heap[wr.heap.size]? = some (.cells #[.int .i64 oc, .int .i64 ol, .int .i64 oA, .int .i64 ob, .int .i64 od, .slice oa na ocap] 183 (0, 0)) := by rw [hw5]; exact heap_new_at rfl
          have HB5 := hid hb5
          have HK5 := hid k5
          clear hb5 k5
          by_cases hc5 : oc = 5
          · subst hc5
            obtain ⟨ob0, ob1⟩ := HOP.out rfl
            obtain ⟨bN, rfl⟩ : ∃ k : Nat, ob = (k : Int) := ⟨ob.toNat, by omega⟩
            have HIN := hid (rInl_any (some ⟨pb, poff, none⟩) pcap p bud (some ⟨rb, roff, none⟩) rl rcap (ar.reverse ++ [(fn : Int)]) bN w5 (HPR.out.below HB5.out) (HRR.out.below HB5.out (Nat.le_refl _)) (by omega))
            have hil : (!((ar.reverse ++ [(fn : Int)]).contains (bN : Int)) && decide (((fnAt p bN).body.length : Int) ≤ bud)) = inlB p bud ((fn : Int) :: ar) ⟨5, ol, oA, bN, od, oargs⟩ := by
              unfold inlB
              have : (ar.reverse ++ [(fn : Int)]).contains (bN : Int) = ((fn : Int) :: ar).contains (bN : Int) := by
                rw [Bool.eq_iff_iff]
                simp
                constructor
                · rintro (h | h)
                  · exact .inr h
                  · exact .inl h
                · rintro (h | h)
                  · exact .inr h
                  · exact .inl h
              rw [this]
              rfl
            rw [hil, ← HPN.out] at HIN
            have p5 : w5.cell? ⟨w.heap.size, 0, none⟩ = some (.slice (some ⟨pb, poff, none⟩) pn pcap) := (HB5.out.cell (p := ⟨w.heap.size, 0, none⟩) (by show w.heap.size < _; omega)).trans p0
            clear hil
            go_wp2_with fail
            rw [← hw5]
            refine HIN.out.mono ?_
            rintro e w6 ⟨rfl, hb6⟩
            have hs6 := hb6.size
            have hb56 : Below wr.heap.size wr w6 := HB5.out.trans (hb6.mono HB5.out.size)
            have hrc6 := HRC.out.below hb56
            have hkp6 := HKP.out.below hb56 (by omega)
            have hbx6 := hrc6.box
            have e0 : w6.cell? ⟨cb, 0, none⟩ = some (.slice la tn lcap) := by simp [World.cell?, hbx6]
            have lt6 : cb < w6.heap.size := hrc6.lt
            obtain ⟨xs, hx6⟩ := hrc6.row
            have HX6 := hid hx6
            have HRC6 := hid hrc6
            have HKP6 := hid hkp6
            have HB56 := hid hb56
            have k6 := (hb6.block wr.heap.size (by omega)).trans HK5.out
            have HK6 := hid k6
            obtain ⟨ib, hib⟩ : ∃ v, v = inlB p bud ((fn : Int) :: ar) ⟨5, ol, oA, bN, od, oargs⟩ := ⟨_, rfl⟩
            rw [← hib] at HFE ⊢
            have HIB := hid hib
            have ltow : ∀ b, Value.ownBlock (.slice la tn lcap) = some b → b < wr.heap.size := fun b hb => by
              obtain ⟨ys, hy⟩ := HRC.out.row
              exact (hy.lt b hb).2
            have HOWLT := hid ltow
            have hbp : Below w6.heap.size w6 (w6.alloc (Obj.cells #[.int .i64 fn, .int .i64 j, .slice ya yl ycap, .int .i64 no, .bool ib] 227)) := (Below.refl _ _).alloc (Nat.le_refl _) _
            have HX6A := hid (hx6.alloc (Obj.cells #[.int .i64 fn, .int .i64 j, .slice ya yl ycap, .int .i64 no, .bool ib] 227))
            have HRC6A := hid (hrc6.below hbp)
            have HKP6A := hid (hkp6.below hbp (by omega))
            have HK6A := hid ((hbp.block wr.heap.size (by omega)).trans k6)
            clear hb6 hb56 hrc6 hkp6 hbx6 hx6 k6 hib hbp ltow HIN p5 p0 b0 b1 b2 f0 f1 f2 q0 q1 q2 q3 q4 q5 c4 hw5 HX6 HRC6 HKP6 HB56 HK6
            obtain ⟨i0, hi, hz0, hz1, hz2⟩ := info_parts Tryz.infoRPlace
            go_wp2_with (at_builtin; refine wpList_append_lies _ rfl (.tmp 70) (.tmp 77) 223 rfl (cb + 1) 227 i0 (.agg #[.int .i64 0, .int .i64 0, .slice none 0 0, .int .i64 0, .bool false]) 5 56 Tryz.underlying223 hi hz0 hz1 hz2 rfl (by decide) _ _ _ rfl HX6A.out ⟨w6.heap.size, 0, none⟩ 1 1 [.int .i64 fn, .int .i64 j, .slice ya yl ycap, .int .i64 no, .bool ib] rfl rfl (new5_at rfl _ _ _ _ _ _) (one5 _ _ _ _ _ _ _) (by decide) (by unfold maxLen; omega) (by omega) (by simp; omega) _ rfl ?_)
            intro g c w7 hown7 hgrow7 hat7 hlt7
            have hb7 := HRC6A.out.grownBox hgrow7
            have z0 : w7.cell? ⟨cb, 0, none⟩ = some (.slice la tn lcap) := by simp [World.cell?, hb7]
            have z2 : w7.cell? ⟨cb, 2, none⟩ = some (.int .i64 nos') := by simp [World.cell?, hb7]
            have f7 : w7.frozen? ⟨cb, 0, none⟩ = false := by simp [World.frozen?, hb7]
            have g7 : w7.frozen? ⟨cb, 2, none⟩ = false := by simp [World.frozen?, hb7]
            have lt7 : cb < w7.heap.size := (Array.getElem?_eq_some_iff.1 hb7).1
            have hr8 := HRC6A.out.add hgrow7 hown7 hn999
            have hk8 : KeptL cb v wA (.slice (some ⟨g, 0, none⟩) (tn + 1) c) (w7.setCell ⟨cb, 0, none⟩ (.slice (some ⟨g, 0, none⟩) (tn + 1) c)) := HKP6A.out.add HRC6A.out hgrow7 (hat7.imp id (fun h => by rw [h]; simp))
            have HR8 := hid hr8
            have HK8 := hid hk8
            have y7 : w7.heap[wr.heap.size]? = some (.cells #[.int .i64 5, .int .i64 ol, .int .i64 oA, .int .i64 (bN : Int), .int .i64 od, .slice oa na ocap] 183 (0, 0)) := (hgrow7.block wr.heap.size (by have := (Array.getElem?_eq_some_iff.1 HK6A.out).1; exact this) (fun e => by have := HOWLT.out _ e.symm; omega)).trans HK6A.out
            have y3 : w7.cell? ⟨wr.heap.size, 3, none⟩ = some (.int .i64 (bN : Int)) := by simp [World.cell?, y7]
            have lt7w : wr.heap.size < w7.heap.size := (Array.getElem?_eq_some_iff.1 y7).1
            have nec : wr.heap.size ≠ cb := by omega
            clear hown7 hgrow7 hat7 hb7 hr8 hk8 y7 HX6A hi hz0 hz1 hz2
            cases ib with
            | false =>
              have HNX : Hid (fin = rlB (rlI p bud f) p bud ((fn : Int) :: ar) (body.drop (j + 1)) (tn + 1, false)) := hid (by rw [HFE.out]; exact if_neg (by simp))
              clear HFE y3 z2 g7
              go_wp2
              go_roundw
              case rel => exact ⟨j + 1, .slice (some ⟨g, 0, none⟩) (tn + 1) c, nos', (tn + 1, false), by go_num, by omega, HR8.out, HK8.out, HNX.out⟩
              case measure => simp [intOf]; omega
            | true =>
              have HNX : Hid (fin = rlB (rlI p bud f) p bud ((fn : Int) :: ar) (body.drop (j + 1)) (rlI p bud f bN ((fn : Int) :: ar) (tn + 1, false))) := hid (by rw [HFE.out]; exact if_pos rfl)
              have hni2 : (bN : Int) ∉ ((fn : Int) :: ar) := fun hm => by
                have h := HIB.out
                unfold inlB at h
                rw [List.contains_iff_mem.2 hm] at h
                simp at h
              have ew2 : IntKind.i64.wrap (nos' + 1) = nos' + 1 := by rw [IntKind.wrap_i64]; omega
              obtain ⟨v8, hv8⟩ : ∃ v, v = Value.slice (some ⟨g, 0, none⟩) (tn + 1) c := ⟨_, rfl⟩
              obtain ⟨w9, hw9⟩ : ∃ v, v = (w7.setCell ⟨cb, 0, none⟩ (.slice (some ⟨g, 0, none⟩) (tn + 1) c)).setCell ⟨cb, 2, none⟩ (.int .i64 (nos' + 1)) := ⟨_, rfl⟩
              have hr9 : RcAt cb w9 v8 (nos' + 1) (tn + 1, false) := by rw [hw9, hv8]; exact HR8.out.nos (nos' + 1) (by omega) (by dsimp only; omega)
              have hk9 : KeptL cb v wA v8 w9 := by rw [hw9, hv8]; exact HK8.out.set 2 _
              have hs9 := hk9.low.size
              have hM1 := rMore_any (some ⟨rb, roff, none⟩) rl rcap (ar.reverse ++ [(fn : Int)]) bN w9 (HRA.out.keptL hk9 HNA.out) (.inr (by omega)) (by omega)
              have HM1 := hid hM1
              have HR9 := hid hr9
              have HK9 := hid hk9
              have HV8 := hid hv8
              have hvb : ∀ b, v8.ownBlock = some b → b < w9.heap.size := fun b hb => by
                obtain ⟨ys, hy⟩ := hr9.row
                exact (hy.lt b hb).2
              have HVB := hid hvb
              have hc9 := hr9.lt
              clear HFE hM1 hr9 hk9 hv8 hvb HR8 HK8
              go_wp2_with fail
              rw [← hw9]
              clear hw9 y3 z0 z2 f7 g7
              refine HM1.out.mono ?_
              rintro e w10 ⟨hb10, g10, c10, rfl, ho10⟩
              have hs10 := hb10.size
              obtain ⟨a', c', ea, hrd10⟩ := rdI_own3 ho10
              cases ea
              have hg10 := ho10.lt g10 rfl
              have hk10 := HK9.out.below hb10 (by omega)
              have HM2 := hid (rMore_any ya yl ycap way j w10 (HYA.out.keptL hk10 HNY.out) HYN.out (by omega))
              have HRD10 := hid hrd10
              have HB10 := hid hb10
              have hcc1 := hrd10.hcap
              have hcc2 := hrd10.hmax
              unfold maxLen at hcc2
              clear hb10 ho10 hrd10 hk10 HM1
              go_wp2_with fail
              refine HM2.out.mono ?_
              rintro e w11 ⟨hb11, g11, c11, rfl, ho11⟩
              have hs11 := hb11.size
              obtain ⟨a', c', ea, hrd11⟩ := rdI_own3 ho11
              cases ea
              have hg11 := ho11.lt g11 rfl
              have hb911 : Below w9.heap.size w9 w11 := HB10.out.trans (hb11.mono (by omega))
              have hk11 : KeptL cb v wA v8 w11 := HK9.out.below hb911 (by omega)
              have hr11 := HR9.out.below hb911
              have hold11 : Below w0.heap.size w0 w11 := (HOLD.out.trans (HBA.out.mono HOLD.out.size)).trans (hk11.low.mono hcb)
              have hvA2 : v.ownBlock ≠ some w.heap.size := fun e => by have := HVLT.out _ e; omega
              have kr11 := (hk11.block w.heap.size (by omega) (by omega) hvA2).trans HKA.out
              have p11 : w11.cell? ⟨w.heap.size, 0, none⟩ = some (.slice (some ⟨pb, poff, none⟩) pn pcap) := by simp [World.cell?, kr11]
              have bx11 := hr11.box
              have n11 : w11.cell? ⟨cb, 2, none⟩ = some (.int .i64 (nos' + 1)) := by simp [World.cell?, bx11]
              have lt11 : w.heap.size < w11.heap.size := (Array.getElem?_eq_some_iff.1 kr11).1
              have lc11 : cb < w11.heap.size := hr11.lt
              have hrl2 : ((fn : Int) :: ar).reverse ++ [(bN : Int)] = ar.reverse ++ [(fn : Int)] ++ [(bN : Int)] := by rw [List.reverse_cons]
              have hbd : Below w11.heap.size w11 w11.drew := (Below.refl _ _).drew
              have HL := hid (HIH.out bN ((fn : Int) :: ar) w11.drew v8 (nos' + 1) (tn + 1) (some ⟨g10, 0, none⟩) (rl + 1) c10 (some ⟨g11, 0, none⟩) (yl + 1) c11 (way ++ [(j : Int)]) (nos' + 1) (by omega) (by omega) hni2 (hr11.below hbd) (hold11.trans (hbd.mono hold11.size))
                (by rw [hrl2]; exact (HRD10.out.below hb11 (Nat.le_refl _)).below hbd (Nat.le_refl _)) (fun q hq => by cases hq; exact ⟨by simp only; omega, fun e => by have := HVB.out _ e; simp only at this; omega⟩) (by omega)
                (hrd11.below hbd (Nat.le_refl _)) (fun q hq => by cases hq; exact ⟨by simp only; omega, fun e => by have := HVB.out _ e; simp only at this; omega⟩) (.inr (by omega)) (by omega))
              rw [← HPN.out] at HL
              have hdc1 := hrd11.hcap
              have hdc2 := hrd11.hmax
              unfold maxLen at hdc2
              have HK11 := hid (hk11.below hbd (by omega))
              clear hb11 ho11 hrd11 hb911 hk11 hr11 hold11 hvA2 kr11 bx11 hni2 hrl2 HM2 HRD10
              go_wp2
              go_region_with (go_at_call 214; refine HL.out.mono ?_; rintro e w12 ⟨rfl, v12, ⟨nos12, hr12⟩, hk12⟩)
              all_goals
                first
                | exact ⟨⟨j + 1, v12, nos12, _, by go_num, by omega, hr12, HK11.out.trans hk12, HNX.out⟩, by simp [intOf]; omega⟩
                | (go_wp2
                   go_roundw
                   case rel => exact ⟨j + 1, v12, nos12, _, by go_num, by omega, hr12, HK11.out.trans hk12, HNX.out⟩
                   case measure => simp [intOf]; omega)
          · have hc5' : (oc == 5) = false := by simpa using hc5
            have HIB : Hid (inlB p bud ((fn : Int) :: ar) ⟨oc, ol, oA, ob, od, oargs⟩ = false) := hid (by unfold inlB; simp [hc5])
            obtain ⟨xs, hx⟩ := HRC.out.row
            have ltow : ∀ b, Value.ownBlock (.slice la tn lcap) = some b → b < wr.heap.size := fun b hb => (hx.lt b hb).2
            have HOWLT := hid ltow
            obtain ⟨w6, hw6⟩ : ∃ v, v = w5.alloc (Obj.cells #[.int .i64 fn, .int .i64 j, .slice ya yl ycap, .int .i64 no, .bool false] 227) := ⟨_, rfl⟩
            have hb6 : Below wr.heap.size wr w6 := by rw [hw6]; exact HB5.out.alloc HB5.out.size _
            have HX6A := hid ((hx.alloc (Obj.cells #[.int .i64 oc, .int .i64 ol, .int .i64 oA, .int .i64 ob, .int .i64 od, .slice oa na ocap] 183)).alloc (Obj.cells #[.int .i64 fn, .int .i64 j, .slice ya yl ycap, .int .i64 no, .bool false] 227))
            have HRC6A := hid (HRC.out.below hb6)
            have HKP6A := hid (HKP.out.below hb6 (by omega))
            have HK6A : Hid (w6.heap[wr.heap.size]? = some (.cells #[.int .i64 oc, .int .i64 ol, .int .i64 oA, .int .i64 ob, .int .i64 od, .slice oa na ocap] 183 (0, 0))) := hid (by rw [hw6]; exact (heap_alloc_old _ _ (by omega)).trans HK5.out)
            have HW6 : Hid ((wr.alloc (Obj.cells #[.int .i64 oc, .int .i64 ol, .int .i64 oA, .int .i64 ob, .int .i64 od, .slice oa na ocap] 183)).alloc (Obj.cells #[.int .i64 fn, .int .i64 j, .slice ya yl ycap, .int .i64 no, .bool false] 227) = w6) := hid (by rw [hw6, hw5])
            have HSZ : Hid (w6.heap.size = wr.heap.size + 1 + 1) := hid (by rw [hw6]; simp [hs5])
            clear hb6 hw6 hx ltow hw5
            obtain ⟨i0, hi, hz0, hz1, hz2⟩ := info_parts Tryz.infoRPlace
            go_wp2_with (at_builtin; refine wpList_append_lies _ rfl (.tmp 70) (.tmp 77) 223 rfl (cb + 1) 227 i0 (.agg #[.int .i64 0, .int .i64 0, .slice none 0 0, .int .i64 0, .bool false]) 5 56 Tryz.underlying223 hi hz0 hz1 hz2 rfl (by decide) _ _ _ rfl HX6A.out ⟨wr.heap.size + 1, 0, none⟩ 1 1 [.int .i64 fn, .int .i64 j, .slice ya yl ycap, .int .i64 no, .bool false] rfl rfl (new5_at (by simp) _ _ _ _ _ _) (one5 _ _ _ _ _ _ _) (by decide) (by unfold maxLen; omega) (by omega) (by simp; omega) _ rfl ?_)
            intro g c w7 hown7 hgrow7 hat7 hlt7
            rw [HW6.out] at hgrow7
            have hb7 := HRC6A.out.grownBox hgrow7
            have z0 : w7.cell? ⟨cb, 0, none⟩ = some (.slice la tn lcap) := by simp [World.cell?, hb7]
            have z2 : w7.cell? ⟨cb, 2, none⟩ = some (.int .i64 nos') := by simp [World.cell?, hb7]
            have f7 : w7.frozen? ⟨cb, 0, none⟩ = false := by simp [World.frozen?, hb7]
            have g7 : w7.frozen? ⟨cb, 2, none⟩ = false := by simp [World.frozen?, hb7]
            have lt7 : cb < w7.heap.size := (Array.getElem?_eq_some_iff.1 hb7).1
            have hr8 := HRC6A.out.add hgrow7 hown7 hn999
            have hk8 : KeptL cb v wA (.slice (some ⟨g, 0, none⟩) (tn + 1) c) (w7.setCell ⟨cb, 0, none⟩ (.slice (some ⟨g, 0, none⟩) (tn + 1) c)) := HKP6A.out.add HRC6A.out hgrow7 (hat7.imp id (fun h => by rw [h, HSZ.out]))
            have HR8 := hid hr8
            have HK8 := hid hk8
            have y7 : w7.heap[wr.heap.size]? = some (.cells #[.int .i64 oc, .int .i64 ol, .int .i64 oA, .int .i64 ob, .int .i64 od, .slice oa na ocap] 183 (0, 0)) := (hgrow7.block wr.heap.size (by have := (Array.getElem?_eq_some_iff.1 HK6A.out).1; exact this) (fun e => by have := HOWLT.out _ e.symm; omega)).trans HK6A.out
            have y3 : w7.cell? ⟨wr.heap.size, 3, none⟩ = some (.int .i64 ob) := by simp [World.cell?, y7]
            have lt7w : wr.heap.size < w7.heap.size := (Array.getElem?_eq_some_iff.1 y7).1
            have nec : wr.heap.size ≠ cb := by omega
            clear hown7 hgrow7 hat7 hb7 hr8 hk8 y7 HX6A hi hz0 hz1 hz2
            have HNX : Hid (fin = rlB (rlI p bud f) p bud ((fn : Int) :: ar) (body.drop (j + 1)) (tn + 1, false)) := hid (by rw [HFE.out]; exact if_neg (by rw [HIB.out]; simp))
            clear HFE y3 z2 g7
            go_wp2
            go_roundw
            case rel => exact ⟨j + 1, .slice (some ⟨g, 0, none⟩) (tn + 1) c, nos', (tn + 1, false), by go_num, by omega, HR8.out, HK8.out, HNX.out⟩
            case measure => simp [intOf]; omega
    · have hje : decide ((j : Int) < (bn : Int)) = false := by simp; omega
      have he : fin = t := by
        have : body.drop j = [] := List.drop_of_length_le (by have := HBN.out; omega)
        rw [this] at hfe
        exact hfe
      have HR := hid hrc
      have HKK := hid hkp
      have HE := hid he
      clear hfe hrc hkp hbx kr he
      go_wp2
      go_end0
      refine ⟨rfl, .slice la t.1 lcap, ⟨nos', by rw [HE.out]; exact HR.out⟩, ?_⟩
      · exact ⟨(HBA.out.mono (Nat.le_of_lt ltw)).trans HKK.out.low, fun b hb hn ho => (HKK.out.block b (by omega) hn ho).trans (HBA.out.block b hb), fun b hb => by
          rcases HKK.out.own b hb with h | h
          · exact .inl h
          · exact .inr (by omega)⟩
end Go.Proofs.YtffnfjkjlmlonaaGreatDoor
