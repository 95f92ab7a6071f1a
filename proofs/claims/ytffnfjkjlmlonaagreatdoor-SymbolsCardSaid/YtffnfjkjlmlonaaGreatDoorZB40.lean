/- Contracts of the statement's own symbols and step at a Symbolize and at a Print, where lists of frames have come out: true. Contract of the statement's own upTo where one kind alone is played: -1, whatever the script, where the step of that kind answers true and leaves the statement's world bare. The contract of the statement's own upTo where Symbolize and Print alone are played: -1, whatever the script. -/
import Derived.Test.YtffnfjkjlmlonaaGreatDoorZB21
import Derived.Test.YtffnfjkjlmlonaaGreatDoorY16
import Derived.Test.YtffnfjkjlmlonaaGreatDoorZB38
import Derived.Test.YtffnfjkjlmlonaaGreatDoorZB39
import Derived.Test.YtffnfjkjlmlonaaGreatDoorZB14
namespace Go.Proofs.YtffnfjkjlmlonaaGreatDoor
open Go.RowKit
theorem HdBs.lt {w : World} {base : Nat} {a a' : Option Addr} {l : List Int} {n c : Nat} (h : HdBs w base a l (.slice a' n c)) : ∀ q, a' = some q → q.block < w.heap.size := by
  intro q hq
  rcases h with ⟨_, _, e⟩ | ⟨_, g, e, ho⟩
  · cases e; cases hq
  · cases e
    cases hq
    exact (ho.lt g rfl).2
set_option maxHeartbeats 4000000 in
set_option maxRecDepth 100000 in
theorem symbols_sym (g N : Nat) (n m : Int) (la : Option Addr) (lcap : Nat) (l : List Int) (ba : Option Addr) (bcap : Nat) (bs : List Int) (v5 v6 v7 v8 : Value) (ws w : World) (hws : ws.heap.size ≤ g) (hbs : Below ws.heap.size ws w) (hl : Rd .i64 ws la l.length lcap l) (hb : Rd .u8 ws ba bs.length bcap bs)
    (hll : l.length ≤ 17592186044416) (hlr : ∀ x ∈ l, R64 x) (hbl : bs.length ≤ 140737488355328) (hbx : ∀ j, 0 ≤ bs.getD j 0 ∧ bs.getD j 0 ≤ 255) (hH : HeadAt ws) (hI : FsInv g w N) (hN : N + 2 ≤ 4398046511104) :
    Calls Tryz.prog 15 #[.pointer (some ⟨g, 0, none⟩), .agg #[.int .i64 10, .int .i64 n, .int .i64 m, .slice la l.length lcap, .slice ba bs.length bcap, v5, v6, v7, v8]] w fun e w' => e = .returned (.bool true) ∧ FsInv g w' (N + 2) ∧ Below g w w' := by
  have hgw := hI.lt
  obtain ⟨v, hV⟩ := hI
  have hvlt : ∀ k, v.ownBlock = some k → k < w.heap.size := fun k hk => by
    obtain ⟨rows, _, h2, _⟩ := hV
    exact (h2.lt k hk).2
  have HBB := hid hb
  have HL := hid hl
  have HV := hid hV
  have HLR := hid hlr
  have HBX := hid hbx
  have HHD := hid hH
  obtain ⟨w1, hw1⟩ : ∃ w1, w1 = w.alloc (Obj.cells #[.int .i64 10, .int .i64 n, .int .i64 m, .slice la l.length lcap, .slice ba bs.length bcap, v5, v6, v7, v8] 46) := ⟨_, rfl⟩
  have hb1 : Below w.heap.size w w1 := by rw [hw1]; exact (Below.refl _ _).alloc (Nat.le_refl _) _
  have hs1 : w1.heap.size = w.heap.size + 1 := by rw [hw1]; simp
  have k1 : w1.heap[w.heap.size]? = some (.cells #[.int .i64 10, .int .i64 n, .int .i64 m, .slice la l.length lcap, .slice ba bs.length bcap, v5, v6, v7, v8] 46 (0, 0)) := by rw [hw1]; exact heap_alloc_new _ _
  have HK1 := hid k1
  have hbs1 := hbs.trans (hb1.mono hbs.size)
  have HREF := hid (rSym_all ba bs.length bcap bs la lcap l w1 (hb.below hbs1 (Nat.le_refl _)) hbx (by omega) (hl.below hbs1 (Nat.le_refl _)) hlr)
  obtain ⟨fr, hfr⟩ : ∃ fr, fr = symL bs l := ⟨_, rfl⟩
  obtain ⟨er, her⟩ : ∃ v, v = symE bs l := ⟨_, rfl⟩
  rw [← hfr, ← her] at HREF
  have HFE := hid hfr
  have HEE := hid her
  clear hb hl hV hlr hbx hH k1 hfr her
  obtain ⟨bl, hbln⟩ : ∃ v, v = bs.length := ⟨_, rfl⟩
  obtain ⟨ll, hlln⟩ : ∃ v, v = l.length := ⟨_, rfl⟩
  rw [← hbln, ← hlln] at HREF HK1 hw1 ⊢
  have HBN := hid hbln
  have HLN := hid hlln
  clear hbln hlln
  go_enter Tryz.func15, Tryz.ntmps15
  go_wp2_with fail
  rw [← hw1]
  refine HREF.out.mono ?_
  rintro e w3 ⟨fa, fcap, rfl, hof, hb2⟩
  have hsz2 := hb2.size
  have hbw3 : Below w.heap.size w w3 := hb1.trans (hb2.mono (by omega))
  have ko : w3.heap[w.heap.size]? = _ := (hb2.block w.heap.size (by omega)).trans HK1.out
  obtain ⟨fa', fcap', hfe, hfr3⟩ := rdFrame_of_owns hof rfl
  simp at hfe
  obtain ⟨rfl, rfl⟩ := hfe
  have hfU3 : InU (fun b => w.heap.size ≤ b ∧ b < w3.heap.size) fa fr.length := fun h0 q hq => by
    subst hq
    have := hof.lt q.block rfl
    omega
  obtain ⟨n1, hn1⟩ : ∃ v, v = w3.heap.size := ⟨_, rfl⟩
  have HKO := hid ko
  have HFR := hid hfr3
  have HFU := hid hfU3
  rw [← hn1] at HFU
  have hn1w : w.heap.size < n1 := by omega
  have hfc1 := hfr3.2.1
  have hfc2 := hfr3.2.2.1
  unfold maxLen at hfc2
  have HBW3 := hid hbw3
  have HN1 := hid hn1
  clear hw1 ko hof hfr3 hfU3 hbw3 hn1 hb2 hsz2 hs1 hb1 hbs1
  go_wp2
  go_loopw [13] (fun i wr => ∃ (t : Nat) (v' : Value), i = .int .i64 t ∧ t ≤ 2 ∧ FsV g v' wr (N + t) ∧ (∀ k, v'.ownBlock = some k → k < w.heap.size ∨ n1 ≤ k) ∧ Below g w wr ∧ n1 ≤ wr.heap.size ∧ (∀ b, w.heap.size ≤ b → b < n1 → wr.heap[b]? = w3.heap[b]?)) (fun i _ => 2 - (intOf i).toNat)
  case atStart => exact ⟨0, v, rfl, by omega, HV.out.below HBW3.out, fun k hk => .inl (hvlt k hk), HBW3.out.mono (by omega), by rw [HN1.out]; exact Nat.le_refl _, fun _ _ _ => rfl⟩
  case round =>
    obtain ⟨t, v', rfl, ht, hV, hown, hbg, hnr, hmid⟩ := hrel
    have hko := (hmid w.heap.size (Nat.le_refl _) (by omega)).trans HKO.out
    by_cases ht2 : t < 2
    · have hbsr : Below ws.heap.size ws wr := hbs.trans (hbg.mono hws)
      have HBr := hid (HBB.out.below hbsr (Nat.le_refl _))
      have HLr := hid (HL.out.below hbsr (Nat.le_refl _))
      have HHr := hid (HHD.out.below hbsr (Nat.le_refl _))
      have HFRr := hid (HFR.out.keeps HFU.out (w' := wr) (R' := RdFrame) (fun b hb _ => hmid b hb.1 hb.2) (fun _ _ h => h))
      have HBO := hid (bytesOf_any ba bs.length bcap bs wr HBr.out hbl)
      have r4 : wr.cell? ⟨w.heap.size, 4, none⟩ = some (.slice ba bl bcap) := by simp [World.cell?, hko]
      have ht' : (t : Int) < 2 := by omega
      have HKOr := hid hko
      have hszr := hbg.size
      clear hko
      rw [← HBN.out] at HBO HBr
      rw [← HLN.out] at HLr
      go_wp2_with fail
      refine HBO.out.mono ?_
      rintro e w4 ⟨hvb, rfl, hh4, hb4⟩
      have hs4 := hb4.size
      obtain ⟨ha4, hc4, rfl, hrd4⟩ := hh4.read
      have hlt4 := hh4.lt
      have q3 : w4.cell? ⟨w.heap.size, 3, none⟩ = some (.slice la ll lcap) := by
        have := (hb4.block w.heap.size (by omega)).trans HKOr.out
        simp [World.cell?, this]
      have lt4 : w.heap.size < w4.heap.size := by omega
      have HIO := hid (intsOf_any la ll lcap l w4 (HLr.out.below hb4 (Nat.le_refl _)) (by rw [HLN.out]; exact hll))
      have HH4 := hid hh4
      have HRD4 := hid hrd4
      clear hh4 hrd4
      rw [← HBN.out] at HRD4 HH4 ⊢
      go_wp2_with fail
      refine HIO.out.mono ?_
      rintro e w6 ⟨hv, rfl, hi6, hb6⟩
      have hs6 := hb6.size
      have hbr6 : Below wr.heap.size wr w6 := hb4.trans (hb6.mono hs4)
      obtain ⟨ha, hcap6, rfl, hrd6⟩ := hi6.read
      have HI6 := hid hi6
      have HRUN := hid (uSym_all ha4 bl hc4 bs ha hcap6 l w6 (HRD4.out.below hb6 (Nat.le_refl _)) (fun q hq => by have := hlt4 q hq; omega) HBX.out (HHr.out.below hbr6 (Nat.le_refl _)) hrd6 HLR.out)
      rw [← HFE.out, ← HEE.out, ← HLN.out] at HRUN
      rw [← HLN.out] at HI6 ⊢
      clear hi6 hrd6 r4 q3
      go_wp2_with fail
      refine HRUN.out.mono ?_
      rintro e w7 ⟨ra, rcap, rfl, hown7, hb7⟩
      have hs7 := hb7.size
      have o7 := (hb7.block w.heap.size (by omega)).trans ((hbr6.block w.heap.size (by omega)).trans HKOr.out)
      have p4 : w7.cell? ⟨w.heap.size, 4, none⟩ = some (.slice ba bl bcap) := by simp [World.cell?, o7]
      have lt7 : w.heap.size < w7.heap.size := by omega
      have hbr7 : Below wr.heap.size wr w7 := hbr6.trans (hb7.mono hbr6.size)
      have hb47 : Below w4.heap.size w4 w7 := hb6.trans (hb7.mono hb6.size)
      have HPS := hid (bytesStill_any wr.heap.size ba bl bcap bs (.slice ha4 bl hc4) w7 (HH4.out.below hb47) (HBr.out.below hbr7 (Nat.le_refl _)) (by rw [HBN.out]; exact hbl))
      go_wp2_with fail
      refine HPS.out.mono ?_
      rintro e w9 ⟨rfl, hb9⟩
      have hs9 := hb9.size
      have hbr9 : Below wr.heap.size wr w9 := hbr7.trans (hb9.mono hbr7.size)
      have o9 := (hbr9.block w.heap.size (by omega)).trans HKOr.out
      have p3 : w9.cell? ⟨w.heap.size, 3, none⟩ = some (.slice la ll lcap) := by simp [World.cell?, o9]
      have lt9 : w.heap.size < w9.heap.size := by omega
      have hb69 : Below w6.heap.size w6 w9 := hb7.trans (hb9.mono hb7.size)
      have HIS := hid (intsStill_any w4.heap.size la ll lcap l (.slice ha ll hcap6) w9 (HI6.out.below hb69) (HLr.out.below hbr9 (Nat.le_refl _)) (by rw [HLN.out]; exact hll))
      go_wp2_with fail
      refine HIS.out.mono ?_
      rintro e w10 ⟨rfl, hb10⟩
      have hs10 := hb10.size
      have hbr10 : Below wr.heap.size wr w10 := hbr9.trans (hb10.mono hbr9.size)
      have hb710 : Below w7.heap.size w7 w10 := hb9.trans (hb10.mono hb9.size)
      have hown10 := ownsRow_below hown7 hb710
      obtain ⟨ra', rc', he, hrd10⟩ := rdFrame_of_owns hown10 rfl
      simp at he
      obtain ⟨rfl, rfl⟩ := he
      have HSF := hid (sameFrames_any ra fr.length rcap fr fa fcap w10 hrd10 (HFRr.out.below hbr10 (fun _ _ h => h)))
      go_wp2_with fail
      refine HSF.out.mono ?_
      rintro e w11 ⟨rfl, hb11⟩
      have hs11 := hb11.size
      have hbr11 : Below wr.heap.size wr w11 := hbr10.trans (hb11.mono hbr10.size)
      have e3 : (er != er) = false := by simp
      have hown11 : w11.ownsRow wr.heap.size 107 3 (.slice ra fr.length rcap) fr.length (fr.map frCells).flatten := by
        have h := ownsRow_below hown10 hb11
        refine ⟨h.1, ?_⟩
        rcases h.2 with h2 | ⟨k, c, cr, h5, h6, h7⟩
        · exact .inl h2
        · exact .inr ⟨k, c, cr, h5, by omega, h7⟩
      have HFM := hid (frames_any g v' wr w11 (N + t) ra fr.length rcap _ hV hbr11 hown11 (by omega))
      have hral : ∀ q, ra = some q → w6.heap.size ≤ q.block := fun q hq => by
        subst hq
        exact (hown7.lt q.block rfl).1
      have hvg : ∀ k, v'.ownBlock = some k → g + 1 ≤ k := fun k hk => by
        obtain ⟨rows, _, h2, _⟩ := hV
        exact (h2.lt k hk).1
      clear hown7 hown10 hown11 hrd10 p4 p3 o7 o9
      have HRAL := hid hral
      have HVG := hid hvg
      have HOWN := hid hown
      have HMID := hid hmid
      clear hV hral hvg hown hmid
      go_wp2_with fail
      refine HFM.out.mono ?_
      rintro e w12 ⟨rfl, ⟨v'', hV12, hv12⟩, hs12, hk12, he1, he2, he3⟩
      have HR12 : Hid (∃ (t' : Nat) (v' : Value), Value.int .i64 ((t : Int) + 1) = .int .i64 t' ∧ t' ≤ 2 ∧ FsV g v' w12 (N + t') ∧ (∀ k, v'.ownBlock = some k → k < w.heap.size ∨ n1 ≤ k) ∧ Below g w w12 ∧ n1 ≤ w12.heap.size ∧ (∀ b, w.heap.size ≤ b → b < n1 → w12.heap[b]? = w3.heap[b]?)) := by
        refine ⟨t + 1, v'', by simp, by omega, hV12, fun k hk => ?_, ⟨he1.trans (hbr11.os.trans hbg.os), he2.trans (hbr11.tape.trans hbg.tape), he3.trans (hbr11.output.trans hbg.output), by omega, fun b hb => ?_⟩, by omega, fun b hb1 hb2 => ?_⟩
        · rcases hv12 k hk with h | h
          · exact HOWN.out k h
          · exact .inr (by omega)
        · refine (hk12 b ⟨by omega, fun e => by have := HVG.out b e; omega, fun q hq => by have := HRAL.out q hq; omega⟩ (by omega)).trans ((hbr11.block b (by omega)).trans (hbg.block b hb))
        · refine (hk12 b ⟨by omega, fun e => by rcases HOWN.out b e with h | h <;> omega, fun q hq => by have := HRAL.out q hq; omega⟩ (by omega)).trans ((hbr11.block b (by omega)).trans (HMID.out b hb1 hb2))
      clear hV12 hv12 hk12
      go_wp2
      go_roundw
      case rel => exact HR12.out
      case measure => simp [intOf]; omega
    · have hte : t = 2 := by omega
      subst hte
      have ht' : decide (((2 : Nat) : Int) < 2) = false := by decide
      go_wp2
      go_ret
      exact ⟨rfl, ⟨v', hV⟩, hbg⟩
set_option maxHeartbeats 2000000 in
set_option maxRecDepth 100000 in
theorem symbols_print (r : Value) (n m : Int) (fa : Option Addr) (fcap : Nat) (fr : List FrameD) (v3 v4 v5 v7 v8 : Value) (w : World) (hf : RdL 3 RdFrame w fa fr.length fcap fr) (hfl : fr.length ≤ 3518437208780) (hfx : ∀ x ∈ fr, FrFit x) (hT : Tab w) :
    Calls Tryz.prog 15 #[r, .agg #[.int .i64 11, .int .i64 n, .int .i64 m, v3, v4, v5, .slice fa fr.length fcap, v7, v8]] w fun e w' => e = .returned (.bool true) ∧ Below w.heap.size w w' := by
  obtain ⟨w1, hw1⟩ : ∃ w1, w1 = w.alloc (Obj.cells #[.int .i64 11, .int .i64 n, .int .i64 m, v3, v4, v5, .slice fa fr.length fcap, v7, v8] 46) := ⟨_, rfl⟩
  have hb1 : Below w.heap.size w w1 := by rw [hw1]; exact (Below.refl _ _).alloc (Nat.le_refl _) _
  have hs1 : w1.heap.size = w.heap.size + 1 := by rw [hw1]; simp
  have k1 : w1.heap[w.heap.size]? = some (.cells #[.int .i64 11, .int .i64 n, .int .i64 m, v3, v4, v5, .slice fa fr.length fcap, v7, v8] 46 (0, 0)) := by rw [hw1]; exact heap_alloc_new _ _
  have HK1 := hid k1
  have HFO := hid (framesOf_any fa fr.length fcap fr w1 (hf.below hb1 (fun _ _ h => h)) hfl)
  have HF := hid hf
  have HT := hid hT
  have HFX := hid hfx
  obtain ⟨fl, hfln⟩ : ∃ v, v = fr.length := ⟨_, rfl⟩
  rw [← hfln] at HFO HK1 hw1 ⊢
  have HFN := hid hfln
  clear hf hT hfx k1 hfln
  go_enter Tryz.func15, Tryz.ntmps15
  go_wp2_with fail
  rw [← hw1]
  clear hw1
  refine HFO.out.mono ?_
  rintro e w2 ⟨hv, rfl, hh2, hb2⟩
  have hs2 := hb2.size
  have hbw2 : Below w.heap.size w w2 := hb1.trans (hb2.mono (by omega))
  obtain ⟨ha, hc, rfl, hrd2⟩ := hh2.read
  have HH2 := hid hh2
  have HPR := hid (uPrint_all ha hc fr w2 hrd2 HFX.out (by rw [← HFN.out] at hfl ⊢; exact hfl) (HT.out.below hbw2))
  rw [← HFN.out] at HPR ⊢
  clear hh2 hrd2 HFO
  go_wp2_with fail
  refine HPR.out.mono ?_
  rintro e w3 ⟨rfl, hb3⟩
  have hs3 := hb3.size
  have hbw3 : Below w.heap.size w w3 := hbw2.trans (hb3.mono hbw2.size)
  have k3 := (hb3.block w.heap.size (by omega)).trans ((hb2.block w.heap.size (by omega)).trans HK1.out)
  have p6 : w3.cell? ⟨w.heap.size, 6, none⟩ = some (.slice fa fl fcap) := by simp [World.cell?, k3]
  have lt3 : w.heap.size < w3.heap.size := by omega
  have HFS := hid (framesStill_any w1.heap.size fa fr.length fcap fr (.slice ha fr.length hc) w3 (HH2.out.below hb3) (HF.out.below hbw3 (fun _ _ h => h)) hfl)
  rw [← HFN.out] at HFS
  go_wp2_with fail
  refine HFS.out.mono ?_
  rintro e w4 ⟨rfl, hb4⟩
  have hs4 := hb4.size
  have hbw4 : Below w.heap.size w w4 := hbw3.trans (hb4.mono hbw3.size)
  have k4 := (hb4.block w.heap.size (by omega)).trans k3
  have p6' : w4.cell? ⟨w.heap.size, 6, none⟩ = some (.slice fa fl fcap) := by simp [World.cell?, k4]
  have HRP := hid (rPrint_all fa fcap fr w4 (HF.out.below hbw4 (fun _ _ h => h)) HFX.out hfl)
  rw [← HFN.out] at HRP
  clear k3 p6
  generalize prtS fr = ps at *
  generalize prtE fr = pe at *
  go_wp2_with fail
  refine HRP.out.mono ?_
  rintro e w5 ⟨rfl, hb5⟩
  have hbw5 : Below w.heap.size w w5 := hbw4.trans (hb5.mono hbw4.size)
  have e1 : (ps.toList == ps.toList) = true := by simp
  have e2 : (pe == pe) = true := by simp
  go_wp2
  go_ret
  exact ⟨by simp, hbw5⟩
set_option maxHeartbeats 2000000 in
set_option maxRecDepth 100000 in
theorem step_print (r : Value) (n m : Int) (fa : Option Addr) (fcap : Nat) (fr : List FrameD) (v3 v4 v5 v7 v8 : Value) (w : World) (hf : RdL 3 RdFrame w fa fr.length fcap fr) (hfl : fr.length ≤ 3518437208780) (hfx : ∀ x ∈ fr, FrFit x) (hT : Tab w) :
    Calls Tryz.prog 9 #[r, .agg #[.int .i64 11, .int .i64 n, .int .i64 m, v3, v4, v5, .slice fa fr.length fcap, v7, v8]] w fun e w' => e = .returned (.bool true) ∧ Below w.heap.size w w' := by
  have HS := hid (fun (W : World) (hW : Below w.heap.size w W) => symbols_print r n m fa fcap fr v3 v4 v5 v7 v8 W (hf.below hW (fun _ _ h => h)) hfl hfx (hT.below hW))
  clear hf hfx hT
  generalize fr.length = fl at *
  go_enter Tryz.func9, Tryz.ntmps9
  go_wp2_with fail
  refine (HS.out _ ((Below.refl _ _).alloc (Nat.le_refl _) _)).mono ?_
  rintro e w1 ⟨rfl, hb⟩
  go_wp2
  go_ret
  exact ⟨rfl, ((Below.refl _ _).alloc (Nat.le_refl _) _).trans (hb.mono (by simp))⟩
set_option maxHeartbeats 2000000 in
set_option maxRecDepth 100000 in
theorem step_sym (g N : Nat) (n m : Int) (la : Option Addr) (lcap : Nat) (l : List Int) (ba : Option Addr) (bcap : Nat) (bs : List Int) (v5 v6 v7 v8 : Value) (ws w : World) (hws : ws.heap.size ≤ g) (hbs : Below ws.heap.size ws w) (hl : Rd .i64 ws la l.length lcap l) (hb : Rd .u8 ws ba bs.length bcap bs)
    (hll : l.length ≤ 17592186044416) (hlr : ∀ x ∈ l, R64 x) (hbl : bs.length ≤ 140737488355328) (hbx : ∀ j, 0 ≤ bs.getD j 0 ∧ bs.getD j 0 ≤ 255) (hH : HeadAt ws) (hI : FsInv g w N) (hN : N + 2 ≤ 4398046511104) :
    Calls Tryz.prog 9 #[.pointer (some ⟨g, 0, none⟩), .agg #[.int .i64 10, .int .i64 n, .int .i64 m, .slice la l.length lcap, .slice ba bs.length bcap, v5, v6, v7, v8]] w fun e w' => e = .returned (.bool true) ∧ FsInv g w' (N + 2) ∧ Below g w w' := by
  have hg := hI.lt
  have HS := hid (fun (W : World) (hW : Below w.heap.size w W) => symbols_sym g N n m la lcap l ba bcap bs v5 v6 v7 v8 ws W hws (hbs.trans (hW.mono hbs.size)) hl hb hll hlr hbl hbx hH (hI.below hW) hN)
  clear hl hb hlr hbx hH hI
  generalize bs.length = bl at *
  generalize l.length = ll at *
  go_enter Tryz.func9, Tryz.ntmps9
  go_wp2_with fail
  refine (HS.out _ ((Below.refl _ _).alloc (Nat.le_refl _) _)).mono ?_
  rintro e w1 ⟨rfl, hI1, hb⟩
  go_wp2
  go_ret
  exact ⟨rfl, hI1, (((Below.refl _ _).alloc (Nat.le_refl _) _).mono (by omega)).trans hb⟩
end Go.Proofs.YtffnfjkjlmlonaaGreatDoor
namespace Go.Proofs.YtffnfjkjlmlonaaGreatDoor
open Go.RowKit
theorem RdStep.below {w w' : World} {cs : List Value} {s : StepD} (h : RdStep w cs s) (hb : Below w.heap.size w w') : RdStep w' cs s := by
  obtain ⟨a3, k3, v4, v5, v6, v7, a, cap, e, h1, h2, h3, hr3, hb3, hr, hx⟩ := h
  exact ⟨a3, k3, v4, v5, v6, v7, a, cap, e, h1, h2, h3, hr3.below hb (Nat.le_refl _), hb3, hr.below hb, hx⟩
end Go.Proofs.YtffnfjkjlmlonaaGreatDoor
namespace Go.Proofs.YtffnfjkjlmlonaaGreatDoor
open Go.RowKit
set_option maxHeartbeats 4000000 in
set_option maxRecDepth 100000 in
theorem upTo_sym (a : Option Addr) (cap : Nat) (l : List StepS) (w : World) (hr : RdL 9 RdStepS w a l.length cap l) (hll : l.length ≤ 2199023255552) (hH : HeadAt w) (hT : Tab w) :
    Calls Tryz.prog 8 #[.slice a l.length cap, .int .i64 10, .int .i64 11] w fun e w' => e = .returned (.int .i64 (-1)) ∧ Below w.heap.size w w' := by
  have hcap := hr.2.1
  have hmax := hr.2.2.1
  unfold maxLen at hmax
  have HHD := hid hH
  have HTB := hid hT
  have HR := hid hr
  clear hr hH hT
  obtain ⟨n, hn⟩ : ∃ n, n = l.length := ⟨_, rfl⟩
  rw [← hn] at HR hcap hll ⊢
  have HN := hid hn
  clear hn
  go_enter Tryz.func8, Tryz.ntmps8
  go_wp2_with fail
  obtain ⟨w1, hw1⟩ : ∃ w1, w1 = w.alloc (Obj.cells nils 34) := ⟨_, rfl⟩
  have hb1 : Below w.heap.size w w1 := by rw [hw1]; exact (Below.refl _ _).alloc (Nat.le_refl _) _
  have HB : Hid (FsInv w.heap.size w1 0) := Bare.fs (by unfold Bare; rw [hw1]; exact heap_alloc_new _ _)
  go_loopw [8] (fun i wr => ∃ (j N : Nat), i = .int .i64 j ∧ j ≤ n ∧ FsInv w.heap.size wr N ∧ N ≤ 2 * j ∧ Below w.heap.size w wr) (fun i _ => n - (intOf i).toNat)
  case atStart => exact ⟨0, 0, rfl, by omega, by have := HB.out; rw [hw1] at this; exact this, by omega, by have := hb1; rw [hw1] at this; exact this⟩
  case round =>
    clear hw1
    obtain ⟨j, N, rfl, hj, hI, hNj, hbe⟩ := hrel
    have hsz := hbe.size
    have hgl := hI.lt
    by_cases hjn : j < n
    · obtain ⟨s, hs⟩ : ∃ s, l[j]? = some s := ⟨_, List.getElem?_eq_getElem (by rw [← HN.out]; exact hjn)⟩
      obtain ⟨b, off, cs, rfl, _, hcells, hst⟩ := HR.out.2.2.2 j s hs
      have HLK := hid (fun (W : World) (M : Nat) (hW : FsInv w.heap.size W M) => looks_fs w.heap.size W M hW)
      obtain ⟨a3, k3, a4, k4, ⟨a5, n5, k5⟩, a6, k6, ⟨a7, n7, k7⟩, ⟨a8, n8, k8⟩, rfl, hk, hn', hm, ⟨hr3, hb3, hx3⟩, ⟨hr4, hb4, hx4⟩, ⟨hr6, hb6, hx6⟩⟩ := hst
      have hc : ∀ k v, [Value.int .i64 s.k, .int .i64 s.n, .int .i64 s.m, .slice a3 s.l.length k3, .slice a4 s.s.length k4, .slice a5 n5 k5, .slice a6 s.f.length k6, .slice a7 n7 k7, .slice a8 n8 k8][k]? = some v → wr.cell? ⟨b, off + j * 9 + k, none⟩ = some v := fun k v h => by
        have := hcells k v h
        exact (hbe.cell (p := ⟨b, off + j * 9 + k, none⟩) (World.block_lt_of_cell? w _ this)).trans this
      have c0 : wr.cell? ⟨b, off + j * 9, none⟩ = _ := hc 0 _ rfl
      have c1 := hc 1 _ rfl
      have c2 := hc 2 _ rfl
      have c3 := hc 3 _ rfl
      have c4 := hc 4 _ rfl
      have c5 := hc 5 _ rfl
      have c6 := hc 6 _ rfl
      have c7 := hc 7 _ rfl
      have c8 := hc 8 _ rfl
      have HW := hid (fun (W : World) (hW : Below wr.heap.size wr W) => step_write_fs w.heap.size s.n s.m (.slice a3 s.l.length k3) (.slice a4 s.s.length k4) (.slice a5 n5 k5) (.slice a6 s.f.length k6) (.slice a7 n7 k7) (.slice a8 n8 k8) W N (hI.below hW) hm)
      have HST := hid (fun (W : World) (hW : Below wr.heap.size wr W) => step_sym w.heap.size N s.n s.m a3 k3 s.l a4 k4 s.s (.slice a5 n5 k5) (.slice a6 s.f.length k6) (.slice a7 n7 k7) (.slice a8 n8 k8) w W (Nat.le_refl _) (hbe.trans (hW.mono hbe.size)) hr3 hr4 hb3 hx3 hb4 hx4 HHD.out (hI.below hW) (by omega))
      have HPT := hid (fun (W : World) (hW : Below wr.heap.size wr W) => step_print (.pointer (some ⟨w.heap.size, 0, none⟩)) s.n s.m a6 k6 s.f (.slice a3 s.l.length k3) (.slice a4 s.s.length k4) (.slice a5 n5 k5) (.slice a7 n7 k7) (.slice a8 n8 k8) W (hr6.below (hbe.trans (hW.mono hbe.size)) (fun _ _ h => h)) hb6 hx6 (HTB.out.below (hbe.trans (hW.mono hbe.size))))
      have HI := hid hI
      clear hcells hc hs hI hr3 hr4 hr6 hx3 hx4 hx6
      have hjn' : (j : Int) < (n : Int) := by omega
      obtain ⟨hk1, hk2⟩ := hk
      by_cases h18 : s.k = 18
      · clear HST HPT
        go_wp2_with fail
        refine (HW.out _ ((Below.refl _ _).alloc (Nat.le_refl _) _)).mono ?_
        rintro e w2 ⟨rfl, hb2⟩
        have hb2' := ((Below.refl wr.heap.size wr).alloc (Nat.le_refl _) _).trans (hb2.mono (by simp))
        go_wp2_with fail
        refine (HLK.out _ N (HI.out.below hb2')).mono ?_
        rintro e w3 ⟨rfl, hb3'⟩
        have hb3 := hb2'.trans (hb3'.mono hb2'.size)
        go_wp2
        go_roundw
        case rel => exact ⟨j + 1, N, by go_num, by omega, HI.out.below hb3, by omega, hbe.trans (hb3.mono hsz)⟩
        case measure => simp [intOf]; omega
      · by_cases hK10 : s.k = 10
        · clear HW HPT
          rw [hK10] at c0
          clear hK10 h18 hk1 hk2
          go_wp2_with fail
          refine (HST.out _ ((Below.refl _ _).alloc (Nat.le_refl _) _)).mono ?_
          rintro e w2 ⟨rfl, hI2, hb2⟩
          have hb2' : Below w.heap.size wr w2 := (((Below.refl wr.heap.size wr).alloc (Nat.le_refl _) _).mono (by omega)).trans hb2
          go_wp2_with fail
          refine (HLK.out _ (N + 2) hI2).mono ?_
          rintro e w3 ⟨rfl, hb3'⟩
          have hsz2 := hb2'.size
          have hb3 := hb2'.trans (hb3'.mono (by omega))
          go_wp2
          go_roundw
          case rel => exact ⟨j + 1, N + 2, by go_num, by omega, hI2.below hb3', by omega, hbe.trans hb3⟩
          case measure => simp [intOf]; omega
        · by_cases hK11 : s.k = 11
          · clear HW HST
            rw [hK11] at c0
            clear hK11 hK10 h18 hk1 hk2
            go_wp2_with fail
            refine (HPT.out _ ((Below.refl _ _).alloc (Nat.le_refl _) _)).mono ?_
            rintro e w2 ⟨rfl, hb2⟩
            have hb2' := ((Below.refl wr.heap.size wr).alloc (Nat.le_refl _) _).trans (hb2.mono (by simp))
            go_wp2_with fail
            refine (HLK.out _ N (HI.out.below hb2')).mono ?_
            rintro e w3 ⟨rfl, hb3'⟩
            have hb3 := hb2'.trans (hb3'.mono hb2'.size)
            go_wp2
            go_roundw
            case rel => exact ⟨j + 1, N, by go_num, by omega, HI.out.below hb3, by omega, hbe.trans (hb3.mono hsz)⟩
            case measure => simp [intOf]; omega
          · clear HST HPT HW HLK
            have hbr : Below wr.heap.size wr (wr.alloc (Obj.cells #[.int .i64 s.k, .int .i64 s.n, .int .i64 s.m, .slice a3 s.l.length k3, .slice a4 s.s.length k4, .slice a5 n5 k5, .slice a6 s.f.length k6, .slice a7 n7 k7, .slice a8 n8 k8] 46)) := (Below.refl _ _).alloc (Nat.le_refl _) _
            have HBR := hid hbr
            clear hbr
            by_cases hlt : s.k < 10
            · have hge : decide (10 ≤ s.k) = false := by simp; omega
              go_wp2
              go_roundw
              case rel => exact ⟨j + 1, N, by go_num, by omega, HI.out.below HBR.out, by omega, hbe.trans (HBR.out.mono hsz)⟩
              case measure => simp [intOf]; omega
            · have hge : decide (10 ≤ s.k) = true := by simp; omega
              have hle : decide (s.k ≤ 11) = false := by simp; omega
              go_wp2
              go_roundw
              case rel => exact ⟨j + 1, N, by go_num, by omega, HI.out.below HBR.out, by omega, hbe.trans (HBR.out.mono hsz)⟩
              case measure => simp [intOf]; omega
    · go_wp2
      go_ret
      exact ⟨rfl, hbe⟩
end Go.Proofs.YtffnfjkjlmlonaaGreatDoor
