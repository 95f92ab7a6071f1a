/- Contracts of the developers' reader of images: take, number, table, bytes: plain functions of where the reader is; nothing is written but the reader's own box. Mathematics of the bytes of numbers and tables: what is read as a number or as a table is written as just the bytes that were read. -/
import Derived.Test.YtffnfjkjlmlonaaGreatDoorZB4
import Derived.Deep.RegionWith
import Derived.Test.YtffnfjkjlmlonaaGreatDoorZB3
namespace Go.Proofs.YtffnfjkjlmlonaaGreatDoor
open Go.RowKit
/-- The reader's box. -/
def rdA (b : Value) (s : RsD) (nv fv : Value) : Array Value := #[b, .int .i64 s.at_, .int .i64 s.to_, .int .i64 s.e, nv, fv, .int .i64 s.room]
/-- Nothing that was there is written but the block rb. -/
structure OnlyR (rb : Nat) (w w' : World) : Prop where
  os : w'.os = w.os
  tape : w'.tape = w.tape
  output : w'.output = w.output
  size : w.heap.size ≤ w'.heap.size
  block : ∀ k, k < w.heap.size → k ≠ rb → w'.heap[k]? = w.heap[k]?
theorem OnlyR.refl (rb : Nat) (w : World) : OnlyR rb w w := ⟨rfl, rfl, rfl, Nat.le_refl _, fun _ _ _ => rfl⟩
theorem OnlyR.trans {rb : Nat} {a b c : World} (h : OnlyR rb a b) (k : OnlyR rb b c) : OnlyR rb a c :=
  ⟨k.os.trans h.os, k.tape.trans h.tape, k.output.trans h.output, Nat.le_trans h.size k.size, fun i hi hn => (k.block i (Nat.lt_of_lt_of_le hi h.size) hn).trans (h.block i hi hn)⟩
theorem OnlyR.below {rb : Nat} {w w' : World} (h : Below w.heap.size w w') : OnlyR rb w w' := ⟨h.os, h.tape, h.output, h.size, fun k hk _ => h.block k hk⟩
theorem OnlyR.drew {rb : Nat} {a w : World} (h : OnlyR rb a w) : OnlyR rb a w.drew := ⟨h.os, h.tape, h.output, h.size, h.block⟩
theorem OnlyR.drewN {rb : Nat} {a w : World} (h : OnlyR rb a w) (n : Nat) : OnlyR rb a (w.drewN n) := h.trans ⟨rfl, rfl, rfl, Nat.le_refl _, fun _ _ _ => rfl⟩
theorem OnlyR.setCell {rb : Nat} {a w : World} (h : OnlyR rb a w) (j : Nat) (u : Value) : OnlyR rb a (w.setCell ⟨rb, j, none⟩ u) :=
  h.trans ⟨rfl, rfl, rfl, by simp [World.setCell], fun k _ hn => Below.heap_setCell _ _ _ _ hn⟩
theorem OnlyR.toBelow {rb B : Nat} {w w' : World} (h : OnlyR rb w w') (hB : B ≤ rb) (hw : rb < w.heap.size) : Below B w w' :=
  ⟨h.os, h.tape, h.output, h.size, fun k hk => h.block k (by omega) (by omega)⟩
theorem OnlyR.cell {rb : Nat} {w w' : World} (h : OnlyR rb w w') {q : Addr} {u : Value} (hq : q.block ≠ rb) (hc : w.cell? q = some u) : w'.cell? q = some u := by
  have hlt := World.block_lt_of_cell? w _ hc
  exact (World.cell?_of_block (w := w) (h.block q.block hlt hq)).trans hc
theorem Rd.only {k : IntKind} {rb : Nat} {w w' : World} {a : Option Addr} {len cap : Nat} {zs : List Int} (h : Rd k w a len cap zs) (ho : OnlyR rb w w') (hn : ∀ q, a = some q → q.block ≠ rb) : Rd k w' a len cap zs := by
  refine ⟨h.hlen, h.hcap, h.hmax, fun i hi => ?_⟩
  obtain ⟨b, off, e, hc⟩ := h.cell i hi
  exact ⟨b, off, e, ho.cell (q := ⟨b, off + i, none⟩) (show b ≠ rb from hn _ e) hc⟩
set_option maxHeartbeats 1000000 in
set_option maxRecDepth 100000 in
theorem take_any (rb : Nat) (b nv fv : Value) (s : RsD) (m : Bool) (w : World) (hk : w.heap[rb]? = some (.cells (rdA b s nv fv) 206 (0, 0))) :
    Calls Tryz.prog 158 #[.pointer (some ⟨rb, 0, none⟩), .bool m] w fun e w' => e = .returned (.tuple #[]) ∧ OnlyR rb w w' ∧ w'.heap[rb]? = some (.cells (rdA b (rTake s m) nv fv) 206 (0, 0)) := by
  unfold rdA at hk
  have c1 : w.cell? ⟨rb, 1, none⟩ = some (.int .i64 s.at_) := by simp [World.cell?, hk]
  have c2 : w.cell? ⟨rb, 2, none⟩ = some (.int .i64 s.to_) := by simp [World.cell?, hk]
  have c3 : w.cell? ⟨rb, 3, none⟩ = some (.int .i64 s.e) := by simp [World.cell?, hk]
  have f1 : w.frozen? ⟨rb, 1, none⟩ = false := by simp [World.frozen?, hk]
  have f3 : w.frozen? ⟨rb, 3, none⟩ = false := by simp [World.frozen?, hk]
  by_cases he : s.e = 0
  · have he' : (s.e != 0) = false := by simpa using he
    cases m with
    | true =>
      have HF : Hid (OnlyR rb w (w.setCell ⟨rb, 1, none⟩ (.int .i64 s.to_)) ∧ (w.setCell ⟨rb, 1, none⟩ (.int .i64 s.to_)).heap[rb]? = some (.cells (rdA b (rTake s true) nv fv) 206 (0, 0))) := by
        refine ⟨(OnlyR.refl _ _).setCell _ _, ?_⟩
        rw [heap_setCell_same w rb 1 _ _ _ hk]
        unfold rTake
        rw [if_neg (by simpa using he)]
        rfl
      clear hk he
      go_enter Tryz.func158, Tryz.ntmps158
      go_wp2
      exact bodyPost_end (v := .tuple #[]) (results_none Tryz.results158 _ _ _) rfl ⟨rfl, HF.out⟩
    | false =>
      have HF : Hid (OnlyR rb w (w.setCell ⟨rb, 3, none⟩ (.int .i64 8)) ∧ (w.setCell ⟨rb, 3, none⟩ (.int .i64 8)).heap[rb]? = some (.cells (rdA b (rTake s false) nv fv) 206 (0, 0))) := by
        refine ⟨(OnlyR.refl _ _).setCell _ _, ?_⟩
        rw [heap_setCell_same w rb 3 _ _ _ hk]
        unfold rTake
        rw [if_neg (by simpa using he)]
        rfl
      clear hk he
      go_enter Tryz.func158, Tryz.ntmps158
      go_wp2
      exact bodyPost_ret (v := .tuple #[]) (by simp [results, Tryz.results158, go_sem]) rfl ⟨rfl, HF.out⟩
  · have he' : (s.e != 0) = true := by simpa using he
    have HF : Hid (w.heap[rb]? = some (.cells (rdA b (rTake s m) nv fv) 206 (0, 0))) := by
      show _ = _
      unfold rTake
      rw [if_pos he]
      exact hk
    clear hk he
    go_enter Tryz.func158, Tryz.ntmps158
    go_wp2
    exact bodyPost_ret (v := .tuple #[]) (by simp [results, Tryz.results158, go_sem]) rfl ⟨rfl, OnlyR.refl _ _, HF.out⟩
set_option maxHeartbeats 1000000 in
set_option maxRecDepth 100000 in
theorem rnumber_any (rb : Nat) (ba : Option Addr) (blen bcap : Nat) (bs : List Int) (nv fv : Value) (s : RsD) (w : World) (hk : w.heap[rb]? = some (.cells (rdA (.slice ba blen bcap) s nv fv) 206 (0, 0))) (hb : Rd .u8 w ba blen bcap bs) (hx : ∀ j, 0 ≤ bs.getD j 0 ∧ bs.getD j 0 ≤ 255) :
    Calls Tryz.prog 157 #[.pointer (some ⟨rb, 0, none⟩)] w fun e w' => e = .returned (.int .i64 (rNum bs s).1) ∧ OnlyR rb w w' ∧ w'.heap[rb]? = some (.cells (rdA (.slice ba blen bcap) (rNum bs s).2 nv fv) 206 (0, 0)) := by
  unfold rdA at hk
  have c0 : w.cell? ⟨rb, 0, none⟩ = some (.slice ba blen bcap) := by simp [World.cell?, hk]
  have c1 : w.cell? ⟨rb, 1, none⟩ = some (.int .i64 s.at_) := by simp [World.cell?, hk]
  have c2 : w.cell? ⟨rb, 2, none⟩ = some (.int .i64 s.to_) := by simp [World.cell?, hk]
  have c3 : w.cell? ⟨rb, 3, none⟩ = some (.int .i64 s.e) := by simp [World.cell?, hk]
  have f2 : w.frozen? ⟨rb, 2, none⟩ = false := by simp [World.frozen?, hk]
  have f3 : w.frozen? ⟨rb, 3, none⟩ = false := by simp [World.frozen?, hk]
  by_cases he : s.e = 0
  · have he' : (s.e != 0) = false := by simpa using he
    have HG := hid (fun (W : World) (h : Rd .u8 W ba blen bcap bs) => get_any ba blen bcap bs s.at_ W h hx)
    have HB := hid (hb.below (Below.refl _ w).drew (Nat.le_refl _))
    obtain ⟨⟨n, to, er⟩, hg⟩ : ∃ p, getN bs s.at_ = p := ⟨_, rfl⟩
    rw [hg] at HG
    have hn : rNum bs s = (n, { s with to_ := to, e := er }) := by unfold rNum; rw [if_neg (by simpa using he), hg]
    rw [hn]
    have k1 := heap_setCell_same w rb 2 _ _ (.int .i64 to) hk
    have k2 := heap_setCell_same _ rb 3 _ _ (.int .i64 er) k1
    have HK := hid k2
    clear hk he hb hg hn k1 k2
    go_enter Tryz.func157, Tryz.ntmps157
    go_wp2
    go_region_with (go_at_call 78; refine (HG.out _ HB.out).mono ?_; rintro e w' ⟨rfl, rfl⟩)
    all_goals
      go_wp2
      go_ret
      exact ⟨rfl, (((OnlyR.refl _ _).drewN _).setCell _ _).setCell _ _, HK.out⟩
  · have he' : (s.e != 0) = true := by simpa using he
    have hn : rNum bs s = (0, s) := by unfold rNum; rw [if_pos he]
    rw [hn]
    have HK := hid hk
    clear hk he hn hb
    go_enter Tryz.func157, Tryz.ntmps157
    go_wp2
    go_ret
    exact ⟨rfl, OnlyR.refl _ _, HK.out⟩
set_option maxHeartbeats 1000000 in
set_option maxRecDepth 100000 in
theorem rtable_any (rb : Nat) (ba : Option Addr) (blen bcap : Nat) (bs : List Int) (nv fv : Value) (s : RsD) (w : World) (hk : w.heap[rb]? = some (.cells (rdA (.slice ba blen bcap) s nv fv) 206 (0, 0))) (hb : Rd .u8 w ba blen bcap bs) (hx : ∀ j, 0 ≤ bs.getD j 0 ∧ bs.getD j 0 ≤ 255) :
    Calls Tryz.prog 206 #[.pointer (some ⟨rb, 0, none⟩)] w fun e w' => ∃ v, e = .returned v ∧ OnlyR rb w w' ∧ w'.heap[rb]? = some (.cells (rdA (.slice ba blen bcap) (rTab bs s).2 nv fv) 206 (0, 0)) ∧ w'.ownsRow w.heap.size 109 2 v (rTab bs s).1.length (flat (rTab bs s).1) := by
  unfold rdA at hk
  have hrb := (Array.getElem?_eq_some_iff.1 hk).1
  have c0 : w.cell? ⟨rb, 0, none⟩ = some (.slice ba blen bcap) := by simp [World.cell?, hk]
  have c1 : w.cell? ⟨rb, 1, none⟩ = some (.int .i64 s.at_) := by simp [World.cell?, hk]
  have c2 : w.cell? ⟨rb, 2, none⟩ = some (.int .i64 s.to_) := by simp [World.cell?, hk]
  have c3 : w.cell? ⟨rb, 3, none⟩ = some (.int .i64 s.e) := by simp [World.cell?, hk]
  by_cases he : s.e = 0
  · have he' : (s.e != 0) = false := by simpa using he
    have HG := hid (tget_any ba blen bcap bs s.at_ w.drew (hb.below (Below.refl _ w).drew (Nat.le_refl _)) hx)
    obtain ⟨⟨l, to, er⟩, hg⟩ : ∃ p, getT bs s.at_ = p := ⟨_, rfl⟩
    rw [hg] at HG
    have hn : rTab bs s = (l, { s with to_ := to, e := er }) := by unfold rTab; rw [if_neg (by simpa using he), hg]
    rw [hn]
    have HK0 := hid hk
    clear hk he hb hg hn
    go_enter Tryz.func206, Tryz.ntmps206
    go_wp2
    go_region_with (go_at_call 84; refine HG.out.mono ?_; rintro e w1 ⟨v, rfl, hown, hbel⟩)
    all_goals
      have hk1 := (hbel.block rb hrb).trans HK0.out
      have d2 : w1.cell? ⟨rb, 2, none⟩ = some (.int .i64 s.to_) := by simp [World.cell?, hk1]
      have d3 : w1.cell? ⟨rb, 3, none⟩ = some (.int .i64 s.e) := by simp [World.cell?, hk1]
      have f2 : w1.frozen? ⟨rb, 2, none⟩ = false := by simp [World.frozen?, hk1]
      have f3 : w1.frozen? ⟨rb, 3, none⟩ = false := by simp [World.frozen?, hk1]
      have hvr : v.ownBlock ≠ some rb := fun e => by have := (hown.lt rb e).1; exact absurd hrb (Nat.not_lt.2 this)
      have k2 := heap_setCell_same _ rb 3 _ _ (.int .i64 er) (heap_setCell_same w1 rb 2 _ _ (.int .i64 to) hk1)
      have HF : Hid (OnlyR rb w ((w1.setCell ⟨rb, 2, none⟩ (.int .i64 to)).setCell ⟨rb, 3, none⟩ (.int .i64 er)) ∧ ((w1.setCell ⟨rb, 2, none⟩ (.int .i64 to)).setCell ⟨rb, 3, none⟩ (.int .i64 er)).heap[rb]? = some (.cells (rdA (.slice ba blen bcap) { s with to_ := to, e := er } nv fv) 206 (0, 0)) ∧ ((w1.setCell ⟨rb, 2, none⟩ (.int .i64 to)).setCell ⟨rb, 3, none⟩ (.int .i64 er)).ownsRow w.heap.size 109 2 v l.length (flat l)) :=
        ⟨((OnlyR.below (w := w) ⟨hbel.os, hbel.tape, hbel.output, hbel.size, hbel.block⟩).setCell _ _).setCell _ _, k2, ownsRow_setCell_other (ownsRow_setCell_other hown hvr _) hvr _⟩
      clear hown hbel hk1 k2 hvr
      go_wp2
      go_ret
      exact ⟨_, rfl, HF.out⟩
  · have he' : (s.e != 0) = true := by simpa using he
    have hn : rTab bs s = ([], s) := by unfold rTab; rw [if_pos he]
    rw [hn]
    have HK := hid hk
    clear hk he hn hb
    go_enter Tryz.func206, Tryz.ntmps206
    go_wp2
    go_ret
    exact ⟨_, rfl, OnlyR.refl _ _, HK.out, World.ownsRow_nil _ _ _ _⟩
set_option maxHeartbeats 1000000 in
set_option maxRecDepth 100000 in
theorem rbytes_any (rb : Nat) (ba : Option Addr) (blen bcap : Nat) (bs : List Int) (nv fv : Value) (s : RsD) (n : Int) (w : World) (hk : w.heap[rb]? = some (.cells (rdA (.slice ba blen bcap) s nv fv) 206 (0, 0))) (hb : Rd .u8 w ba blen bcap bs) (hne : ∀ q, ba = some q → q.block ≠ rb)
    (h0 : 0 ≤ s.at_) (h1 : s.at_ ≤ bs.length) (hn : s.e = 0 → 1 ≤ n ∧ n ≤ 20) :
    Calls Tryz.prog 226 #[.pointer (some ⟨rb, 0, none⟩), .int .i64 n] w fun e w' => e = .returned (.string (rByt bs s n).1) ∧ OnlyR rb w w' ∧ w'.heap[rb]? = some (.cells (rdA (.slice ba blen bcap) (rByt bs s n).2 nv fv) 206 (0, 0)) := by
  unfold rdA at hk
  have HL := hid hb.hlen
  have hmax := hb.hmax
  have hcap := hb.hcap
  unfold maxLen at hmax
  rw [HL.out] at h1
  have c0 : w.cell? ⟨rb, 0, none⟩ = some (.slice ba blen bcap) := by simp [World.cell?, hk]
  have c1 : w.cell? ⟨rb, 1, none⟩ = some (.int .i64 s.at_) := by simp [World.cell?, hk]
  have c2 : w.cell? ⟨rb, 2, none⟩ = some (.int .i64 s.to_) := by simp [World.cell?, hk]
  have c3 : w.cell? ⟨rb, 3, none⟩ = some (.int .i64 s.e) := by simp [World.cell?, hk]
  have f2 : w.frozen? ⟨rb, 2, none⟩ = false := by simp [World.frozen?, hk]
  have f3 : w.frozen? ⟨rb, 3, none⟩ = false := by simp [World.frozen?, hk]
  by_cases he : s.e = 0
  · have he' : (s.e != 0) = false := by simpa using he
    obtain ⟨hn1, hn2⟩ := hn he
    by_cases hl : (blen : Int) - s.at_ < n
    · have hr : rByt bs s n = (ByteArray.empty, { s with e := 2 }) := by unfold rByt; rw [if_neg (by simpa using he), HL.out, if_pos hl]
      rw [hr]
      have HK := hid (heap_setCell_same w rb 3 _ _ (.int .i64 2) hk)
      clear hk he hb hr hn
      go_enter Tryz.func226, Tryz.ntmps226
      go_wp2
      go_region
      all_goals
        go_wp2
        go_ret
        exact ⟨rfl, ((OnlyR.refl _ _).drewN _).setCell _ _, HK.out⟩
    · have hl' : decide ((blen : Int) - s.at_ < n) = false := by simpa using hl
      have hr : rByt bs s n = (strOfNums ((bs.drop s.at_.toNat).take n.toNat), { s with to_ := s.at_ + n }) := by unfold rByt; rw [if_neg (by simpa using he), HL.out, if_neg hl]
      rw [hr]
      obtain ⟨A, hA⟩ := Int.eq_ofNat_of_zero_le h0
      obtain ⟨N, rfl⟩ := Int.eq_ofNat_of_zero_le (show 0 ≤ n by omega)
      rw [hA] at c1 hl hl' h1 hk ⊢
      have hAN : A + N ≤ blen := by omega
      obtain ⟨b, off, rfl, hc⟩ := hb.open (by omega)
      have hbr : b ≠ rb := hne _ rfl
      have k1 := heap_setCell_same w rb 2 _ _ (.int .i64 ((A : Int) + N)) hk
      have HK := hid k1
      have hcell : ∀ i, i < A + N - A → ((w.setCell ⟨rb, 2, none⟩ (.int .i64 ((A : Int) + N))).drew.drew).cell? ⟨b, off + A + i, none⟩ = some (.int .u8 (((bs.drop A).take N).getD i 0)) := by
        intro i hi
        have h2 := hc (A + i) (by omega)
        have h3 := (((OnlyR.refl rb w).setCell 2 (.int .i64 ((A : Int) + N))).drew.drew).cell (q := ⟨b, off + (A + i), none⟩) hbr h2
        rw [show off + A + i = off + (A + i) by omega, h3]
        have : bs.getD (A + i) 0 = ((bs.drop A).take N).getD i 0 := by simp [List.getD, show i < N by omega]
        rw [this]
      have hcv := run_convert_bytes_arg (P := Tryz.prog) ((w.setCell ⟨rb, 2, none⟩ (.int .i64 ((A : Int) + N))).drew.drew) 36 5 Tryz.underlying36 Tryz.underlying5 b (off + A) (A + N - A) (bcap - A) ((bs.drop A).take N) (by rw [List.length_take, List.length_drop, HL.out]; omega) hcell 9 Tryz.underlying9
      have eAN : A + N - A = N := by omega
      have hcv2 := hcv
      rw [eAN] at hcv2
      have eA : ((A : Int)).toNat = A := by omega
      have eN : ((N : Int)).toNat = N := by omega
      rw [eA, eN]
      generalize strOfNums ((bs.drop A).take N) = str at *
      have hcA : ¬ bcap = A := by omega
      clear hk he hb hr hn hc hcell k1 eA eN h0 hA eAN
      go_enter Tryz.func226, Tryz.ntmps226
      go_wp2
      go_region
      all_goals
        go_wp2
        go_region
      all_goals
        go_wp2
        go_ret
        exact ⟨rfl, (((OnlyR.refl _ _).drewN _).setCell _ _).drewN _, HK.out⟩
  · have he' : (s.e != 0) = true := by simpa using he
    have hr : rByt bs s n = (ByteArray.empty, s) := by unfold rByt; rw [if_pos he]
    rw [hr]
    have HK := hid hk
    clear hk he hb hr hn
    go_enter Tryz.func226, Tryz.ntmps226
    go_wp2
    go_ret
    exact ⟨rfl, OnlyR.refl _ _, HK.out⟩
end Go.Proofs.YtffnfjkjlmlonaaGreatDoor
namespace Go.Proofs.YtffnfjkjlmlonaaGreatDoor
open Go.RowKit
/-- From the place a to the place b stand the bytes x. -/
def Eats (bs : List Int) (a : Int) (x : List Int) (b : Int) : Prop := 0 ≤ a ∧ b = a + x.length ∧ b ≤ bs.length ∧ bs.drop a.toNat = x ++ bs.drop b.toNat
theorem Eats.trans {bs x y : List Int} {a b c : Int} (h : Eats bs a x b) (h' : Eats bs b y c) : Eats bs a (x ++ y) c := by
  obtain ⟨h1, h2, h3, h4⟩ := h
  obtain ⟨g1, g2, g3, g4⟩ := h'
  exact ⟨h1, by rw [List.length_append]; omega, g3, by rw [h4, g4, List.append_assoc]⟩
theorem Eats.nil {bs : List Int} {a : Int} (h0 : 0 ≤ a) (h1 : a ≤ bs.length) : Eats bs a [] a := ⟨h0, by simp, h1, rfl⟩
theorem Eats.of_take {bs x : List Int} {a : Int} (h0 : 0 ≤ a) (h1 : a + x.length ≤ bs.length) (h : (bs.drop a.toNat).take x.length = x) : Eats bs a x (a + x.length) := by
  refine ⟨h0, rfl, h1, ?_⟩
  have e : (a + (x.length : Int)).toNat = a.toNat + x.length := by omega
  rw [e, ← List.drop_drop]
  conv => lhs; rw [← List.take_append_drop x.length (bs.drop a.toNat), h]
theorem wid_form : ∀ (f : Nat) (bs : List Int) (k : Nat), wid f bs = ((k : Int), 0) → ∃ x b, x.length + 1 = k ∧ bs.take k = x ++ [b] ∧ b < 128 ∧ (∀ y ∈ x, ¬ y < 128) ∧ k ≤ f ∧ k ≤ bs.length
  | 0, _, _, h => by simp [wid] at h
  | f + 1, [], _, h => by simp [wid] at h
  | f + 1, b :: r, k, h => by
    unfold wid at h
    by_cases hb : b < 128
    · rw [if_pos hb] at h
      have : k = 1 := by simp at h; omega
      subst this
      exact ⟨[], b, rfl, rfl, hb, by simp, by omega, by simp⟩
    · rw [if_neg hb] at h
      by_cases h2 : (wid f r).2 = 0
      · rw [if_pos h2] at h
        have hk : (wid f r).1 + 1 = (k : Int) := by simpa using h
        have hbd := wid_bd f r h2
        obtain ⟨m, hm⟩ := Int.eq_ofNat_of_zero_le (show 0 ≤ (wid f r).1 by omega)
        obtain ⟨x, c, e1, e2, e3, e4, e5, e6⟩ := wid_form f r m (Prod.ext hm h2)
        have hkm : k = m + 1 := by omega
        subst hkm
        refine ⟨b :: x, c, by simp; omega, by rw [List.take_succ_cons, e2]; rfl, e3, ?_, by omega, by simp; omega⟩
        intro y hy
        rcases List.mem_cons.1 hy with rfl | hy
        · exact hb
        · exact e4 y hy
      · rw [if_neg h2] at h
        simp at h
        exact absurd h.2 h2
theorem numF_of : ∀ (f : Nat) (x : List Int) (b : Int), x.length ≤ f → 0 ≤ b → b < 128 → (∀ y ∈ x, 128 ≤ y ∧ y ≤ 255) → (x ≠ [] → b ≠ 0) → numF f (valB (x ++ [b])) = x ++ [b] ∧ (b ≠ 0 → 1 ≤ valB (x ++ [b]))
  | f, [], b, _, h0, h1, _, _ => by
    have e : valB ([] ++ [b]) = b := by simp [valB]; omega
    rw [e]
    exact ⟨numF_small f b h1, fun h => by omega⟩
  | 0, y :: x, b, h, _, _, _, _ => by simp at h
  | f + 1, y :: x, b, h, h0, h1, hy, hb => by
    have hb0 : b ≠ 0 := hb (by simp)
    obtain ⟨ih1, ih2⟩ := numF_of f x b (by simpa using h) h0 h1 (fun z hz => hy z (List.mem_cons_of_mem _ hz)) (fun _ => hb0)
    have hv := ih2 hb0
    have hyb := hy y (List.mem_cons_self ..)
    have e : valB (y :: x ++ [b]) = valB (x ++ [b]) * 128 + y % 128 := rfl
    have hm : y % 128 = y - 128 := by omega
    rw [e, numF_succ, if_neg (by omega)]
    have e1 : (valB (x ++ [b]) * 128 + y % 128) % 128 + 128 = y := by omega
    have e2 : (valB (x ++ [b]) * 128 + y % 128) / 128 = valB (x ++ [b]) := by omega
    rw [e1, e2, ih1]
    exact ⟨rfl, fun _ => by omega⟩
theorem valB_top : ∀ (x : List Int) (b : Int), 0 ≤ b → b < 128 → valB (x ++ [b]) < (b + 1) * 128 ^ x.length
  | [], b, h0, h1 => by simp [valB]; omega
  | y :: x, b, h0, h1 => by
    have ih := valB_top x b h0 h1
    have e : valB (y :: x ++ [b]) = valB (x ++ [b]) * 128 + y % 128 := rfl
    have h2 := Int.emod_lt_of_pos y (show (0 : Int) < 128 by decide)
    have e3 : (b + 1) * 128 ^ (y :: x).length = ((b + 1) * 128 ^ x.length) * 128 := by rw [List.length_cons, Int.pow_succ, Int.mul_assoc]
    rw [e, e3]
    omega
theorem getN_inv (bs : List Int) (hx : ∀ j, 0 ≤ bs.getD j 0 ∧ bs.getD j 0 ≤ 255) (at_ : Int) (h : (getN bs at_).2.2 = 0) :
    Eats bs at_ (numB (getN bs at_).1) (getN bs at_).2.1 ∧ 0 ≤ (getN bs at_).1 ∧ (getN bs at_).1 ≤ 2147483647 := by
  have hbd := getN_bd bs at_ h
  unfold getN at h hbd ⊢
  by_cases h0 : at_ < 0 ∨ (bs.length : Int) < at_
  · rw [if_pos h0] at h; simp at h
  · rw [if_neg h0] at h hbd ⊢
    simp only at h hbd ⊢
    obtain ⟨r, hr⟩ : ∃ r, r = bs.drop at_.toNat := ⟨_, rfl⟩
    rw [← hr] at h hbd ⊢
    by_cases h1 : (wid 5 r).2 ≠ 0
    · rw [if_pos h1] at h; exact absurd h h1
    · rw [if_neg h1] at h hbd ⊢
      by_cases h2 : canonB (r.take (wid 5 r).1.toNat) = true
      · rw [if_pos h2] at hbd ⊢
        simp only at hbd ⊢
        have hw2 : (wid 5 r).2 = 0 := by simpa using h1
        have hwb := wid_bd 5 r hw2
        obtain ⟨k, hk⟩ := Int.eq_ofNat_of_zero_le (show 0 ≤ (wid 5 r).1 by omega)
        obtain ⟨x, b, e1, e2, e3, e4, e5, e6⟩ := wid_form 5 r k (Prod.ext hk hw2)
        have hkn : (wid 5 r).1.toNat = k := by omega
        rw [hkn] at h2 hbd ⊢
        rw [e2] at h2 hbd ⊢
        have hmem : ∀ y ∈ x ++ [b], 0 ≤ y ∧ y ≤ 255 := by
          intro y hy
          rw [← e2] at hy
          obtain ⟨i, hi, rfl⟩ := List.getElem_of_mem hy
          have hi' : i < k := by rw [List.length_take] at hi; omega
          have := hx (at_.toNat + i)
          have e7 : (r.take k)[i] = bs.getD (at_.toNat + i) 0 := by
            have hlt : at_.toNat + i < bs.length := by rw [hr, List.length_drop] at e6; omega
            subst hr
            simp [List.getD, hlt]
          rw [e7]; exact this
        have hb0 := (hmem b (by simp)).1
        have hl : (x ++ [b]).length = k := by simp; omega
        have hlast : (x ++ [b]).getD ((x ++ [b]).length - 1) 0 = b := by simp [List.getD]
        unfold canonB at h2
        rw [hlast] at h2
        simp at h2
        have hnum : numF 4 (valB (x ++ [b])) = x ++ [b] := (numF_of 4 x b (by omega) hb0 e3 (fun y hy => ⟨by have := e4 y hy; omega, (hmem y (by simp [hy])).2⟩) (fun hne hbz => by
          have h3 := h2.1
          rcases h3 with h3 | h3
          · exact hne h3
          · exact h3 hbz)).1
        have hnB : numB (valB (x ++ [b])) = x ++ [b] := hnum
        rw [hnB]
        refine ⟨?_, hbd.1, ?_⟩
        · have := Eats.of_take (bs := bs) (x := x ++ [b]) (a := at_) (by omega) (by rw [hl]; omega) (by rw [hl, ← hr]; exact e2)
          rw [hl] at this
          rw [hk]
          exact this
        · have ht := valB_top x b hb0 e3
          have hxl : x.length ≤ 4 := by omega
          have hcase : ∀ n : Nat, n ≤ 4 → x.length = n → valB (x ++ [b]) ≤ 2147483647 := by
            intro n hn hxn
            rw [hxn] at ht
            match n, hn, hxn with
            | 0, _, _ => simp at ht; omega
            | 1, _, _ => simp at ht; omega
            | 2, _, _ => simp at ht; omega
            | 3, _, _ => simp at ht; omega
            | 4, _, hxn =>
              have h4 := h2.2
              simp at ht
              rcases h4 with h4 | h4 <;> omega
          exact hcase x.length hxl rfl
      · rw [if_neg h2] at h; simp at h
theorem zig_zag (n : Int) (h : 0 ≤ n) : zig (zag n) = n := by
  unfold zag
  split
  · unfold zig; split <;> omega
  · unfold zig; split <;> omega
theorem getSp_inv (bs : List Int) (hx : ∀ j, 0 ≤ bs.getD j 0 ∧ bs.getD j 0 ≤ 255) (at_ b r : Int) (h : (getSp bs at_ b r).2.2.2 = 0) :
    Eats bs at_ (numB (zig ((getSp bs at_ b r).1 - b)) ++ numB (getSp bs at_ b r).2.1) (getSp bs at_ b r).2.2.1 ∧ isV (getSp bs at_ b r).1 = true ∧ (getSp bs at_ b r).1 ≠ b ∧ 1 ≤ (getSp bs at_ b r).2.1 ∧ (getSp bs at_ b r).2.1 ≤ r := by
  unfold getSp at h ⊢
  simp only at h ⊢
  by_cases h1 : (getN bs at_).2.2 ≠ 0
  · rw [if_pos h1] at h; exact absurd h h1
  · rw [if_neg h1] at h ⊢
    by_cases h2 : (getN bs at_).1 = 0 ∨ isV (b + zag (getN bs at_).1) = false
    · rw [if_pos h2] at h; simp at h
    · rw [if_neg h2] at h ⊢
      by_cases h3 : (getN bs (getN bs at_).2.1).2.2 ≠ 0
      · rw [if_pos h3] at h; exact absurd h h3
      · rw [if_neg h3] at h ⊢
        by_cases h4 : (getN bs (getN bs at_).2.1).1 = 0 ∨ r < (getN bs (getN bs at_).2.1).1
        · rw [if_pos h4] at h; simp at h
        · rw [if_neg h4]
          obtain ⟨g1, g2, g3⟩ := getN_inv bs hx at_ (by simpa using h1)
          obtain ⟨k1, k2, k3⟩ := getN_inv bs hx _ (by simpa using h3)
          simp only
          have e : b + zag (getN bs at_).1 - b = zag (getN bs at_).1 := by omega
          rw [e, zig_zag _ g2]
          refine ⟨g1.trans k1, by simpa using fun e => h2 (.inr e), ?_, by omega, by omega⟩
          intro hz
          have : zag (getN bs at_).1 = 0 := by omega
          have h5 := zig_zag _ g2
          rw [this] at h5
          simp [zig] at h5
          exact h2 (.inl h5.symm)
theorem getTF_inv (bs : List Int) (hx : ∀ j, 0 ≤ bs.getD j 0 ∧ bs.getD j 0 ≤ 255) : ∀ (f : Nat) (acc : List (Int × Int)) (at_ b r : Int), 0 ≤ at_ → at_ ≤ bs.length → 0 ≤ r → (getTF bs f acc at_ b r).2.2 = 0 →
    ∃ l, (getTF bs f acc at_ b r).1 = acc ++ l ∧ Eats bs at_ (putS l b) (getTF bs f acc at_ b r).2.1 ∧ wfN l b ∧ sumS l ≤ r ∧ acc ++ l ≠ []
  | 0, acc, at_, b, r, _, _, _, h => by simp [getTF] at h
  | f + 1, acc, at_, b, r, h0, h1, hr, h => by
    rw [getTF_succ] at h ⊢
    by_cases he : acc ≠ [] ∧ endB bs at_ = true
    · rw [if_pos he]
      refine ⟨[], by simp, ?_, trivial, by simpa [sumS] using hr, by simpa using he.1⟩
      have hb := he.2
      unfold endB at hb
      rw [Bool.and_eq_true] at hb
      obtain ⟨hb1, hb2⟩ := hb
      have hb1 := of_decide_eq_true hb1
      have hlt : at_.toNat < bs.length := by omega
      have hz : bs.getD at_.toNat 0 = 0 := by simpa using hb2
      show Eats bs at_ [0] (at_ + 1)
      have := Eats.of_take (bs := bs) (x := [0]) (a := at_) h0 (by simp; omega) (by
        rw [List.drop_eq_getElem_cons hlt]
        simp [List.getD, hlt] at hz
        simp [hz])
      simpa using this
    · rw [if_neg he] at h ⊢
      by_cases hs : (getSp bs at_ b r).2.2.2 ≠ 0
      · rw [if_pos hs] at h; exact absurd h hs
      · rw [if_neg hs] at h ⊢
        have hs0 : (getSp bs at_ b r).2.2.2 = 0 := by simpa using hs
        obtain ⟨g1, g2, g3, g4, g5⟩ := getSp_inv bs hx at_ b r hs0
        obtain ⟨l, e1, e2, e3, e4, e5⟩ := getTF_inv bs hx f _ (getSp bs at_ b r).2.2.1 (getSp bs at_ b r).1 (r - (getSp bs at_ b r).2.1) (by have := g1.2.1; have := g1.1; omega) g1.2.2.1 (by omega) h
        refine ⟨((getSp bs at_ b r).1, (getSp bs at_ b r).2.1) :: l, by rw [e1]; simp, ?_, ⟨g2, g3, g4, e3⟩, by simp only [sumS]; omega, by simp⟩
        have := g1.trans e2
        simpa [putS] using this
theorem getT_inv (bs : List Int) (hx : ∀ j, 0 ≤ bs.getD j 0 ∧ bs.getD j 0 ≤ 255) (at_ : Int) (h : (getT bs at_).2.2 = 0) : Eats bs at_ (putS (getT bs at_).1 (-1)) (getT bs at_).2.1 ∧ wfT (getT bs at_).1 = true := by
  unfold getT at h ⊢
  by_cases h0 : at_ < 0 ∨ (bs.length : Int) < at_
  · rw [if_pos h0] at h; simp at h
  · rw [if_neg h0] at h ⊢
    obtain ⟨l, e1, e2, e3, e4, e5⟩ := getTF_inv bs hx 1001 [] at_ (-1) 1000 (by omega) (by omega) (by omega) h
    have e : ([] : List (Int × Int)) ++ l = l := rfl
    rw [e] at e1 e5
    rw [e1]
    exact ⟨e2, (wfT_iff l).2 ⟨⟨e3, e4⟩, e5⟩⟩
end Go.Proofs.YtffnfjkjlmlonaaGreatDoor
