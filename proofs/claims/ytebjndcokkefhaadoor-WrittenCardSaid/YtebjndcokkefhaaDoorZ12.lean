/- Contracts of the developers' reader of images: take, number, table, bytes: plain functions of where the reader is; nothing is written but the reader's own box. Contracts of the developers' reader of images: text and file. -/
import Derived.Test.YtebjndcokkefhaaDoorI1
import Derived.Deep.RegionWith
import Derived.Test.YtebjndcokkefhaaDoorZ10
namespace Go.Proofs.YtebjndcokkefhaaDoor
open Go.RowKit

/-- The reader's box. -/
def rdA (b : Value) (s : RsD) (nv fv : Value) : Array Value := #[b, .int .i64 s.at_, .int .i64 s.to_, .int .i64 s.e, nv, fv, .int .i64 s.room]

/-- Nothing that was there is written but the block rb. -/
structure OnlyR (rb : Nat) (w w' : World) : Prop where
  os : w'.os = w.os
  tape : w'.tape = w.tape
  output : w'.output = w.output
  size : w.heap.size ≤ w'.heap.size
  block : ∀ k, k < w.heap.size → k ≠ rb → w'.heap[k]? = w.heap[k]?
theorem OnlyR.refl (rb : Nat) (w : World) : OnlyR rb w w := ⟨rfl, rfl, rfl, Nat.le_refl _, fun _ _ _ => rfl⟩
theorem OnlyR.trans {rb : Nat} {a b c : World} (h : OnlyR rb a b) (k : OnlyR rb b c) : OnlyR rb a c :=
  ⟨k.os.trans h.os, k.tape.trans h.tape, k.output.trans h.output, Nat.le_trans h.size k.size, fun i hi hn => (k.block i (Nat.lt_of_lt_of_le hi h.size) hn).trans (h.block i hi hn)⟩
theorem OnlyR.below {rb : Nat} {w w' : World} (h : Below w.heap.size w w') : OnlyR rb w w' := ⟨h.os, h.tape, h.output, h.size, fun k hk _ => h.block k hk⟩
theorem OnlyR.drew {rb : Nat} {a w : World} (h : OnlyR rb a w) : OnlyR rb a w.drew := ⟨h.os, h.tape, h.output, h.size, h.block⟩
theorem OnlyR.drewN {rb : Nat} {a w : World} (h : OnlyR rb a w) (n : Nat) : OnlyR rb a (w.drewN n) := h.trans ⟨rfl, rfl, rfl, Nat.le_refl _, fun _ _ _ => rfl⟩
theorem OnlyR.setCell {rb : Nat} {a w : World} (h : OnlyR rb a w) (j : Nat) (u : Value) : OnlyR rb a (w.setCell ⟨rb, j, none⟩ u) :=
  h.trans ⟨rfl, rfl, rfl, by simp [World.setCell], fun k _ hn => Below.heap_setCell _ _ _ _ hn⟩
theorem OnlyR.toBelow {rb B : Nat} {w w' : World} (h : OnlyR rb w w') (hB : B ≤ rb) (hw : rb < w.heap.size) : Below B w w' :=
  ⟨h.os, h.tape, h.output, h.size, fun k hk => h.block k (by omega) (by omega)⟩
theorem OnlyR.cell {rb : Nat} {w w' : World} (h : OnlyR rb w w') {q : Addr} {u : Value} (hq : q.block ≠ rb) (hc : w.cell? q = some u) : w'.cell? q = some u := by
  have hlt := World.block_lt_of_cell? w _ hc
  exact (World.cell?_of_block (w := w) (h.block q.block hlt hq)).trans hc
theorem Rd.only {k : IntKind} {rb : Nat} {w w' : World} {a : Option Addr} {len cap : Nat} {zs : List Int} (h : Rd k w a len cap zs) (ho : OnlyR rb w w') (hn : ∀ q, a = some q → q.block ≠ rb) : Rd k w' a len cap zs := by
  refine ⟨h.hlen, h.hcap, h.hmax, fun i hi => ?_⟩
  obtain ⟨b, off, e, hc⟩ := h.cell i hi
  exact ⟨b, off, e, ho.cell (q := ⟨b, off + i, none⟩) (show b ≠ rb from hn _ e) hc⟩

set_option maxHeartbeats 1000000 in
set_option maxRecDepth 100000 in
theorem take_any (rb : Nat) (b nv fv : Value) (s : RsD) (m : Bool) (w : World) (hk : w.heap[rb]? = some (.cells (rdA b s nv fv) 96 (0, 0))) :
    Calls Tryd.prog 42 #[.pointer (some ⟨rb, 0, none⟩), .bool m] w fun e w' => e = .returned (.tuple #[]) ∧ OnlyR rb w w' ∧ w'.heap[rb]? = some (.cells (rdA b (rTake s m) nv fv) 96 (0, 0)) := by
  unfold rdA at hk
  have c1 : w.cell? ⟨rb, 1, none⟩ = some (.int .i64 s.at_) := by simp [World.cell?, hk]
  have c2 : w.cell? ⟨rb, 2, none⟩ = some (.int .i64 s.to_) := by simp [World.cell?, hk]
  have c3 : w.cell? ⟨rb, 3, none⟩ = some (.int .i64 s.e) := by simp [World.cell?, hk]
  have f1 : w.frozen? ⟨rb, 1, none⟩ = false := by simp [World.frozen?, hk]
  have f3 : w.frozen? ⟨rb, 3, none⟩ = false := by simp [World.frozen?, hk]
  by_cases he : s.e = 0
  · have he' : (s.e != 0) = false := by simpa using he
    cases m with
    | true =>
      have HF : Hid (OnlyR rb w (w.setCell ⟨rb, 1, none⟩ (.int .i64 s.to_)) ∧ (w.setCell ⟨rb, 1, none⟩ (.int .i64 s.to_)).heap[rb]? = some (.cells (rdA b (rTake s true) nv fv) 96 (0, 0))) := by
        refine ⟨(OnlyR.refl _ _).setCell _ _, ?_⟩
        rw [heap_setCell_same w rb 1 _ _ _ hk]
        unfold rTake
        rw [if_neg (by simpa using he)]
        rfl
      clear hk he
      go_enter Tryd.func42, Tryd.ntmps42
      go_wp2
      exact bodyPost_end (v := .tuple #[]) (results_none Tryd.results42 _ _ _) rfl ⟨rfl, HF.out⟩
    | false =>
      have HF : Hid (OnlyR rb w (w.setCell ⟨rb, 3, none⟩ (.int .i64 8)) ∧ (w.setCell ⟨rb, 3, none⟩ (.int .i64 8)).heap[rb]? = some (.cells (rdA b (rTake s false) nv fv) 96 (0, 0))) := by
        refine ⟨(OnlyR.refl _ _).setCell _ _, ?_⟩
        rw [heap_setCell_same w rb 3 _ _ _ hk]
        unfold rTake
        rw [if_neg (by simpa using he)]
        rfl
      clear hk he
      go_enter Tryd.func42, Tryd.ntmps42
      go_wp2
      exact bodyPost_ret (v := .tuple #[]) (by simp [results, Tryd.results42, go_sem]) rfl ⟨rfl, HF.out⟩
  · have he' : (s.e != 0) = true := by simpa using he
    have HF : Hid (w.heap[rb]? = some (.cells (rdA b (rTake s m) nv fv) 96 (0, 0))) := by
      show _ = _
      unfold rTake
      rw [if_pos he]
      exact hk
    clear hk he
    go_enter Tryd.func42, Tryd.ntmps42
    go_wp2
    exact bodyPost_ret (v := .tuple #[]) (by simp [results, Tryd.results42, go_sem]) rfl ⟨rfl, OnlyR.refl _ _, HF.out⟩

set_option maxHeartbeats 1000000 in
set_option maxRecDepth 100000 in
theorem rnumber_any (rb : Nat) (ba : Option Addr) (blen bcap : Nat) (bs : List Int) (nv fv : Value) (s : RsD) (w : World) (hk : w.heap[rb]? = some (.cells (rdA (.slice ba blen bcap) s nv fv) 96 (0, 0))) (hb : Rd .u8 w ba blen bcap bs) (hx : ∀ j, 0 ≤ bs.getD j 0 ∧ bs.getD j 0 ≤ 255) :
    Calls Tryd.prog 41 #[.pointer (some ⟨rb, 0, none⟩)] w fun e w' => e = .returned (.int .i64 (rNum bs s).1) ∧ OnlyR rb w w' ∧ w'.heap[rb]? = some (.cells (rdA (.slice ba blen bcap) (rNum bs s).2 nv fv) 96 (0, 0)) := by
  unfold rdA at hk
  have c0 : w.cell? ⟨rb, 0, none⟩ = some (.slice ba blen bcap) := by simp [World.cell?, hk]
  have c1 : w.cell? ⟨rb, 1, none⟩ = some (.int .i64 s.at_) := by simp [World.cell?, hk]
  have c2 : w.cell? ⟨rb, 2, none⟩ = some (.int .i64 s.to_) := by simp [World.cell?, hk]
  have c3 : w.cell? ⟨rb, 3, none⟩ = some (.int .i64 s.e) := by simp [World.cell?, hk]
  have f2 : w.frozen? ⟨rb, 2, none⟩ = false := by simp [World.frozen?, hk]
  have f3 : w.frozen? ⟨rb, 3, none⟩ = false := by simp [World.frozen?, hk]
  by_cases he : s.e = 0
  · have he' : (s.e != 0) = false := by simpa using he
    have HG := hid (fun (W : World) (h : Rd .u8 W ba blen bcap bs) => get_any ba blen bcap bs s.at_ W h hx)
    have HB := hid (hb.below (Below.refl _ w).drew (Nat.le_refl _))
    obtain ⟨⟨n, to, er⟩, hg⟩ : ∃ p, getN bs s.at_ = p := ⟨_, rfl⟩
    rw [hg] at HG
    have hn : rNum bs s = (n, { s with to_ := to, e := er }) := by unfold rNum; rw [if_neg (by simpa using he), hg]
    rw [hn]
    have k1 := heap_setCell_same w rb 2 _ _ (.int .i64 to) hk
    have k2 := heap_setCell_same _ rb 3 _ _ (.int .i64 er) k1
    have HK := hid k2
    clear hk he hb hg hn k1 k2
    go_enter Tryd.func41, Tryd.ntmps41
    go_wp2
    go_region_with (go_at_call 67; refine (HG.out _ HB.out).mono ?_; rintro e w' ⟨rfl, rfl⟩)
    all_goals
      go_wp2
      go_ret
      exact ⟨rfl, (((OnlyR.refl _ _).drewN _).setCell _ _).setCell _ _, HK.out⟩
  · have he' : (s.e != 0) = true := by simpa using he
    have hn : rNum bs s = (0, s) := by unfold rNum; rw [if_pos he]
    rw [hn]
    have HK := hid hk
    clear hk he hn hb
    go_enter Tryd.func41, Tryd.ntmps41
    go_wp2
    go_ret
    exact ⟨rfl, OnlyR.refl _ _, HK.out⟩

set_option maxHeartbeats 1000000 in
set_option maxRecDepth 100000 in
theorem rtable_any (rb : Nat) (ba : Option Addr) (blen bcap : Nat) (bs : List Int) (nv fv : Value) (s : RsD) (w : World) (hk : w.heap[rb]? = some (.cells (rdA (.slice ba blen bcap) s nv fv) 96 (0, 0))) (hb : Rd .u8 w ba blen bcap bs) (hx : ∀ j, 0 ≤ bs.getD j 0 ∧ bs.getD j 0 ≤ 255) :
    Calls Tryd.prog 70 #[.pointer (some ⟨rb, 0, none⟩)] w fun e w' => ∃ v, e = .returned v ∧ OnlyR rb w w' ∧ w'.heap[rb]? = some (.cells (rdA (.slice ba blen bcap) (rTab bs s).2 nv fv) 96 (0, 0)) ∧ w'.ownsRow w.heap.size 90 2 v (rTab bs s).1.length (flat (rTab bs s).1) := by
  unfold rdA at hk
  have hrb := (Array.getElem?_eq_some_iff.1 hk).1
  have c0 : w.cell? ⟨rb, 0, none⟩ = some (.slice ba blen bcap) := by simp [World.cell?, hk]
  have c1 : w.cell? ⟨rb, 1, none⟩ = some (.int .i64 s.at_) := by simp [World.cell?, hk]
  have c2 : w.cell? ⟨rb, 2, none⟩ = some (.int .i64 s.to_) := by simp [World.cell?, hk]
  have c3 : w.cell? ⟨rb, 3, none⟩ = some (.int .i64 s.e) := by simp [World.cell?, hk]
  by_cases he : s.e = 0
  · have he' : (s.e != 0) = false := by simpa using he
    have HG := hid (tget_any ba blen bcap bs s.at_ w.drew (hb.below (Below.refl _ w).drew (Nat.le_refl _)) hx)
    obtain ⟨⟨l, to, er⟩, hg⟩ : ∃ p, getT bs s.at_ = p := ⟨_, rfl⟩
    rw [hg] at HG
    have hn : rTab bs s = (l, { s with to_ := to, e := er }) := by unfold rTab; rw [if_neg (by simpa using he), hg]
    rw [hn]
    have HK0 := hid hk
    clear hk he hb hg hn
    go_enter Tryd.func70, Tryd.ntmps70
    go_wp2
    go_region_with (go_at_call 95; refine HG.out.mono ?_; rintro e w1 ⟨v, rfl, hown, hbel⟩)
    all_goals
      have hk1 := (hbel.block rb hrb).trans HK0.out
      have d2 : w1.cell? ⟨rb, 2, none⟩ = some (.int .i64 s.to_) := by simp [World.cell?, hk1]
      have d3 : w1.cell? ⟨rb, 3, none⟩ = some (.int .i64 s.e) := by simp [World.cell?, hk1]
      have f2 : w1.frozen? ⟨rb, 2, none⟩ = false := by simp [World.frozen?, hk1]
      have f3 : w1.frozen? ⟨rb, 3, none⟩ = false := by simp [World.frozen?, hk1]
      have hvr : v.ownBlock ≠ some rb := fun e => by have := (hown.lt rb e).1; exact absurd hrb (Nat.not_lt.2 this)
      have k2 := heap_setCell_same _ rb 3 _ _ (.int .i64 er) (heap_setCell_same w1 rb 2 _ _ (.int .i64 to) hk1)
      have HF : Hid (OnlyR rb w ((w1.setCell ⟨rb, 2, none⟩ (.int .i64 to)).setCell ⟨rb, 3, none⟩ (.int .i64 er)) ∧ ((w1.setCell ⟨rb, 2, none⟩ (.int .i64 to)).setCell ⟨rb, 3, none⟩ (.int .i64 er)).heap[rb]? = some (.cells (rdA (.slice ba blen bcap) { s with to_ := to, e := er } nv fv) 96 (0, 0)) ∧ ((w1.setCell ⟨rb, 2, none⟩ (.int .i64 to)).setCell ⟨rb, 3, none⟩ (.int .i64 er)).ownsRow w.heap.size 90 2 v l.length (flat l)) :=
        ⟨((OnlyR.below (w := w) ⟨hbel.os, hbel.tape, hbel.output, hbel.size, hbel.block⟩).setCell _ _).setCell _ _, k2, ownsRow_setCell_other (ownsRow_setCell_other hown hvr _) hvr _⟩
      clear hown hbel hk1 k2 hvr
      go_wp2
      go_ret
      exact ⟨_, rfl, HF.out⟩
  · have he' : (s.e != 0) = true := by simpa using he
    have hn : rTab bs s = ([], s) := by unfold rTab; rw [if_pos he]
    rw [hn]
    have HK := hid hk
    clear hk he hn hb
    go_enter Tryd.func70, Tryd.ntmps70
    go_wp2
    go_ret
    exact ⟨_, rfl, OnlyR.refl _ _, HK.out, World.ownsRow_nil _ _ _ _⟩

set_option maxHeartbeats 1000000 in
set_option maxRecDepth 100000 in
theorem rbytes_any (rb : Nat) (ba : Option Addr) (blen bcap : Nat) (bs : List Int) (nv fv : Value) (s : RsD) (n : Int) (w : World) (hk : w.heap[rb]? = some (.cells (rdA (.slice ba blen bcap) s nv fv) 96 (0, 0))) (hb : Rd .u8 w ba blen bcap bs) (hne : ∀ q, ba = some q → q.block ≠ rb)
    (h0 : 0 ≤ s.at_) (h1 : s.at_ ≤ bs.length) (hn : s.e = 0 → 1 ≤ n ∧ n ≤ 20) :
    Calls Tryd.prog 94 #[.pointer (some ⟨rb, 0, none⟩), .int .i64 n] w fun e w' => e = .returned (.string (rByt bs s n).1) ∧ OnlyR rb w w' ∧ w'.heap[rb]? = some (.cells (rdA (.slice ba blen bcap) (rByt bs s n).2 nv fv) 96 (0, 0)) := by
  unfold rdA at hk
  have HL := hid hb.hlen
  have hmax := hb.hmax
  have hcap := hb.hcap
  unfold maxLen at hmax
  rw [HL.out] at h1
  have c0 : w.cell? ⟨rb, 0, none⟩ = some (.slice ba blen bcap) := by simp [World.cell?, hk]
  have c1 : w.cell? ⟨rb, 1, none⟩ = some (.int .i64 s.at_) := by simp [World.cell?, hk]
  have c2 : w.cell? ⟨rb, 2, none⟩ = some (.int .i64 s.to_) := by simp [World.cell?, hk]
  have c3 : w.cell? ⟨rb, 3, none⟩ = some (.int .i64 s.e) := by simp [World.cell?, hk]
  have f2 : w.frozen? ⟨rb, 2, none⟩ = false := by simp [World.frozen?, hk]
  have f3 : w.frozen? ⟨rb, 3, none⟩ = false := by simp [World.frozen?, hk]
  by_cases he : s.e = 0
  · have he' : (s.e != 0) = false := by simpa using he
    obtain ⟨hn1, hn2⟩ := hn he
    by_cases hl : (blen : Int) - s.at_ < n
    · have hr : rByt bs s n = (ByteArray.empty, { s with e := 2 }) := by unfold rByt; rw [if_neg (by simpa using he), HL.out, if_pos hl]
      rw [hr]
      have HK := hid (heap_setCell_same w rb 3 _ _ (.int .i64 2) hk)
      clear hk he hb hr hn
      go_enter Tryd.func94, Tryd.ntmps94
      go_wp2
      go_region
      all_goals
        go_wp2
        go_ret
        exact ⟨rfl, ((OnlyR.refl _ _).drewN _).setCell _ _, HK.out⟩
    · have hl' : decide ((blen : Int) - s.at_ < n) = false := by simpa using hl
      have hr : rByt bs s n = (strOfNums ((bs.drop s.at_.toNat).take n.toNat), { s with to_ := s.at_ + n }) := by unfold rByt; rw [if_neg (by simpa using he), HL.out, if_neg hl]
      rw [hr]
      obtain ⟨A, hA⟩ := Int.eq_ofNat_of_zero_le h0
      obtain ⟨N, rfl⟩ := Int.eq_ofNat_of_zero_le (show 0 ≤ n by omega)
      rw [hA] at c1 hl hl' h1 hk ⊢
      have hAN : A + N ≤ blen := by omega
      obtain ⟨b, off, rfl, hc⟩ := hb.open (by omega)
      have hbr : b ≠ rb := hne _ rfl
      have k1 := heap_setCell_same w rb 2 _ _ (.int .i64 ((A : Int) + N)) hk
      have HK := hid k1
      have hcell : ∀ i, i < A + N - A → ((w.setCell ⟨rb, 2, none⟩ (.int .i64 ((A : Int) + N))).drew.drew).cell? ⟨b, off + A + i, none⟩ = some (.int .u8 (((bs.drop A).take N).getD i 0)) := by
        intro i hi
        have h2 := hc (A + i) (by omega)
        have h3 := (((OnlyR.refl rb w).setCell 2 (.int .i64 ((A : Int) + N))).drew.drew).cell (q := ⟨b, off + (A + i), none⟩) hbr h2
        rw [show off + A + i = off + (A + i) by omega, h3]
        have : bs.getD (A + i) 0 = ((bs.drop A).take N).getD i 0 := by simp [List.getD, show i < N by omega]
        rw [this]
      have hcv := run_convert_bytes_arg (P := Tryd.prog) ((w.setCell ⟨rb, 2, none⟩ (.int .i64 ((A : Int) + N))).drew.drew) 26 5 Tryd.underlying26 Tryd.underlying5 b (off + A) (A + N - A) (bcap - A) ((bs.drop A).take N) (by rw [List.length_take, List.length_drop, HL.out]; omega) hcell 9 Tryd.underlying9
      have eAN : A + N - A = N := by omega
      have hcv2 := hcv
      rw [eAN] at hcv2
      have eA : ((A : Int)).toNat = A := by omega
      have eN : ((N : Int)).toNat = N := by omega
      rw [eA, eN]
      generalize strOfNums ((bs.drop A).take N) = str at *
      have hcA : ¬ bcap = A := by omega
      clear hk he hb hr hn hc hcell k1 eA eN h0 hA eAN
      go_enter Tryd.func94, Tryd.ntmps94
      go_wp2
      go_region
      all_goals
        go_wp2
        go_region
      all_goals
        go_wp2
        go_ret
        exact ⟨rfl, (((OnlyR.refl _ _).drewN _).setCell _ _).drewN _, HK.out⟩
  · have he' : (s.e != 0) = true := by simpa using he
    have hr : rByt bs s n = (ByteArray.empty, s) := by unfold rByt; rw [if_pos he]
    rw [hr]
    have HK := hid hk
    clear hk he hb hr hn
    go_enter Tryd.func94, Tryd.ntmps94
    go_wp2
    go_ret
    exact ⟨rfl, OnlyR.refl _ _, HK.out⟩
end Go.Proofs.YtebjndcokkefhaaDoor
namespace Go.Proofs.YtebjndcokkefhaaDoor
open Go.RowKit

theorem RdT.only {rb : Nat} {w w' : World} {a : Option Addr} {len cap : Nat} {l : List ByteArray} (h : RdT w a len cap l) (ho : OnlyR rb w w') (hn : ∀ q, a = some q → q.block ≠ rb) : RdT w' a len cap l := by
  obtain ⟨h1, h2, h3, h4⟩ := h
  refine ⟨h1, h2, h3, fun i x hx => ?_⟩
  obtain ⟨b, off, cs, e, hl, hc, hr⟩ := h4 i x hx
  refine ⟨b, off, cs, e, hl, fun j v hj => ?_, hr⟩
  exact ho.cell (q := ⟨b, off + i * 1 + j, none⟩) (show b ≠ rb from hn _ e) (hc j v hj)

theorem rByt_size {bs : List Int} {s : RsD} {n : Int} (h : s.e = 0 → 1 ≤ n ∧ n ≤ 20) : (rByt bs s n).1.size ≤ 20 := by
  unfold rByt
  by_cases he : s.e ≠ 0
  · rw [if_pos he]; simp
  · rw [if_neg he]
    have := h (by simpa using he)
    split
    · simp
    · simp only
      rw [strOfNums_size, List.length_take]
      omega

theorem OnlyR.lt {rb : Nat} {w : World} {a : Array Value} {t : TypeId} {fz : Nat × Nat} (h : w.heap[rb]? = some (.cells a t fz)) : rb < w.heap.size := (Array.getElem?_eq_some_iff.1 h).1

set_option maxHeartbeats 1000000 in
set_option maxRecDepth 100000 in
theorem rtext_any (rb : Nat) (ba : Option Addr) (blen bcap : Nat) (bs : List Int) (nv fv : Value) (s : RsD) (ta : Option Addr) (tlen tcap : Nat) (l : List ByteArray) (w : World) (hk : w.heap[rb]? = some (.cells (rdA (.slice ba blen bcap) s nv fv) 96 (0, 0))) (hb : Rd .u8 w ba blen bcap bs) (hne : ∀ q, ba = some q → q.block ≠ rb)
    (hx : ∀ j, 0 ≤ bs.getD j 0 ∧ bs.getD j 0 ≤ 255) (hi : InvR bs s) (ht : RdT w ta tlen tcap l) (htn : ∀ q, ta = some q → q.block ≠ rb) :
    Calls Tryd.prog 68 #[.pointer (some ⟨rb, 0, none⟩), .slice ta tlen tcap] w fun e w' => e = .returned (.string (rText bs s l).1) ∧ OnlyR rb w w' ∧ w'.heap[rb]? = some (.cells (rdA (.slice ba blen bcap) (rText bs s l).2 nv fv) 96 (0, 0)) := by
  have h1 := rNum_inv hx hi
  have h2 : InvR bs (rTake (rNum bs s).2 (decide (1 ≤ (rNum bs s).1 ∧ (rNum bs s).1 ≤ 20))) := rTake_inv h1.1 _
  have h3 : (rTake (rNum bs s).2 (decide (1 ≤ (rNum bs s).1 ∧ (rNum bs s).1 ≤ 20))).e = 0 → 1 ≤ (rNum bs s).1 ∧ (rNum bs s).1 ≤ 20 := fun h => of_decide_eq_true (rTake_ok h).2.1
  have HN := hid (rnumber_any rb ba blen bcap bs nv fv s w hk hb hx)
  unfold rText
  simp only
  obtain ⟨⟨n, s1⟩, hn⟩ : ∃ p, rNum bs s = p := ⟨_, rfl⟩
  rw [hn] at HN h1 h2 h3 ⊢
  simp only at HN h1 h2 h3 ⊢
  have HT := hid (fun (m : Bool) (W : World) (h : W.heap[rb]? = some (.cells (rdA (.slice ba blen bcap) s1 nv fv) 96 (0, 0))) => take_any rb (.slice ba blen bcap) nv fv s1 m W h)
  have hq : decide (1 ≤ n ∧ n ≤ 20) = (if 1 ≤ n then decide (n ≤ 20) else false) := by split <;> simp [*]
  obtain ⟨s2, hs2⟩ : ∃ p, rTake s1 (decide (1 ≤ n ∧ n ≤ 20)) = p := ⟨_, rfl⟩
  rw [hs2] at h2 h3 ⊢
  have hsz := rByt_size (bs := bs) h3
  obtain ⟨⟨str, s3⟩, hs3⟩ : ∃ p, rByt bs s2 n = p := ⟨_, rfl⟩
  have HBY := hid (fun (W : World) (h : W.heap[rb]? = some (.cells (rdA (.slice ba blen bcap) s2 nv fv) 96 (0, 0))) (hb' : Rd .u8 W ba blen bcap bs) => rbytes_any rb ba blen bcap bs nv fv s2 n W h hb' hne h2.1 h2.2.1 h3)
  rw [hs3] at HBY hsz ⊢
  simp only at HBY hsz ⊢
  have HNW := hid (fun (W : World) (h : RdT W ta tlen tcap l) => isNewWord_any str ta tlen tcap l W h (by unfold maxLen; omega))
  have HT2 := hid (fun (W : World) (h : W.heap[rb]? = some (.cells (rdA (.slice ba blen bcap) s3 nv fv) 96 (0, 0))) => take_any rb (.slice ba blen bcap) nv fv s3 (newB str l) W h)
  have HQ := hid hq
  have HS2 := hid hs2
  have HBB := hid hb
  have HTT := hid ht
  generalize newB str l = nw at *
  clear hk hb hs3 hs2 hq hn ht h1 h2 h3 hsz hi
  by_cases hn1 : 1 ≤ n
  · have HT1 := hid (fun (W : World) h => HT.out (decide (n ≤ 20)) W h)
    have hs2' : rTake s1 (decide (n ≤ 20)) = s2 := by have := HQ.out; rw [if_pos hn1] at this; rw [← this]; exact HS2.out
    rw [hs2'] at HT1
    clear HT hs2' HS2 HQ
    go_enter Tryd.func68, Tryd.ntmps68
    go_wp2_with fail
    refine HN.out.mono ?_
    rintro e w1 ⟨rfl, o1, k1⟩
    go_wp2_with fail
    refine (HT1.out w1 k1).mono ?_
    rintro e w2 ⟨rfl, o2, k2⟩
    go_wp2_with fail
    refine (HBY.out w2 k2 (HBB.out.only (o1.trans o2) hne)).mono ?_
    rintro e w3 ⟨rfl, o3, k3⟩
    go_wp2_with fail
    refine (HNW.out w3 (HTT.out.only ((o1.trans o2).trans o3) htn)).mono ?_
    rintro e w4 ⟨rfl, b4⟩
    go_wp2_with fail
    refine (HT2.out w4 ((b4.block rb (OnlyR.lt k3)).trans k3)).mono ?_
    rintro e w5 ⟨rfl, o5, k5⟩
    go_wp2
    go_ret
    exact ⟨rfl, (((o1.trans o2).trans o3).trans (OnlyR.below b4)).trans o5, k5⟩
  · have hn1' : decide (1 ≤ n) = false := by simpa using hn1
    have HT1 := hid (fun (W : World) h => HT.out false W h)
    have hs2' : rTake s1 false = s2 := by have := HQ.out; rw [if_neg hn1] at this; rw [← this]; exact HS2.out
    rw [hs2'] at HT1
    clear HT hs2' HS2 HQ hn1
    go_enter Tryd.func68, Tryd.ntmps68
    go_wp2_with fail
    refine HN.out.mono ?_
    rintro e w1 ⟨rfl, o1, k1⟩
    go_wp2_with fail
    refine (HT1.out w1 k1).mono ?_
    rintro e w2 ⟨rfl, o2, k2⟩
    go_wp2_with fail
    refine (HBY.out w2 k2 (HBB.out.only (o1.trans o2) hne)).mono ?_
    rintro e w3 ⟨rfl, o3, k3⟩
    go_wp2_with fail
    refine (HNW.out w3 (HTT.out.only ((o1.trans o2).trans o3) htn)).mono ?_
    rintro e w4 ⟨rfl, b4⟩
    go_wp2_with fail
    refine (HT2.out w4 ((b4.block rb (OnlyR.lt k3)).trans k3)).mono ?_
    rintro e w5 ⟨rfl, o5, k5⟩
    go_wp2
    go_ret
    exact ⟨rfl, (((o1.trans o2).trans o3).trans (OnlyR.below b4)).trans o5, k5⟩
end Go.Proofs.YtebjndcokkefhaaDoor
