/- Contracts of the machine's method Step, the developers' own and unfold's; what is kept beside a machine. -/
import Derived.Test.YtooinlilplecpabQ6
namespace Go.Proofs.Ytooinlilplecpab
open Go.RowKit

set_option maxHeartbeats 4000000 in
set_option maxRecDepth 100000 in
theorem mStep_any (p : List FnD) (bud : Int) (mb : Nat) (X : RX) (w0 : World) (s : StandD) (n : Nat) (w : World) (hgd : Good (strip p)) (hw : Wf (strip p) s) (hm : MachAt p bud mb X w0 w s) (hn : n ≤ 2000) :
    Calls Try.prog 15 #[.pointer (some ⟨mb, 0, none⟩), .int .i64 n] w fun e w' => e = .returned (.tuple #[.int .i64 (takenD (strip p) s n : Nat), .int .i64 0]) ∧ MachAt p bud mb X w0 w' (runD (strip p) s n) := by
  have HS := hid (Step_any X w0 (strip p) mb s n w hgd hw hm.run hn)
  have HC := hid hm.codes
  clear hm hgd hw
  go_enter Try.func15, Try.ntmps15
  go_wp2_with fail
  refine HS.out.mono ?_
  clear HS
  rintro e w1 ⟨rfl, hr⟩
  have HR := hid hr
  clear hr
  go_wp2
  exact bodyPost_ret (v := .tuple #[.int .i64 (takenD (strip p) s n : Nat), .int .i64 0]) (by simp [results, Try.results15, go_sem]) rfl ⟨rfl, HR.out, HC.out⟩

set_option maxHeartbeats 4000000 in
set_option maxRecDepth 100000 in
theorem uStep_any (p : List FnD) (bud : Int) (mb : Nat) (X : RX) (w0 : World) (s : StandD) (n : Nat) (w : World) (hgd : Good (strip p)) (hw : Wf (strip p) s) (hm : MachAt p bud mb X w0 w s) (hn : n ≤ 2000) :
    Calls Try.prog 9 #[.pointer (some ⟨mb, 0, none⟩), .int .i64 n] w fun e w' => e = .returned (.tuple #[.int .i64 (takenD (strip p) s n : Nat), .int .i64 0]) ∧ MachAt p bud mb X w0 w' (runD (strip p) s n) := by
  have HS := hid (mStep_any p bud mb X w0 s n w hgd hw hm hn)
  clear hm hgd hw
  go_enter Try.func9, Try.ntmps9
  go_wp2_with fail
  refine HS.out.mono ?_
  clear HS
  rintro e w1 ⟨rfl, hr⟩
  have HR := hid hr
  clear hr
  go_wp2
  exact bodyPost_ret (v := .tuple #[.int .i64 (takenD (strip p) s n : Nat), .int .i64 0]) (by simp [results, Try.results9, go_sem]) rfl ⟨rfl, HR.out⟩

theorem MachAt.below {p : List FnD} {bud : Int} {mb : Nat} {X : RX} {w0 w w' : World} {s : StandD} (h : MachAt p bud mb X w0 w s) (hb : Below w.heap.size w w') : MachAt p bud mb X w0 w' s := ⟨h.run.below hb, h.codes⟩

/-- What came into memory since is kept by the steps to come. -/
def RX.ext (X : RX) (w w' : World) : RX := ⟨X.T, X.ex, fun b => if w.heap.size ≤ b ∧ b < w'.heap.size then w'.heap[b]? else X.K b⟩
theorem RunAt.extend {X : RX} {w0 w w' : World} {P : List FnD} {rb : Nat} {s : StandD} (h : RunAt X w0 P rb w s) (hb : Below w.heap.size w w') : RunAt (X.ext w w') w0 P rb w' s := by
  obtain ⟨pa, pcap, v, h1, h2, h3, h4, h5, h6, h7⟩ := h
  have hrb := (Array.getElem?_eq_some_iff.1 h1).1
  refine ⟨pa, pcap, v, (hb.block rb hrb).trans h1, h2, h3.trans (hb.mono h3.size), h4, ownsRow_below h5 hb, h6, fun b o hk => ?_⟩
  have hk' : (if w.heap.size ≤ b ∧ b < w'.heap.size then w'.heap[b]? else X.K b) = some o := hk
  split at hk'
  · next hc => exact ⟨hk', by omega, fun e => by have := (h5.lt b e).2; omega⟩
  · obtain ⟨q1, q2, q3⟩ := h7 b o hk'
    exact ⟨(hb.block b (Array.getElem?_eq_some_iff.1 q1).1).trans q1, q2, q3⟩
theorem RunAt.shrink {X : RX} {w0 w w' W : World} {P : List FnD} {rb : Nat} {s t : StandD} (h : RunAt X w0 P rb w s) (hW : RunAt (X.ext w w') w0 P rb W t) : RunAt X w0 P rb W t := by
  obtain ⟨_, _, _, _, _, _, _, _, _, hk⟩ := h
  obtain ⟨pa, pcap, v, h1, h2, h3, h4, h5, h6, h7⟩ := hW
  refine ⟨pa, pcap, v, h1, h2, h3, h4, h5, h6, fun b o hb => h7 b o ?_⟩
  have hlt := (Array.getElem?_eq_some_iff.1 (hk b o hb).1).1
  show (if w.heap.size ≤ b ∧ b < w'.heap.size then w'.heap[b]? else X.K b) = some o
  rw [if_neg (by omega)]
  exact hb
theorem MachAt.extend {p : List FnD} {bud : Int} {mb : Nat} {X : RX} {w0 w w' : World} {s : StandD} (h : MachAt p bud mb X w0 w s) (hb : Below w.heap.size w w') : MachAt p bud mb (X.ext w w') w0 w' s := by
  obtain ⟨cs, ca, ccap, h1, h2, h3⟩ := h.codes
  exact ⟨h.run.extend hb, cs, ca, ccap, h1, h2, fun W t hW => h3 W t (h.run.shrink hW)⟩
theorem RunAt.since {X : RX} {w0 w w' W : World} {P : List FnD} {rb : Nat} {t : StandD} (hW : RunAt (X.ext w w') w0 P rb W t) (b : Nat) (h1 : w.heap.size ≤ b) (h2 : b < w'.heap.size) : W.heap[b]? = w'.heap[b]? := by
  obtain ⟨_, _, _, _, _, _, _, _, _, hk⟩ := hW
  obtain ⟨o, ho⟩ : ∃ o, w'.heap[b]? = some o := ⟨_, Array.getElem?_eq_getElem h2⟩
  have := (hk b o (by show (if w.heap.size ≤ b ∧ b < w'.heap.size then w'.heap[b]? else X.K b) = some o; rw [if_pos ⟨h1, h2⟩]; exact ho)).1
  exact this.trans ho.symm
theorem RunAt.old {X : RX} {w0 W : World} {P : List FnD} {rb : Nat} {t : StandD} (hW : RunAt X w0 P rb W t) : Below w0.heap.size w0 W := by
  obtain ⟨_, _, _, _, _, h, _⟩ := hW
  exact h
end Go.Proofs.Ytooinlilplecpab
