/- Contract of the developers' (*code.writer).isInlined: is an op a Call that is inlined? -/
import Derived.Test.YtooinlilplecpabQ3
import Derived.Test.YtooinlilplecpabD3
namespace Go.Proofs.Ytooinlilplecpab
open Go.RowKit

def arB (ar : List Int) (i : Nat) : Bool := ar.contains (i : Int)
/-- The functions around an instance, as an array of truths. -/
def arCells (ar : List Int) : List Value := [.bool (arB ar 0), .bool (arB ar 1), .bool (arB ar 2), .bool (arB ar 3), .bool (arB ar 4), .bool (arB ar 5), .bool (arB ar 6), .bool (arB ar 7), .bool (arB ar 8), .bool (arB ar 9), .bool (arB ar 10), .bool (arB ar 11)]
theorem arCells_get (ar : List Int) (i : Nat) (h : i < 12) : (arCells ar)[i]? = some (.bool (arB ar i)) := by
  match i, h with
  | 0, _ => rfl
  | 1, _ => rfl
  | 2, _ => rfl
  | 3, _ => rfl
  | 4, _ => rfl
  | 5, _ => rfl
  | 6, _ => rfl
  | 7, _ => rfl
  | 8, _ => rfl
  | 9, _ => rfl
  | 10, _ => rfl
  | 11, _ => rfl
theorem arB_cons (ar : List Int) (n i : Nat) : arB ((n : Int) :: ar) i = (decide (i = n) || arB ar i) := by
  unfold arB
  rw [List.contains_cons]
  congr 1
  by_cases h : i = n
  · simp [h]
  · simp [h]; omega
theorem arCells_len (ar : List Int) : (arCells ar).length = 12 := rfl
theorem arCells_set (ar : List Int) (n : Nat) : (arCells ar).set n (.bool true) = arCells ((n : Int) :: ar) := by
  refine List.ext_getElem? fun i => ?_
  by_cases hi : i < 12
  · rw [arCells_get _ i hi, List.getElem?_set, arB_cons]
    by_cases hn : n = i
    · subst hn
      rw [if_pos rfl, if_pos (by rw [arCells_len]; exact hi)]
      simp
    · rw [if_neg hn, arCells_get _ i hi]
      have : decide (i = n) = false := by simp; omega
      rw [this]
      simp
  · rw [List.getElem?_eq_none (by rw [List.length_set, arCells_len]; omega), List.getElem?_eq_none (by rw [arCells_len]; omega)]

set_option maxHeartbeats 4000000 in
set_option maxRecDepth 100000 in
theorem isInl_any (wb : Nat) (p : List FnD) (pa : Option Addr) (pcap : Nat) (bud : Int) (ar : List Int) (o : OpD) (oa : Option Addr) (na ocap : Nat) (w : World) (h0 : w.cell? ⟨wb, 0, none⟩ = some (.slice pa p.length pcap)) (h1 : w.cell? ⟨wb, 1, none⟩ = some (.int .i64 bud)) (hp : RdP w pa p.length pcap p) (hl : p.length ≤ 12) (hok : o.code = 5 → 0 ≤ o.b ∧ o.b < p.length) :
    Calls Try.prog 37 #[.pointer (some ⟨wb, 0, none⟩), .agg #[.int .i64 o.code, .int .i64 o.line, .int .i64 o.a, .int .i64 o.b, .int .i64 o.c, .slice oa na ocap], .agg (arCells ar).toArray] w fun e w' => e = .returned (.bool (inlB p bud ar o)) ∧ Below w.heap.size w w' := by
  obtain ⟨oc, ol, oA, ob, od, oargs⟩ := o
  dsimp only at hok ⊢
  by_cases hc : oc = 5
  · subst hc
    obtain ⟨hb1, hb2⟩ := hok rfl
    obtain ⟨bN, rfl⟩ : ∃ n : Nat, ob = n := ⟨ob.toNat, by omega⟩
    have hg := arCells_get ar bN (by omega)
    have hb12 : (bN : Int) < 12 := by omega
    by_cases ha : arB ar bN = true
    · have hin : inlB p bud ar ⟨5, ol, oA, bN, od, oargs⟩ = false := by unfold inlB; unfold arB at ha; simp; intro h; exact absurd (List.contains_iff_mem.1 ha) h
      rw [hin]
      rw [ha] at hg
      unfold arCells at hg ⊢
      generalize arB ar 0 = a0 at *
      generalize arB ar 1 = a1 at *
      generalize arB ar 2 = a2 at *
      generalize arB ar 3 = a3 at *
      generalize arB ar 4 = a4 at *
      generalize arB ar 5 = a5 at *
      generalize arB ar 6 = a6 at *
      generalize arB ar 7 = a7 at *
      generalize arB ar 8 = a8 at *
      generalize arB ar 9 = a9 at *
      generalize arB ar 10 = a10 at *
      generalize arB ar 11 = a11 at *
      have hg2 : (#[Value.bool a0, .bool a1, .bool a2, .bool a3, .bool a4, .bool a5, .bool a6, .bool a7, .bool a8, .bool a9, .bool a10, .bool a11] : Array Value)[bN]? = some (.bool true) := by simpa using hg
      clear hin ha hg
      go_enter Try.func37, Try.ntmps37
      go_wp2
      exact bodyPost_ret (v := .bool false) (by simp [results, Try.results37, go_sem]) rfl ⟨rfl, ((Below.refl _ _).alloc (Nat.le_refl _) _).alloc (by simp) _⟩
    · have hfs : p[bN]? = some (fnAt p bN) := by
        have := fnAt_some (p := p) (n := (bN : Int)) ⟨by omega, hb2⟩
        simpa using this
      obtain ⟨pb, poff, ba, bcap, rfl, -, -, -, -, -, c4, hrb, -, -⟩ := hp.at bN _ hfs
      have hbl1 := hrb.2.1
      have hbl2 := hrb.2.2.1
      have hpc1 := hp.2.1
      have hpc2 := hp.2.2.1
      unfold maxLen at hbl2 hpc2
      have lt0 := World.block_lt_of_cell? w _ h0
      have lt1 := World.block_lt_of_cell? w _ c4
      simp only at lt0 lt1
      have hin : inlB p bud ar ⟨5, ol, oA, bN, od, oargs⟩ = decide (((fnAt p bN).body.length : Int) ≤ bud) := by
        unfold inlB
        unfold arB at ha
        have : ar.contains (bN : Int) = false := by simpa using ha
        simp only [this]
        rfl
      rw [hin]
      have ha' : arB ar bN = false := by simpa using ha
      rw [ha'] at hg
      unfold arCells at hg ⊢
      generalize arB ar 0 = a0 at *
      generalize arB ar 1 = a1 at *
      generalize arB ar 2 = a2 at *
      generalize arB ar 3 = a3 at *
      generalize arB ar 4 = a4 at *
      generalize arB ar 5 = a5 at *
      generalize arB ar 6 = a6 at *
      generalize arB ar 7 = a7 at *
      generalize arB ar 8 = a8 at *
      generalize arB ar 9 = a9 at *
      generalize arB ar 10 = a10 at *
      generalize arB ar 11 = a11 at *
      have hg2 : (#[Value.bool a0, .bool a1, .bool a2, .bool a3, .bool a4, .bool a5, .bool a6, .bool a7, .bool a8, .bool a9, .bool a10, .bool a11] : Array Value)[bN]? = some (.bool false) := by simpa using hg
      generalize (fnAt p bN).body.length = bl at *
      have hbp : bN < p.length := by omega
      generalize p.length = pl at *
      obtain ⟨wc, hwc⟩ : ∃ wc, wc = (w.alloc (Obj.cells #[.int .i64 5, .int .i64 ol, .int .i64 oA, .int .i64 bN, .int .i64 od, .slice oa na ocap] 50)).alloc (Obj.cells #[.bool a0, .bool a1, .bool a2, .bool a3, .bool a4, .bool a5, .bool a6, .bool a7, .bool a8, .bool a9, .bool a10, .bool a11] 87) := ⟨_, rfl⟩
      have hbc : Below w.heap.size w wc := by rw [hwc]; exact ((Below.refl _ _).alloc (Nat.le_refl _) _).alloc (by simp) _
      have k0 : wc.heap[w.heap.size]? = some (.cells #[.int .i64 5, .int .i64 ol, .int .i64 oA, .int .i64 bN, .int .i64 od, .slice oa na ocap] 50 (0, 0)) := by rw [hwc]; exact heap_at1 (by simp) (heap_new_at rfl)
      have s0 : wc.cell? ⟨wb, 0, none⟩ = _ := (hbc.cell (p := ⟨wb, 0, none⟩) lt0).trans h0
      have s1 : wc.cell? ⟨wb, 1, none⟩ = _ := (hbc.cell (p := ⟨wb, 1, none⟩) lt0).trans h1
      have s4 : wc.cell? ⟨pb, poff + bN * 5 + 4, none⟩ = _ := (hbc.cell (p := ⟨pb, poff + bN * 5 + 4, none⟩) lt1).trans c4
      have s3 : wc.cell? ⟨w.heap.size, 3, none⟩ = some (.int .i64 bN) := by simp [World.cell?, k0]
      clear hin ha ha' hg hp hrb hfs h0 h1 c4
      go_enter Try.func37, Try.ntmps37
      go_wp2
      rw [← hwc]
      clear hwc k0
      go_region
      go_wp2
      exact bodyPost_ret (v := .bool (decide ((bl : Int) ≤ bud))) (by simp [results, Try.results37, go_sem]) rfl ⟨rfl, hbc.drew⟩
  · have hc' : (oc != 5) = true := by simpa using hc
    have hin : inlB p bud ar ⟨oc, ol, oA, ob, od, oargs⟩ = false := by unfold inlB; simp [hc]
    rw [hin]
    unfold arCells
    clear hin hok
    go_enter Try.func37, Try.ntmps37
    go_wp2
    exact bodyPost_ret (v := .bool false) (by simp [results, Try.results37, go_sem]) rfl ⟨rfl, ((Below.refl _ _).alloc (Nat.le_refl _) _).alloc (by simp) _⟩
end Go.Proofs.Ytooinlilplecpab
