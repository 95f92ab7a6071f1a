/- Contracts of the developers' reader of images: text and file. -/
import Derived.Test.YtooinlilplecpaaDoorI2
import Derived.Test.YtooinlilplecpaaDoorM6
namespace Go.Proofs.YtooinlilplecpaaDoor
open Go.RowKit

theorem RdT.only {rb : Nat} {w w' : World} {a : Option Addr} {len cap : Nat} {l : List ByteArray} (h : RdT w a len cap l) (ho : OnlyR rb w w') (hn : ∀ q, a = some q → q.block ≠ rb) : RdT w' a len cap l := by
  obtain ⟨h1, h2, h3, h4⟩ := h
  refine ⟨h1, h2, h3, fun i x hx => ?_⟩
  obtain ⟨b, off, cs, e, hl, hc, hr⟩ := h4 i x hx
  refine ⟨b, off, cs, e, hl, fun j v hj => ?_, hr⟩
  exact ho.cell (q := ⟨b, off + i * 1 + j, none⟩) (show b ≠ rb from hn _ e) (hc j v hj)

theorem rByt_size {bs : List Int} {s : RsD} {n : Int} (h : s.e = 0 → 1 ≤ n ∧ n ≤ 20) : (rByt bs s n).1.size ≤ 20 := by
  unfold rByt
  by_cases he : s.e ≠ 0
  · rw [if_pos he]; simp
  · rw [if_neg he]
    have := h (by simpa using he)
    split
    · simp
    · simp only
      rw [strOfNums_size, List.length_take]
      omega

theorem OnlyR.lt {rb : Nat} {w : World} {a : Array Value} {t : TypeId} {fz : Nat × Nat} (h : w.heap[rb]? = some (.cells a t fz)) : rb < w.heap.size := (Array.getElem?_eq_some_iff.1 h).1

set_option maxHeartbeats 1000000 in
set_option maxRecDepth 100000 in
theorem rtext_any (rb : Nat) (ba : Option Addr) (blen bcap : Nat) (bs : List Int) (nv fv : Value) (s : RsD) (ta : Option Addr) (tlen tcap : Nat) (l : List ByteArray) (w : World) (hk : w.heap[rb]? = some (.cells (rdA (.slice ba blen bcap) s nv fv) 34 (0, 0))) (hb : Rd .u8 w ba blen bcap bs) (hne : ∀ q, ba = some q → q.block ≠ rb)
    (hx : ∀ j, 0 ≤ bs.getD j 0 ∧ bs.getD j 0 ≤ 255) (hi : InvR bs s) (ht : RdT w ta tlen tcap l) (htn : ∀ q, ta = some q → q.block ≠ rb) :
    Calls Tryd.prog 20 #[.pointer (some ⟨rb, 0, none⟩), .slice ta tlen tcap] w fun e w' => e = .returned (.string (rText bs s l).1) ∧ OnlyR rb w w' ∧ w'.heap[rb]? = some (.cells (rdA (.slice ba blen bcap) (rText bs s l).2 nv fv) 34 (0, 0)) := by
  have h1 := rNum_inv hx hi
  have h2 : InvR bs (rTake (rNum bs s).2 (decide (1 ≤ (rNum bs s).1 ∧ (rNum bs s).1 ≤ 20))) := rTake_inv h1.1 _
  have h3 : (rTake (rNum bs s).2 (decide (1 ≤ (rNum bs s).1 ∧ (rNum bs s).1 ≤ 20))).e = 0 → 1 ≤ (rNum bs s).1 ∧ (rNum bs s).1 ≤ 20 := fun h => of_decide_eq_true (rTake_ok h).2.1
  have HN := hid (rnumber_any rb ba blen bcap bs nv fv s w hk hb hx)
  unfold rText
  simp only
  obtain ⟨⟨n, s1⟩, hn⟩ : ∃ p, rNum bs s = p := ⟨_, rfl⟩
  rw [hn] at HN h1 h2 h3 ⊢
  simp only at HN h1 h2 h3 ⊢
  have HT := hid (fun (m : Bool) (W : World) (h : W.heap[rb]? = some (.cells (rdA (.slice ba blen bcap) s1 nv fv) 34 (0, 0))) => take_any rb (.slice ba blen bcap) nv fv s1 m W h)
  have hq : decide (1 ≤ n ∧ n ≤ 20) = (if 1 ≤ n then decide (n ≤ 20) else false) := by split <;> simp [*]
  obtain ⟨s2, hs2⟩ : ∃ p, rTake s1 (decide (1 ≤ n ∧ n ≤ 20)) = p := ⟨_, rfl⟩
  rw [hs2] at h2 h3 ⊢
  have hsz := rByt_size (bs := bs) h3
  obtain ⟨⟨str, s3⟩, hs3⟩ : ∃ p, rByt bs s2 n = p := ⟨_, rfl⟩
  have HBY := hid (fun (W : World) (h : W.heap[rb]? = some (.cells (rdA (.slice ba blen bcap) s2 nv fv) 34 (0, 0))) (hb' : Rd .u8 W ba blen bcap bs) => rbytes_any rb ba blen bcap bs nv fv s2 n W h hb' hne h2.1 h2.2.1 h3)
  rw [hs3] at HBY hsz ⊢
  simp only at HBY hsz ⊢
  have HNW := hid (fun (W : World) (h : RdT W ta tlen tcap l) => isNewWord_any str ta tlen tcap l W h (by unfold maxLen; omega))
  have HT2 := hid (fun (W : World) (h : W.heap[rb]? = some (.cells (rdA (.slice ba blen bcap) s3 nv fv) 34 (0, 0))) => take_any rb (.slice ba blen bcap) nv fv s3 (newB str l) W h)
  have HQ := hid hq
  have HS2 := hid hs2
  have HBB := hid hb
  have HTT := hid ht
  generalize newB str l = nw at *
  clear hk hb hs3 hs2 hq hn ht h1 h2 h3 hsz hi
  by_cases hn1 : 1 ≤ n
  · have HT1 := hid (fun (W : World) h => HT.out (decide (n ≤ 20)) W h)
    have hs2' : rTake s1 (decide (n ≤ 20)) = s2 := by have := HQ.out; rw [if_pos hn1] at this; rw [← this]; exact HS2.out
    rw [hs2'] at HT1
    clear HT hs2' HS2 HQ
    go_enter Tryd.func20, Tryd.ntmps20
    go_wp2_with fail
    refine HN.out.mono ?_
    rintro e w1 ⟨rfl, o1, k1⟩
    go_wp2_with fail
    refine (HT1.out w1 k1).mono ?_
    rintro e w2 ⟨rfl, o2, k2⟩
    go_wp2_with fail
    refine (HBY.out w2 k2 (HBB.out.only (o1.trans o2) hne)).mono ?_
    rintro e w3 ⟨rfl, o3, k3⟩
    go_wp2_with fail
    refine (HNW.out w3 (HTT.out.only ((o1.trans o2).trans o3) htn)).mono ?_
    rintro e w4 ⟨rfl, b4⟩
    go_wp2_with fail
    refine (HT2.out w4 ((b4.block rb (OnlyR.lt k3)).trans k3)).mono ?_
    rintro e w5 ⟨rfl, o5, k5⟩
    go_wp2
    go_ret
    exact ⟨rfl, (((o1.trans o2).trans o3).trans (OnlyR.below b4)).trans o5, k5⟩
  · have hn1' : decide (1 ≤ n) = false := by simpa using hn1
    have HT1 := hid (fun (W : World) h => HT.out false W h)
    have hs2' : rTake s1 false = s2 := by have := HQ.out; rw [if_neg hn1] at this; rw [← this]; exact HS2.out
    rw [hs2'] at HT1
    clear HT hs2' HS2 HQ hn1
    go_enter Tryd.func20, Tryd.ntmps20
    go_wp2_with fail
    refine HN.out.mono ?_
    rintro e w1 ⟨rfl, o1, k1⟩
    go_wp2_with fail
    refine (HT1.out w1 k1).mono ?_
    rintro e w2 ⟨rfl, o2, k2⟩
    go_wp2_with fail
    refine (HBY.out w2 k2 (HBB.out.only (o1.trans o2) hne)).mono ?_
    rintro e w3 ⟨rfl, o3, k3⟩
    go_wp2_with fail
    refine (HNW.out w3 (HTT.out.only ((o1.trans o2).trans o3) htn)).mono ?_
    rintro e w4 ⟨rfl, b4⟩
    go_wp2_with fail
    refine (HT2.out w4 ((b4.block rb (OnlyR.lt k3)).trans k3)).mono ?_
    rintro e w5 ⟨rfl, o5, k5⟩
    go_wp2
    go_ret
    exact ⟨rfl, (((o1.trans o2).trans o3).trans (OnlyR.below b4)).trans o5, k5⟩
end Go.Proofs.YtooinlilplecpaaDoor
