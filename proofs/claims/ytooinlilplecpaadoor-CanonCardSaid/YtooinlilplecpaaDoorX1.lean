/- The contract of the statement's own canon: true at whatever bytes. -/
import Derived.Test.YtooinlilplecpaaDoorX0
namespace Go.Proofs.YtooinlilplecpaaDoor
open Go.RowKit

theorem rd_of_owns8 {w : World} {base n : Nat} {v : Value} {l : List Int} (h : w.ownsRow base 5 1 v n (u8s l)) (hl : l.length = n) : ∃ a cap, v = .slice a n cap ∧ Rd .u8 w a n cap l := by
  rcases h.2 with ⟨rfl, rfl⟩ | ⟨g, cap, cur, rfl, hg, hh, h1, h2, h3, h4⟩
  · exact ⟨none, 0, rfl, ⟨hl, Nat.le_refl _, by unfold maxLen; omega, fun i hi => by omega⟩⟩
  · refine ⟨some ⟨g, 0, none⟩, cap, rfl, ⟨hl, h1, h2, fun i hi => ⟨g, 0, rfl, ?_⟩⟩⟩
    have hc := World.ownsRow.cellAt (w := w) ⟨h.1, .inr ⟨g, cap, cur, rfl, hg, hh, h1, h2, h3, h4⟩⟩ i (by omega)
    rw [Nat.zero_add, hc]
    simp [u8s, List.getD, show i < l.length by omega]

theorem encI_pos (l : List EntD) : 3 ≤ (encI l).length := by unfold encI; simp only [List.length_append, List.length_cons, List.length_nil]; omega

set_option maxHeartbeats 2000000 in
set_option maxRecDepth 100000 in
theorem canon_any (ba : Option Addr) (blen bcap : Nat) (bs : List Int) (w : World) (hb : Rd .u8 w ba blen bcap bs) (hne : ∀ q, ba = some q → q.block < w.heap.size) (hx : ∀ j, 0 ≤ bs.getD j 0 ∧ bs.getD j 0 ≤ 255) (hH : HeadAt w) :
    Calls Tryd.prog 4 #[.slice ba blen bcap] w fun e w' => e = .returned (.bool true) ∧ Below w.heap.size w w' := by
  have HL := hid hb.hlen
  have hmax := hb.hmax
  have hcap := hb.hcap
  unfold maxLen at hmax
  have HD := hid (uDecode_any ba blen bcap bs w hb hne hx hH)
  have HH := hid hH
  have HB := hid hb
  by_cases he : (decI bs).2.1 = 0
  · obtain ⟨g1, g2, g3⟩ := decI_ok hx he
    have hp := encI_pos (decI bs).1
    have HWF := hid g1
    have HEN := hid g2
    rw [he, g3] at HD
    rw [g2, HL.out] at hp
    generalize (decI bs).1 = dl at *
    obtain ⟨bb, off, rfl, hc⟩ := hb.open (by omega)
    have HC := hid hc
    have hp' : (0 : Int) < (blen : Int) := by omega
    clear hb hH g1 g2 g3 he hc hne hx
    go_enter Tryd.func4, Tryd.ntmps4
    go_wp2_with fail
    refine HD.out.mono ?_
    rintro e w1 ⟨v, rfl, hown, hb1⟩
    obtain ⟨va, vc, rfl, hri⟩ := hown.rd
    have hs1 := hb1.size
    obtain ⟨w2, hw2⟩ : ∃ w2, w2 = w1.alloc (Obj.cells #[.slice va dl.length vc] 26) := ⟨_, rfl⟩
    have hb2 : Below w1.heap.size w1 w2 := by rw [hw2]; exact (Below.refl _ _).alloc (Nat.le_refl _) _
    have hbw2 : Below w.heap.size w w2 := hb1.trans (hb2.mono hs1)
    have HEC := hid (uEncode_wf va dl.length vc dl w2 (hri.below hb2) HWF.out (HH.out.below hbw2 (Nat.le_refl _)))
    rw [HEN.out, HL.out] at HEC
    have hs2 := hbw2.size
    have HB2 := hid hbw2
    clear hown hri hb1 hb2 hbw2
    go_wp2_with fail
    rw [← hw2]
    clear hw2
    refine HEC.out.mono ?_
    rintro e w3 ⟨v3, rfl, hown3, hb3⟩
    obtain ⟨ca, cc, rfl, hrc⟩ := rd_of_owns8 hown3 HL.out
    obtain ⟨cb, coff, rfl, hcc⟩ := hrc.open (by omega)
    have hb03 : Below w.heap.size w w3 := HB2.out.trans (hb3.mono hs2)
    have hcw : ∀ i, i < blen → w3.cell? ⟨bb, off + i, none⟩ = some (.int .u8 (bs.getD i 0)) := fun i hi => (hb03.cell (p := ⟨bb, off + i, none⟩) (World.block_lt_of_cell? w _ (HC.out i hi))).trans (HC.out i hi)
    have v1 := run_convert_bytes_arg (P := Tryd.prog) w3 22 5 Tryd.underlying22 Tryd.underlying5 bb off blen bcap bs HL.out hcw 9 Tryd.underlying9
    have v2 := run_convert_bytes_arg (P := Tryd.prog) w3 22 5 Tryd.underlying22 Tryd.underlying5 cb coff blen cc bs HL.out hcc 9 Tryd.underlying9
    have HF := hid hb03
    clear hown3 hb3 hrc hcc hcw hb03
    go_wp2
    go_ret
    exact ⟨by simp, HF.out⟩
  · obtain ⟨g1, g2, g3, g4⟩ := decI_err hx he
    rw [g1] at HD
    rw [HL.out] at g4
    generalize (decI bs).2.1 = er at *
    generalize (decI bs).2.2 = pl at *
    have he' : (er == 0) = false := by simpa using he
    clear hb hH he g1
    go_enter Tryd.func4, Tryd.ntmps4
    go_wp2_with fail
    refine HD.out.mono ?_
    rintro e w1 ⟨v, rfl, hown, hb1⟩
    obtain ⟨va, vc, rfl, -⟩ := hown.rd
    have hs1 := hb1.size
    have HF := hid (fun o => hb1.alloc hs1 o)
    clear hown hb1
    rcases g2 with rfl | rfl | rfl | rfl
    · go_wp2
      go_ret
      exact ⟨by simp, HF.out _⟩
    · go_wp2
      go_ret
      exact ⟨by simp, HF.out _⟩
    · go_wp2
      go_ret
      exact ⟨by simp, HF.out _⟩
    · go_wp2
      go_ret
      exact ⟨by simp, HF.out _⟩

set_option maxHeartbeats 400000 in
theorem Canon_any (ba : Option Addr) (blen bcap : Nat) (bs : List Int) (w : World) (hb : Rd .u8 w ba blen bcap bs) (hne : ∀ q, ba = some q → q.block < w.heap.size) (hx : ∀ j, 0 ≤ bs.getD j 0 ∧ bs.getD j 0 ≤ 255) (hH : HeadAt w) :
    Calls Tryd.prog 3 #[.slice ba blen bcap] w fun e w' => e = .returned (.bool true) ∧ Below w.heap.size w w' := by
  have HC := hid (canon_any ba blen bcap bs w hb hne hx hH)
  clear hb hne hx hH
  go_enter Tryd.func3, Tryd.ntmps3
  go_wp2_with fail
  refine HC.out.mono ?_
  rintro e w1 ⟨rfl, hb1⟩
  go_wp2
  go_ret
  exact ⟨rfl, hb1⟩
end Go.Proofs.YtooinlilplecpaaDoor
