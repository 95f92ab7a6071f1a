/- Contract of unfoldref.under: frames written anew. -/
import Derived.Test.YtooinlilplecpaaGreatDoorR2
import Derived.Test.YtooinlilplecpaaGreatDoorH2
namespace Go.Proofs.YtooinlilplecpaaGreatDoor
open Go.RowKit

theorem add0' (g j : Nat) : (⟨g, 0, none⟩ : Addr).add j = ⟨g, 0 + j, none⟩ := by unfold Addr.add; split <;> simp_all
theorem Tryz.infoLive : (Tryz.prog.info? 172).map (fun i => (i.zero, i.size, i.bytes)) = some (some (.agg #[.int .i64 0, .int .i64 0, .slice none 0 0]), 3, 40) := by kernel_rfl

theorem RdL_of_owns {α : Type} {size : Nat} {R : World → List Value → α → Prop} {w : World} {base : Nat} {e : TypeId} {v : Value} {n : Nat} {css : List (List Value)} {ls : List α} (h : w.ownsRow base e size v n css.flatten) (hk : ∀ c ∈ css, c.length = size) (hl : css.length = n) (hls : ls.length = n)
    (hR : ∀ (i : Nat) (x : α) (cs : List Value), ls[i]? = some x → css[i]? = some cs → R w cs x) : ∃ a cap, v = .slice a n cap ∧ RdL size R w a n cap ls := by
  have hc := fun g hg => h.cells (g := g) hg
  rcases h.2 with ⟨rfl, rfl⟩ | ⟨g, cap, cur, rfl, _, hh, h1, h2, _⟩
  · exact ⟨none, 0, rfl, hls, Nat.le_refl _, by unfold maxLen; omega, fun i x hx => by
      have := (List.getElem?_eq_some_iff.1 hx).1
      omega⟩
  · refine ⟨_, cap, rfl, hls, h1, h2, fun i x hx => ?_⟩
    have hi : i < css.length := by
      have := (List.getElem?_eq_some_iff.1 hx).1
      omega
    have hcs : css[i]? = some (css.getD i []) := by simp [List.getD, hi]
    have hlen := hk _ (List.mem_of_getElem? hcs)
    refine ⟨g, 0, css.getD i [], rfl, hlen, fun j v hj => ?_, hR i x _ hx hcs⟩
    have hj' : j < size := by
      have := (List.getElem?_eq_some_iff.1 hj).1
      omega
    have := hc g rfl (i * size + j) v (by rw [flatten_get size css i j hk hi hj']; exact hj)
    rw [add0'] at this
    rw [Nat.add_assoc]
    exact this

set_option maxHeartbeats 2000000 in
set_option maxRecDepth 100000 in
theorem under_any (R : World → List Value → LiveD → Prop) (a : Option Addr) (cap : Nat) (ls : List LiveD) (k : Nat) (w : World) (hsh : ∀ cs x, R w cs x → ∃ la lcap, cs = [.int .i64 x.fn, .int .i64 x.next, .slice la x.locals.length lcap]) (hr : RdL 3 R w a ls.length cap ls) (hk : k ≤ ls.length) (hl : ls.length ≤ 1000) :
    Calls Tryz.prog 182 #[.slice a ls.length cap, .int .i64 k] w fun e w' => ∃ (v : Value) (css : List (List Value)), e = .returned v ∧ w'.ownsRow w.heap.size 172 3 v (ls.length - k) css.flatten ∧ css.length = ls.length - k ∧ (∀ c ∈ css, c.length = 3) ∧ (∀ (i : Nat) (x : LiveD) (cs : List Value), ls[i]? = some x → css[i]? = some cs → R w cs x) ∧ Below w.heap.size w w' := by
  obtain ⟨n, hn⟩ : ∃ n, n = ls.length := ⟨_, rfl⟩
  rw [← hn] at hr hk hl ⊢
  have HR := hid hr
  have HL := hid hn
  have hcap := hr.2.1
  have hmax := hr.2.2.1
  unfold maxLen at hmax
  clear hr hn
  go_enter Tryz.func182, Tryz.ntmps182
  go_wp2
  go_loopw [5, 6] (fun ov i wr => ∃ (j : Nat) (css : List (List Value)), i = .int .i64 j ∧ j ≤ n - k ∧ wr.ownsRow w.heap.size 172 3 ov j css.flatten ∧ css.length = j ∧ (∀ c ∈ css, c.length = 3) ∧ (∀ (i : Nat) (x : LiveD) (cs : List Value), ls[i]? = some x → css[i]? = some cs → R w cs x) ∧ Below w.heap.size w wr) (fun _ i _ => (n - k) - (intOf i).toNat)
  case atStart => exact ⟨0, [], rfl, by omega, ⟨rfl, .inl ⟨rfl, rfl⟩⟩, rfl, by simp, by simp, Below.refl _ _⟩
  case round =>
    obtain ⟨j, css, rfl, hj, hown, hcl, hc3, hcr, hbel⟩ := hrel
    have HC3 := hid hc3
    have HCR := hid hcr
    have HCL := hid hcl
    clear hc3 hcr hcl
    have hsz := hbel.size
    by_cases hjn : j < n - k
    · obtain ⟨x, hx⟩ : ∃ x, ls[j]? = some x := ⟨_, List.getElem?_eq_getElem (by rw [← HL.out]; omega)⟩
      obtain ⟨b, off, cs, rfl, hcs3, hcells, hlive⟩ := HR.out.2.2.2 j x hx
      have HLV := hid hlive
      obtain ⟨la, lcap, rfl⟩ := hsh _ _ hlive
      have hc : ∀ i v, [Value.int .i64 x.fn, .int .i64 x.next, .slice la x.locals.length lcap][i]? = some v → wr.cell? ⟨b, off + j * 3 + i, none⟩ = some v := fun i v h => by
        have := hcells i v h
        exact (hbel.cell (p := ⟨b, off + j * 3 + i, none⟩) (World.block_lt_of_cell? w _ this)).trans this
      have c0 : wr.cell? ⟨b, off + j * 3, none⟩ = _ := hc 0 _ rfl
      have c1 := hc 1 _ rfl
      have c2 := hc 2 _ rfl
      have hlt : (j : Int) < (n : Int) - k := by omega
      have hlt2 : (j : Int) < (n : Int) := by omega
      obtain ⟨i0, hi, hz0, hz1, hz2⟩ := info_parts Tryz.infoLive
      have HX := hid hx
      clear hcells hc hx
      generalize x.locals.length = ll at *
      go_wp2_with (at_builtin; refine wpList_append_own _ rfl (.tmp 15) (.tmp 20) 93 rfl w.heap.size 172 i0 (.agg #[.int .i64 0, .int .i64 0, .slice none 0 0]) 3 40 Tryz.underlying93 hi hz0 hz1 hz2 rfl (by decide) _ _ _ rfl (hown.alloc _) ⟨wr.heap.size, 0, none⟩ 1 1 [.int .i64 x.fn, .int .i64 x.next, .slice la ll lcap] rfl rfl ?d1 ?d2 ?d3 ?d4 ?d5 ?_)
      case d1 =>
        intro i u hu
        match i, hu with
        | 0, hu => simp at hu; subst hu; simp [Addr.add]
        | 1, hu => simp at hu; subst hu; simp [Addr.add]
        | 2, hu => simp at hu; subst hu; simp [Addr.add]
      case d2 => intro u hu; simp at hu; rcases hu with rfl | rfl | rfl <;> rfl
      case d3 => unfold maxLen; omega
      case d4 => omega
      case d5 => simp; omega
      intro v' w2 hown' hgrow _
      have hb2 : Below w.heap.size w w2 := (hbel.alloc (by omega) _).grown hgrow (by simp; omega) (fun k hk => (hown.lt k hk).1)
      have hfl : css.flatten ++ [Value.int .i64 x.fn, .int .i64 x.next, .slice la ll lcap] = (css ++ [[Value.int .i64 x.fn, .int .i64 x.next, .slice la ll lcap]]).flatten := by simp
      rw [hfl] at hown'
      have HO := hid hown'
      clear hown' hgrow hown hbel hfl
      go_wp2
      go_roundw
      case rel =>
        refine ⟨j + 1, css ++ [[.int .i64 x.fn, .int .i64 x.next, .slice la ll lcap]], by go_num, by omega, HO.out, by simp [HCL.out], ?_, ?_, hb2⟩
        · intro c hc
          rcases List.mem_append.1 hc with h | h
          · exact HC3.out c h
          · rw [List.mem_singleton.1 h]; rfl
        · intro i y cs hy hcs
          by_cases hij : i < css.length
          · rw [List.getElem?_append_left hij] at hcs
            exact HCR.out i y cs hy hcs
          · have hi2 : i < (css ++ [[Value.int .i64 x.fn, .int .i64 x.next, .slice la ll lcap]]).length := (List.getElem?_eq_some_iff.1 hcs).1
            simp at hi2
            have hie : i = j := by have := HCL.out; omega
            subst hie
            rw [HX.out] at hy
            cases hy
            rw [List.getElem?_append_right (by omega)] at hcs
            have he : i - css.length = 0 := by omega
            rw [he] at hcs
            simp at hcs
            subst hcs
            exact HLV.out
      case measure => simp [intOf]; omega
    · have hje : j = n - k := by omega
      have hge : ¬ ((j : Int) < (n : Int) - k) := by omega
      have HO := hid hown
      clear hown
      go_wp2
      go_ret
      refine ⟨_, rfl, css, by first | exact HO.out | (rw [← hje]; exact HO.out), by first | exact HCL.out | (rw [← hje]; exact HCL.out), HC3.out, HCR.out, hbel⟩
end Go.Proofs.YtooinlilplecpaaGreatDoor
