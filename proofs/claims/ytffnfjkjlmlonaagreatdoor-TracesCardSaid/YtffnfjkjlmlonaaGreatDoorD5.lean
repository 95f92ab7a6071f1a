/- Contract of the developers' program.copyBody: a body written anew, without the Args of what is no Call. -/
import Derived.Test.YtffnfjkjlmlonaaGreatDoorZ9
import Derived.Test.YtffnfjkjlmlonaaGreatDoorZ8
import Derived.Test.YtffnfjkjlmlonaaGreatDoorZ10
import Derived.Deep.AppendLies
namespace Go.Proofs.YtffnfjkjlmlonaaGreatDoor
open Go.RowKit

def RdOpU (U : Nat → Prop) (w : World) (cs : List Value) (o : OpD) : Prop :=
  ∃ a cap, cs = [.int .i64 o.code, .int .i64 o.line, .int .i64 o.a, .int .i64 o.b, .int .i64 o.c, .slice a o.args.length cap] ∧ Rd .i64 w a o.args.length cap o.args ∧ InU U a o.args.length

theorem RdOpU.keeps {U V : Nat → Prop} {w w' : World} {cs : List Value} {o : OpD} (h : RdOpU U w cs o) (hk : Keeps U w w') (hV : ∀ b, U b → b < w.heap.size → V b) : RdOpU V w' cs o := by
  obtain ⟨a, cap, e, hr, hU⟩ := h
  refine ⟨a, cap, e, hr.keeps hU hk, fun h0 q hq => hV _ (hU h0 q hq) ?_⟩
  obtain ⟨b, off, e2, hc⟩ := hr.cell 0 h0
  rw [hq] at e2
  cases e2
  exact World.block_lt_of_cell? w _ hc
theorem six_new (w : World) (a b c d e f : Value) (t : TypeId) : ∀ j u, [a, b, c, d, e, f][j]? = some u → (w.alloc (.cells #[a, b, c, d, e, f] t)).cell? ((⟨w.heap.size, 0, none⟩ : Addr).add j) = some u := by
  intro i u hu
  match i, hu with
  | 0, hu => simp at hu; subst hu; simp [Addr.add]
  | 1, hu => simp at hu; subst hu; simp [Addr.add]
  | 2, hu => simp at hu; subst hu; simp [Addr.add]
  | 3, hu => simp at hu; subst hu; simp [Addr.add]
  | 4, hu => simp at hu; subst hu; simp [Addr.add]
  | 5, hu => simp at hu; subst hu; simp [Addr.add]
theorem six_new_at {w : World} {n : Nat} (h : w.heap.size = n) (a b c d e f : Value) (t : TypeId) : ∀ j u, [a, b, c, d, e, f][j]? = some u → (w.alloc (.cells #[a, b, c, d, e, f] t)).cell? ((⟨n, 0, none⟩ : Addr).add j) = some u := by subst h; exact six_new w a b c d e f t
theorem six_one (a b c d e : Int) (x : Option Addr) (n m : Nat) : ∀ u ∈ [Value.int .i64 a, .int .i64 b, .int .i64 c, .int .i64 d, .int .i64 e, .slice x n m], u.oneCell' = true := by
  intro u hu; simp at hu; rcases hu with rfl | rfl | rfl | rfl | rfl | rfl <;> rfl

set_option maxHeartbeats 4000000 in
set_option maxRecDepth 100000 in
theorem copyBody_any (a : Option Addr) (cap : Nat) (l : List OpD) (w : World) (hr : RdL 6 RdOp w a l.length cap l) (hl : l.length ≤ 30) (ha : ∀ o ∈ l, o.code = 5 → o.args.length ≤ 8) :
    Calls Tryz.prog 217 #[.slice a l.length cap] w fun e w' => ∃ a' cap', e = .returned (.slice a' l.length cap') ∧ RdL 6 (RdOpU (fun b => w.heap.size ≤ b)) w' a' l.length cap' (l.map stripO) ∧ InU (fun b => w.heap.size ≤ b) a' l.length ∧ Below w.heap.size w w' := by
  have HR := hid hr
  have hcap := hr.2.1
  have hmax := hr.2.2.1
  unfold maxLen at hmax
  have HA := hid ha
  obtain ⟨n, hn⟩ : ∃ n, n = l.length := ⟨_, rfl⟩
  rw [← hn] at HR hl hcap ⊢
  have HN := hid hn
  clear hr ha hn
  go_enter Tryz.func217, Tryz.ntmps217
  go_wp2
  go_loopw [3, 9] (fun lv i wr => ∃ (j : Nat) (css : List (List Value)), i = .int .i64 j ∧ j ≤ n ∧ wr.ownsRow w.heap.size 183 6 lv j css.flatten ∧ css.length = j ∧ (∀ c ∈ css, c.length = 6) ∧ (∀ (i : Nat) (q : OpD) (cs : List Value), l[i]? = some q → css[i]? = some cs → RdOpU (fun b => w.heap.size ≤ b ∧ lv.ownBlock ≠ some b) wr cs (stripO q)) ∧ Below w.heap.size w wr) (fun _ i _ => n - (intOf i).toNat)
  case atStart => exact ⟨0, [], rfl, by omega, ⟨rfl, .inl ⟨rfl, rfl⟩⟩, rfl, by simp, by simp, Below.refl _ _⟩
  case round =>
    obtain ⟨j, css, rfl, hj, hown, hcl, hc6, hcr, hbel⟩ := hrel
    have HC6 := hid hc6
    have HCR := hid hcr
    have HCL := hid hcl
    have hsz := hbel.size
    clear hc6 hcr hcl
    by_cases hjn : j < n
    · obtain ⟨o, ho⟩ : ∃ o, l[j]? = some o := ⟨_, List.getElem?_eq_getElem (by rw [← HN.out]; exact hjn)⟩
      have hoa := HA.out o (List.mem_of_getElem? ho)
      obtain ⟨b, off, oa, ocap, rfl, -, d0, d1, d2, d3, d4, d5, hro⟩ := (HR.out.below hbel (fun _ _ h => h.below hbel)).opAt j o ho
      have lt0 := World.block_lt_of_cell? wr _ d0
      simp only at lt0
      have HO := hid ho
      have HRO := hid hro
      have hjn' : (j : Int) < (n : Int) := by omega
      clear ho hro
      by_cases h5 : o.code = 5
      · have hstr : stripO o = o := by unfold stripO; rw [if_pos h5]
        have hna := hoa h5
        have h5' : (o.code == 5) = true := by simpa using h5
        have HL := hid HRO.out.hlen
        obtain ⟨na, hnae⟩ : ∃ v, v = o.args.length := ⟨_, rfl⟩
        rw [← hnae] at d5 HRO hna
        have HNA := hid hnae
        clear hnae hoa h5
        cases oa with
        | none =>
          have hz : na = 0 := by
            rcases Nat.eq_zero_or_pos na with h | h
            · exact h
            · obtain ⟨_, _, e, _⟩ := HRO.out.cell 0 h
              cases e
          subst hz
          have harg : o.args = [] := List.eq_nil_of_length_eq_zero HNA.out.symm
          obtain ⟨w4, hw4⟩ : ∃ w4, w4 = wr.alloc (Obj.cells #[.int .i64 o.code, .int .i64 o.line, .int .i64 o.a, .int .i64 o.b, .int .i64 o.c, .slice none 0 0] 183) := ⟨_, rfl⟩
          have hb24 : Below wr.heap.size wr w4 := by rw [hw4]; exact (Below.refl _ _).alloc (Nat.le_refl _) _
          have hbw4 : Below w.heap.size w w4 := hbel.trans (hb24.mono hsz)
          have hs4 := hb24.size
          have HOW := hid (ownsRow_below hown hb24)
          have HNEW : Hid (RdOpU (fun b => w.heap.size ≤ b ∧ u3.ownBlock ≠ some b) w4 [.int .i64 o.code, .int .i64 o.line, .int .i64 o.a, .int .i64 o.b, .int .i64 o.c, .slice none 0 0] (stripO o)) := by
            show RdOpU _ _ _ _
            rw [hstr]
            refine ⟨none, 0, by rw [harg]; rfl, ?_, fun h => by rw [harg] at h; simp at h⟩
            rw [harg]
            exact ⟨rfl, Nat.le_refl _, by unfold maxLen; omega, fun i hi => by simp at hi⟩
          have hsw : w4.heap.size = wr.heap.size + 1 := by rw [hw4]; simp
          have HSW := hid hsw
          have hox := HOW.out
          rw [hw4] at hox
          have HOWX := hid hox
          clear hown hstr hox hsw harg
          have hlt5 : ∀ k, u3.ownBlock = some k → w.heap.size ≤ k := fun k hk => (HOW.out.lt k hk).1
          obtain ⟨i0, hi, hz0, hz1, hz2⟩ := info_parts Tryz.infoOp
          go_wp2_with (at_builtin; refine wpList_append_lies _ rfl (.tmp 22) (.tmp 24) 120 rfl w.heap.size 183 i0 (.agg #[.int .i64 0, .int .i64 0, .int .i64 0, .int .i64 0, .int .i64 0, .slice none 0 0]) 6 64 Tryz.underlying120 hi hz0 hz1 hz2 rfl (by decide) _ _ _ rfl (HOWX.out.alloc _) ⟨wr.heap.size + 1, 0, none⟩ 1 1 [.int .i64 o.code, .int .i64 o.line, .int .i64 o.a, .int .i64 o.b, .int .i64 o.c, .slice none 0 0] rfl rfl (six_new_at (by simp) _ _ _ _ _ _ _) (six_one _ _ _ _ _ _ _ _) (by decide) (by unfold maxLen; omega) (by omega) (by simp; omega) _ rfl ?_)
          intro g' cap' w5 hown5 hgrow5 hat5 hlt5'
          rw [← hw4] at hgrow5
          have hat6 : u3.ownBlock = some g' ∨ g' = w4.heap.size + 1 := by
            rcases hat5 with h | h
            · exact .inl h
            · exact .inr (by rw [HSW.out]; simpa using h)
          clear hat5
          have hb5 : Below w.heap.size w w5 := (hbw4.alloc (by omega) _).grown hgrow5 (by simp; omega) hlt5
          have hk5 : Keeps (fun b => u3.ownBlock ≠ some b) w4 w5 := fun b hb hlt => (hgrow5.block b (by simp; omega) (fun e => hb e.symm)).trans (heap_alloc_old _ _ hlt)
          have hne5 : ∀ b, u3.ownBlock ≠ some b → b < w4.heap.size → (Value.slice (some ⟨g', 0, none⟩) (j + 1) cap').ownBlock ≠ some b := fun b hb hlt e => by
            simp [Value.ownBlock] at e
            rcases hat6 with h | h
            · exact hb (by rw [h, e])
            · omega
          have hfl : css.flatten ++ [Value.int .i64 o.code, .int .i64 o.line, .int .i64 o.a, .int .i64 o.b, .int .i64 o.c, .slice none 0 0] = (css ++ [[Value.int .i64 o.code, .int .i64 o.line, .int .i64 o.a, .int .i64 o.b, .int .i64 o.c, .slice none 0 0]]).flatten := by simp
          rw [hfl] at hown5
          have HOW5 := hid hown5
          have HR5 : Hid (∀ (i : Nat) (q : OpD) (cs : List Value), l[i]? = some q → (css ++ [[Value.int .i64 o.code, .int .i64 o.line, .int .i64 o.a, .int .i64 o.b, .int .i64 o.c, .slice none 0 0]])[i]? = some cs → RdOpU (fun b => w.heap.size ≤ b ∧ (Value.slice (some ⟨g', 0, none⟩) (j + 1) cap').ownBlock ≠ some b) w5 cs (stripO q)) := fun i q cs hq hcs => by
            by_cases hij : i < j
            · rw [List.getElem?_append_left (by rw [HCL.out]; exact hij)] at hcs
              exact ((HCR.out i q cs hq hcs).keeps (Keeps.below hb24) (V := fun b => w.heap.size ≤ b ∧ u3.ownBlock ≠ some b) (fun _ h _ => h)).keeps (fun b hb => hk5 b hb.2) (fun b h hlt => ⟨h.1, hne5 b h.2 hlt⟩)
            · have hi2 := (List.getElem?_eq_some_iff.1 hcs).1
              simp [HCL.out] at hi2
              have hie : i = j := by omega
              subst hie
              rw [List.getElem?_append_right (by rw [HCL.out]; exact Nat.le_refl _), HCL.out, Nat.sub_self] at hcs
              simp at hcs
              rw [HO.out] at hq
              cases hq
              subst hcs
              exact HNEW.out.keeps (fun b hb => hk5 b hb.2) (fun b h hlt => ⟨h.1, hne5 b h.2 hlt⟩)
          clear hown5 hgrow5 hfl hat6
          go_wp2
          go_roundw
          case rel =>
            refine ⟨j + 1, css ++ [[Value.int .i64 o.code, .int .i64 o.line, .int .i64 o.a, .int .i64 o.b, .int .i64 o.c, .slice none 0 0]], by go_num, by omega, HOW5.out, by simp [HCL.out], ?_, HR5.out, hb5⟩
            intro c hc
            rcases List.mem_append.1 hc with h | h
            · exact HC6.out c h
            · rw [List.mem_singleton.1 h]; rfl
          case measure => simp [intOf]; omega
        | some ad =>
          obtain ⟨i1, hi1, hy0, hy1, hy2⟩ := info_parts Tryz.infoInt
          have hnews : ∀ (W : World), Below wr.heap.size wr W → ∀ (i : Nat) (u : Value), (ints o.args)[i]? = some u → W.cell? (ad.add i) = some u := fun W hW i u hu => by
            have hi : i < na := by
              have := (List.getElem?_eq_some_iff.1 hu).1
              rw [ints_len, ← HNA.out] at this
              exact this
            obtain ⟨b0, off0, e, hc⟩ := HRO.out.cell i hi
            cases e
            have hu2 : u = .int .i64 (o.args.getD i 0) := by
              rw [ints_get _ _ (by rw [← HNA.out]; exact hi)] at hu
              exact (Option.some.inj hu).symm
            have hadd : (⟨b0, off0, none⟩ : Addr).add i = ⟨b0, off0 + i, none⟩ := by unfold Addr.add; split <;> simp_all
            rw [hadd, hu2]
            exact (hW.cell (p := ⟨b0, off0 + i, none⟩) (World.block_lt_of_cell? wr _ hc)).trans hc
          have HNW := hid hnews
          clear hnews
          go_wp2_with (at_builtin; refine wpList_append_own _ rfl (.tmp 16) (.tmp 18) 35 rfl (wr.heap.size + 1) 3 i1 (.int .i64 0) 1 8 Tryz.underlying35 hi1 hy0 hy1 hy2 rfl (by decide) _ _ _ rfl (World.ownsRow_nil _ _ _ _) ad na ocap (ints o.args) rfl (by rw [ints_len, ← HNA.out, Nat.mul_one]) (HNW.out _ ((Below.refl _ _).alloc (Nat.le_refl _) _)) (ints_one _) (by unfold maxLen; omega) (by omega) (by simp) ?_)
          intro v3 w3 hown3 hgrow3 _
          obtain ⟨a3, c3, rfl, hrd3⟩ := rdI_of_owns hown3 HNA.out.symm
          have hs3 := hgrow3.size
          simp at hs3
          have k3 : w3.heap[wr.heap.size]? = some (.cells #[.int .i64 o.code, .int .i64 o.line, .int .i64 o.a, .int .i64 o.b, .int .i64 o.c, .slice (some ad) na ocap] 183 (0, 0)) := (hgrow3.block wr.heap.size (by simp) (by simp [Value.ownBlock])).trans (heap_alloc_new _ _)
          have e0 : w3.cell? ⟨wr.heap.size, 0, none⟩ = some (.int .i64 o.code) := by simp [World.cell?, k3]
          have e1 : w3.cell? ⟨wr.heap.size, 1, none⟩ = some (.int .i64 o.line) := by simp [World.cell?, k3]
          have e2 : w3.cell? ⟨wr.heap.size, 2, none⟩ = some (.int .i64 o.a) := by simp [World.cell?, k3]
          have e3 : w3.cell? ⟨wr.heap.size, 3, none⟩ = some (.int .i64 o.b) := by simp [World.cell?, k3]
          have e4 : w3.cell? ⟨wr.heap.size, 4, none⟩ = some (.int .i64 o.c) := by simp [World.cell?, k3]
          have e5 : w3.cell? ⟨wr.heap.size, 5, none⟩ = some (.slice (some ad) na ocap) := by simp [World.cell?, k3]
          have f5 : w3.frozen? ⟨wr.heap.size, 5, none⟩ = false := by simp [World.frozen?, k3]
          have hb3 : Below wr.heap.size wr w3 := ((Below.refl _ _).alloc (Nat.le_refl _) _).grown hgrow3 (by simp) (fun k hk => by simp [Value.ownBlock] at hk)
          obtain ⟨w4, hw4⟩ : ∃ w4, w4 = w3.setCell ⟨wr.heap.size, 5, none⟩ (.slice a3 na c3) := ⟨_, rfl⟩
          have hb24 : Below wr.heap.size wr w4 := by rw [hw4]; exact hb3.setCell (p := ⟨wr.heap.size, 5, none⟩) (Nat.le_refl _) _
          have hbw4 : Below w.heap.size w w4 := hbel.trans (hb24.mono hsz)
          have hs4 := hb24.size
          have HOW := hid (ownsRow_below hown hb24)
          have hUa : InU (fun b => wr.heap.size + 1 ≤ b) a3 na := fun _ q hq => by
            subst hq
            exact (hown3.lt q.block rfl).1
          have hult : ∀ k, u3.ownBlock = some k → k < wr.heap.size := fun k hk => (hown.lt k hk).2
          have HNEW : Hid (RdOpU (fun b => w.heap.size ≤ b ∧ u3.ownBlock ≠ some b) w4 [.int .i64 o.code, .int .i64 o.line, .int .i64 o.a, .int .i64 o.b, .int .i64 o.c, .slice a3 na c3] (stripO o)) := by
            show RdOpU _ _ _ _
            rw [hstr, hw4]
            refine ⟨a3, c3, by rw [HNA.out], ?_, fun h0 q hq => ⟨by
              rw [← HNA.out] at h0
              have h1 : wr.heap.size + 1 ≤ q.block := hUa h0 q hq
              omega, fun e => ?_⟩⟩
            · rw [← HNA.out]
              exact hrd3.keeps hUa (Keeps.setCell (fun h => by have h' : wr.heap.size + 1 ≤ wr.heap.size := h; omega) _)
            · rw [← HNA.out] at h0
              have h1 : wr.heap.size + 1 ≤ q.block := hUa h0 q hq
              have h2 := hult _ e
              omega
          have hsw : w4.heap.size = w3.heap.size := by rw [hw4]; simp [World.setCell]
          have HSW := hid hsw
          have hox := HOW.out
          rw [hw4] at hox
          have HOWX := hid hox
          clear hown hstr hox hsw hown3 hgrow3 hrd3 hUa k3
          have hlt5 : ∀ k, u3.ownBlock = some k → w.heap.size ≤ k := fun k hk => (HOW.out.lt k hk).1
          obtain ⟨i0, hi, hz0, hz1, hz2⟩ := info_parts Tryz.infoOp
          go_wp2_with (at_builtin; refine wpList_append_lies _ rfl (.tmp 22) (.tmp 24) 120 rfl w.heap.size 183 i0 (.agg #[.int .i64 0, .int .i64 0, .int .i64 0, .int .i64 0, .int .i64 0, .slice none 0 0]) 6 64 Tryz.underlying120 hi hz0 hz1 hz2 rfl (by decide) _ _ _ rfl (HOWX.out.alloc _) ⟨w3.heap.size, 0, none⟩ 1 1 [.int .i64 o.code, .int .i64 o.line, .int .i64 o.a, .int .i64 o.b, .int .i64 o.c, .slice a3 na c3] rfl rfl (six_new_at (by simp) _ _ _ _ _ _ _) (six_one _ _ _ _ _ _ _ _) (by decide) (by unfold maxLen; omega) (by omega) (by simp; omega) _ rfl ?_)
          intro g' cap' w5 hown5 hgrow5 hat5 hlt5'
          rw [← hw4] at hgrow5
          have hat6 : u3.ownBlock = some g' ∨ g' = w4.heap.size + 1 := by
            rcases hat5 with h | h
            · exact .inl h
            · exact .inr (by rw [HSW.out]; simpa using h)
          clear hat5
          have hb5 : Below w.heap.size w w5 := (hbw4.alloc (by omega) _).grown hgrow5 (by simp; omega) hlt5
          have hk5 : Keeps (fun b => u3.ownBlock ≠ some b) w4 w5 := fun b hb hlt => (hgrow5.block b (by simp; omega) (fun e => hb e.symm)).trans (heap_alloc_old _ _ hlt)
          have hne5 : ∀ b, u3.ownBlock ≠ some b → b < w4.heap.size → (Value.slice (some ⟨g', 0, none⟩) (j + 1) cap').ownBlock ≠ some b := fun b hb hlt e => by
            simp [Value.ownBlock] at e
            rcases hat6 with h | h
            · exact hb (by rw [h, e])
            · omega
          have hfl : css.flatten ++ [Value.int .i64 o.code, .int .i64 o.line, .int .i64 o.a, .int .i64 o.b, .int .i64 o.c, .slice a3 na c3] = (css ++ [[Value.int .i64 o.code, .int .i64 o.line, .int .i64 o.a, .int .i64 o.b, .int .i64 o.c, .slice a3 na c3]]).flatten := by simp
          rw [hfl] at hown5
          have HOW5 := hid hown5
          have HR5 : Hid (∀ (i : Nat) (q : OpD) (cs : List Value), l[i]? = some q → (css ++ [[Value.int .i64 o.code, .int .i64 o.line, .int .i64 o.a, .int .i64 o.b, .int .i64 o.c, .slice a3 na c3]])[i]? = some cs → RdOpU (fun b => w.heap.size ≤ b ∧ (Value.slice (some ⟨g', 0, none⟩) (j + 1) cap').ownBlock ≠ some b) w5 cs (stripO q)) := fun i q cs hq hcs => by
            by_cases hij : i < j
            · rw [List.getElem?_append_left (by rw [HCL.out]; exact hij)] at hcs
              exact ((HCR.out i q cs hq hcs).keeps (Keeps.below hb24) (V := fun b => w.heap.size ≤ b ∧ u3.ownBlock ≠ some b) (fun _ h _ => h)).keeps (fun b hb => hk5 b hb.2) (fun b h hlt => ⟨h.1, hne5 b h.2 hlt⟩)
            · have hi2 := (List.getElem?_eq_some_iff.1 hcs).1
              simp [HCL.out] at hi2
              have hie : i = j := by omega
              subst hie
              rw [List.getElem?_append_right (by rw [HCL.out]; exact Nat.le_refl _), HCL.out, Nat.sub_self] at hcs
              simp at hcs
              rw [HO.out] at hq
              cases hq
              subst hcs
              exact HNEW.out.keeps (fun b hb => hk5 b hb.2) (fun b h hlt => ⟨h.1, hne5 b h.2 hlt⟩)
          clear hown5 hgrow5 hfl hat6
          go_wp2
          go_roundw
          case rel =>
            refine ⟨j + 1, css ++ [[Value.int .i64 o.code, .int .i64 o.line, .int .i64 o.a, .int .i64 o.b, .int .i64 o.c, .slice a3 na c3]], by go_num, by omega, HOW5.out, by simp [HCL.out], ?_, HR5.out, hb5⟩
            intro c hc
            rcases List.mem_append.1 hc with h | h
            · exact HC6.out c h
            · rw [List.mem_singleton.1 h]; rfl
          case measure => simp [intOf]; omega
      · have h5' : (o.code == 5) = false := by simpa using h5
        have hstr : stripO o = ⟨o.code, o.line, o.a, o.b, o.c, []⟩ := by unfold stripO; rw [if_neg h5]
        obtain ⟨w4, hw4⟩ : ∃ w4, w4 = wr.alloc (Obj.cells #[.int .i64 o.code, .int .i64 o.line, .int .i64 o.a, .int .i64 o.b, .int .i64 o.c, .slice none 0 0] 183) := ⟨_, rfl⟩
        have hb24 : Below wr.heap.size wr w4 := by rw [hw4]; exact (Below.refl _ _).alloc (Nat.le_refl _) _
        have hbw4 : Below w.heap.size w w4 := hbel.trans (hb24.mono hsz)
        have hs4 := hb24.size
        have HOW := hid (ownsRow_below hown hb24)
        have HNEW : Hid (RdOpU (fun b => w.heap.size ≤ b ∧ u3.ownBlock ≠ some b) w4 [.int .i64 o.code, .int .i64 o.line, .int .i64 o.a, .int .i64 o.b, .int .i64 o.c, .slice none 0 0] (stripO o)) := by
          show RdOpU _ _ _ _
          rw [hstr]
          exact ⟨none, 0, rfl, ⟨rfl, Nat.le_refl _, by unfold maxLen; omega, fun i hi => by simp at hi⟩, fun h => by simp at h⟩
        have hsw : w4.heap.size = wr.heap.size + 1 := by rw [hw4]; simp
        have HSW := hid hsw
        have hox := HOW.out
        rw [hw4] at hox
        have HOWX := hid hox
        clear hown h5 hoa hstr hox hsw
        have hlt5 : ∀ k, u3.ownBlock = some k → w.heap.size ≤ k := fun k hk => (HOW.out.lt k hk).1
        obtain ⟨i0, hi, hz0, hz1, hz2⟩ := info_parts Tryz.infoOp
        go_wp2_with (at_builtin; refine wpList_append_lies _ rfl (.tmp 22) (.tmp 24) 120 rfl w.heap.size 183 i0 (.agg #[.int .i64 0, .int .i64 0, .int .i64 0, .int .i64 0, .int .i64 0, .slice none 0 0]) 6 64 Tryz.underlying120 hi hz0 hz1 hz2 rfl (by decide) _ _ _ rfl (HOWX.out.alloc _) ⟨wr.heap.size + 1, 0, none⟩ 1 1 [.int .i64 o.code, .int .i64 o.line, .int .i64 o.a, .int .i64 o.b, .int .i64 o.c, .slice none 0 0] rfl rfl (six_new_at (by simp) _ _ _ _ _ _ _) (six_one _ _ _ _ _ _ _ _) (by decide) (by unfold maxLen; omega) (by omega) (by simp; omega) _ rfl ?_)
        intro g' cap' w5 hown5 hgrow5 hat5 hlt5'
        rw [← hw4] at hgrow5
        have hat6 : u3.ownBlock = some g' ∨ g' = w4.heap.size + 1 := by
          rcases hat5 with h | h
          · exact .inl h
          · exact .inr (by rw [HSW.out]; simpa using h)
        clear hat5
        have hb5 : Below w.heap.size w w5 := (hbw4.alloc (by omega) _).grown hgrow5 (by simp; omega) hlt5
        have hk5 : Keeps (fun b => u3.ownBlock ≠ some b) w4 w5 := fun b hb hlt => (hgrow5.block b (by simp; omega) (fun e => hb e.symm)).trans (heap_alloc_old _ _ hlt)
        have hne5 : ∀ b, u3.ownBlock ≠ some b → b < w4.heap.size → (Value.slice (some ⟨g', 0, none⟩) (j + 1) cap').ownBlock ≠ some b := fun b hb hlt e => by
          simp [Value.ownBlock] at e
          rcases hat6 with h | h
          · exact hb (by rw [h, e])
          · omega
        have hfl : css.flatten ++ [Value.int .i64 o.code, .int .i64 o.line, .int .i64 o.a, .int .i64 o.b, .int .i64 o.c, .slice none 0 0] = (css ++ [[Value.int .i64 o.code, .int .i64 o.line, .int .i64 o.a, .int .i64 o.b, .int .i64 o.c, .slice none 0 0]]).flatten := by simp
        rw [hfl] at hown5
        have HOW5 := hid hown5
        have HR5 : Hid (∀ (i : Nat) (q : OpD) (cs : List Value), l[i]? = some q → (css ++ [[Value.int .i64 o.code, .int .i64 o.line, .int .i64 o.a, .int .i64 o.b, .int .i64 o.c, .slice none 0 0]])[i]? = some cs → RdOpU (fun b => w.heap.size ≤ b ∧ (Value.slice (some ⟨g', 0, none⟩) (j + 1) cap').ownBlock ≠ some b) w5 cs (stripO q)) := fun i q cs hq hcs => by
          by_cases hij : i < j
          · rw [List.getElem?_append_left (by rw [HCL.out]; exact hij)] at hcs
            exact ((HCR.out i q cs hq hcs).keeps (Keeps.below hb24) (V := fun b => w.heap.size ≤ b ∧ u3.ownBlock ≠ some b) (fun _ h _ => h)).keeps (fun b hb => hk5 b hb.2) (fun b h hlt => ⟨h.1, hne5 b h.2 hlt⟩)
          · have hi2 := (List.getElem?_eq_some_iff.1 hcs).1
            simp [HCL.out] at hi2
            have hie : i = j := by omega
            subst hie
            rw [List.getElem?_append_right (by rw [HCL.out]; exact Nat.le_refl _), HCL.out, Nat.sub_self] at hcs
            simp at hcs
            rw [HO.out] at hq
            cases hq
            subst hcs
            exact HNEW.out.keeps (fun b hb => hk5 b hb.2) (fun b h hlt => ⟨h.1, hne5 b h.2 hlt⟩)
        clear hown5 hgrow5 hfl hat6
        go_wp2
        go_roundw
        case rel =>
          refine ⟨j + 1, css ++ [[Value.int .i64 o.code, .int .i64 o.line, .int .i64 o.a, .int .i64 o.b, .int .i64 o.c, .slice none 0 0]], by go_num, by omega, HOW5.out, by simp [HCL.out], ?_, HR5.out, hb5⟩
          intro c hc
          rcases List.mem_append.1 hc with h | h
          · exact HC6.out c h
          · rw [List.mem_singleton.1 h]; rfl
        case measure => simp [intOf]; omega
    · have hje : j = n := by omega
      subst hje
      have hjn' : decide ((j : Int) < (j : Int)) = false := by simp
      obtain ⟨a', cap', rfl, hrd⟩ := RdL_of_owns (R := RdOpU (fun b => w.heap.size ≤ b)) (ls := l.map stripO) hown HC6.out HCL.out (by rw [List.length_map, HN.out]) (fun i q cs hq hcs => by
        rw [List.getElem?_map] at hq
        obtain ⟨o, ho, rfl⟩ := Option.map_eq_some_iff.1 hq
        exact (HCR.out i o cs ho hcs).keeps (Keeps.below (Below.refl _ _)) (fun _ h _ => h.1))
      have HRD := hid hrd
      have HUU := hid (show InU (fun b => w.heap.size ≤ b) a' j from fun _ q hq => by
        subst hq
        exact (hown.lt q.block rfl).1)
      clear hown hrd
      go_wp2
      go_ret
      exact ⟨a', cap', rfl, HRD.out, HUU.out, hbel⟩
end Go.Proofs.YtffnfjkjlmlonaaGreatDoor
