/- Contract of the developers' program.Copy: a program written anew, without the Args of what is no Call. Contracts of the developers' run.argsMayBe and (*run.Run).goesOn. -/
import Derived.Test.YtffnfjkjlmlonaaGreatDoorD5
import Derived.Test.YtffnfjkjlmlonaaGreatDoorZ26
import Derived.Test.YtffnfjkjlmlonaaGreatDoorZ31
import Derived.Test.YtffnfjkjlmlonaaGreatDoorZ10
namespace Go.Proofs.YtffnfjkjlmlonaaGreatDoor
open Go.RowKit

def RdFnU (U : Nat → Prop) (w : World) (cs : List Value) (f : FnD) : Prop :=
  ∃ a cap, cs = [.string f.name, .string f.file, .int .i64 f.params, .int .i64 f.locals, .slice a f.body.length cap] ∧ RdL 6 (RdOpU U) w a f.body.length cap f.body ∧ InU U a f.body.length ∧ f.name.size ≤ maxLen ∧ f.file.size ≤ maxLen
theorem RdOpU.plain {U : Nat → Prop} {w : World} {cs : List Value} {o : OpD} (h : RdOpU U w cs o) : RdOp w cs o := by
  obtain ⟨a, cap, e, hr, _⟩ := h
  exact ⟨a, cap, e, hr⟩
theorem RdFnU.keeps {U V : Nat → Prop} {w w' : World} {cs : List Value} {f : FnD} (h : RdFnU U w cs f) (hk : Keeps U w w') (hV : ∀ b, U b → b < w.heap.size → V b) : RdFnU V w' cs f := by
  obtain ⟨a, cap, e, hr, hU, h1, h2⟩ := h
  refine ⟨a, cap, e, hr.keeps hU hk (fun _ _ h => h.keeps hk hV), fun h0 q hq => hV _ (hU h0 q hq) ?_, h1, h2⟩
  obtain ⟨x, hx⟩ : ∃ x, f.body[0]? = some x := ⟨_, List.getElem?_eq_getElem h0⟩
  obtain ⟨b, off, cs2, e2, hl, hc, _⟩ := hr.2.2.2 0 x hx
  rw [hq] at e2
  cases e2
  exact World.block_lt_of_cell? w _ (hc 0 _ (List.getElem?_eq_getElem (by omega)))
theorem five_new (w : World) (a b c d e : Value) (t : TypeId) : ∀ j u, [a, b, c, d, e][j]? = some u → (w.alloc (.cells #[a, b, c, d, e] t)).cell? ((⟨w.heap.size, 0, none⟩ : Addr).add j) = some u := by
  intro i u hu
  match i, hu with
  | 0, hu => simp at hu; subst hu; simp [Addr.add]
  | 1, hu => simp at hu; subst hu; simp [Addr.add]
  | 2, hu => simp at hu; subst hu; simp [Addr.add]
  | 3, hu => simp at hu; subst hu; simp [Addr.add]
  | 4, hu => simp at hu; subst hu; simp [Addr.add]
theorem five_new_at {w : World} {n : Nat} (h : w.heap.size = n) (a b c d e : Value) (t : TypeId) : ∀ j u, [a, b, c, d, e][j]? = some u → (w.alloc (.cells #[a, b, c, d, e] t)).cell? ((⟨n, 0, none⟩ : Addr).add j) = some u := by subst h; exact five_new w a b c d e t
theorem five_one (a b : ByteArray) (c d : Int) (x : Option Addr) (n m : Nat) : ∀ u ∈ [Value.string a, .string b, .int .i64 c, .int .i64 d, .slice x n m], u.oneCell' = true := by
  intro u hu; simp at hu; rcases hu with rfl | rfl | rfl | rfl | rfl <;> rfl

/-- A program whose blocks are all of the one kind reads the same where these blocks are kept. -/
theorem rdP_keeps {U : Nat → Prop} {w w' : World} {a : Option Addr} {len cap : Nat} {p : List FnD} (h : RdL 5 (RdFnU U) w a len cap p) (hU : InU U a len) (hk : Keeps U w w') : RdP w' a len cap p :=
  h.keeps hU hk (fun cs q h => by
    obtain ⟨a, c, e, hr, hU, h1, h2⟩ := h
    exact ⟨a, c, e, hr.keeps hU hk (fun _ _ h => (h.keeps hk (V := fun _ => True) (fun _ _ _ => trivial)).plain), h1, h2⟩)

set_option maxHeartbeats 4000000 in
set_option maxRecDepth 100000 in
theorem Copy_any (pa : Option Addr) (pcap : Nat) (p : List FnD) (w : World) (hp : RdP w pa p.length pcap p) (hg : Good p) :
    Calls Tryz.prog 193 #[.agg #[.slice pa p.length pcap]] w fun e w' => ∃ a cap, e = .returned (.agg #[.slice a p.length cap]) ∧ RdL 5 (RdFnU (fun b => w.heap.size ≤ b)) w' a p.length cap (strip p) ∧ InU (fun b => w.heap.size ≤ b) a p.length ∧ Below w.heap.size w w' := by
  have HR := hid hp
  have hcap := hp.2.1
  have hmax := hp.2.2.1
  have hlen := hg.len
  unfold maxLen at hmax
  have HG := hid hg
  obtain ⟨n, hn⟩ : ∃ n, n = p.length := ⟨_, rfl⟩
  rw [← hn] at HR hcap hlen ⊢
  have HN := hid hn
  clear hp hg hn
  obtain ⟨wb, hwb⟩ : ∃ wb, wb = (w.alloc (Obj.cells #[.slice pa n pcap] 44)).alloc (Obj.cells #[.slice none 0 0] 44) := ⟨_, rfl⟩
  have hbb : Below w.heap.size w wb := by rw [hwb]; exact ((Below.refl _ _).alloc (Nat.le_refl _) _).alloc (by simp) _
  have hbs : wb.heap.size = w.heap.size + 2 := by rw [hwb]; simp
  have k1 : wb.heap[w.heap.size + 1]? = some (.cells #[.slice none 0 0] 44 (0, 0)) := by rw [hwb]; exact heap_new_at (by simp)
  have HK1 := hid k1
  clear k1
  go_enter Tryz.func193, Tryz.ntmps193
  go_wp2
  go_loopw [3, 9] (fun lv i wr => ∃ (j : Nat) (css : List (List Value)), i = .int .i64 j ∧ j ≤ n ∧ wr.ownsRow wb.heap.size 122 5 lv j css.flatten ∧ css.length = j ∧ (∀ c ∈ css, c.length = 5) ∧ (∀ (i : Nat) (q : FnD) (cs : List Value), p[i]? = some q → css[i]? = some cs → RdFnU (fun b => wb.heap.size ≤ b ∧ lv.ownBlock ≠ some b) wr cs (stripF q)) ∧ Below wb.heap.size wb wr) (fun _ i _ => n - (intOf i).toNat)
  case atStart => exact ⟨0, [], rfl, by omega, ⟨rfl, .inl ⟨rfl, rfl⟩⟩, rfl, by simp, by simp, by rw [hwb]; exact Below.refl _ _⟩
  case round =>
    clear hwb
    obtain ⟨j, css, rfl, hj, hown, hcl, hc5, hcr, hbel⟩ := hrel
    have HC5 := hid hc5
    have HCR := hid hcr
    have HCL := hid hcl
    have hsz := hbel.size
    have hbw := hbb.trans (hbel.mono hbb.size)
    clear hc5 hcr hcl
    by_cases hjn : j < n
    · obtain ⟨x, hx⟩ : ∃ x, p[j]? = some x := ⟨_, List.getElem?_eq_getElem (by rw [← HN.out]; exact hjn)⟩
      have hfk := HG.out.fns j x hx
      obtain ⟨b, off, ba, bcap, rfl, -, d0, d1, d2, d3, d4, hrb, hn1, hn2⟩ := (HR.out.below hbw).at j x hx
      have lt0 := World.block_lt_of_cell? wr _ d0
      simp only at lt0
      have HX := hid hx
      have HB := hid (fun (W : World) (hW : Below wr.heap.size wr W) => copyBody_any ba bcap x.body W (hrb.below hW (fun _ _ h => h.below hW)) hfk.body.2 (fun o ho h5 => by
        obtain ⟨i, hi⟩ := List.mem_iff_getElem?.1 ho
        have hc := (hfk.ops i o hi).call h5
        have hf2 := HG.out.fns _ _ (fnAt_some ⟨hc.1, hc.2.1⟩)
        have h1 := hf2.params
        have h2 := hf2.locals
        have h3 := hc.2.2.1
        omega))
      have hstr : stripF x = ⟨x.name, x.file, x.params, x.locals, x.body.map stripO⟩ := rfl
      have hjn' : (j : Int) < (n : Int) := by omega
      obtain ⟨bl, hbl⟩ : ∃ v, v = x.body.length := ⟨_, rfl⟩
      rw [← hbl] at d4 HB
      have HBL := hid hbl
      clear hx hrb hfk hbl
      obtain ⟨w1, hw1⟩ : ∃ w1, w1 = wr.alloc (Obj.cells #[.string x.name, .string x.file, .int .i64 x.params, .int .i64 x.locals, .slice ba bl bcap] 122) := ⟨_, rfl⟩
      have hb1 : Below wr.heap.size wr w1 := by rw [hw1]; exact (Below.refl _ _).alloc (Nat.le_refl _) _
      have hs1 : w1.heap.size = wr.heap.size + 1 := by rw [hw1]; simp
      have m1 : w1.heap[wr.heap.size]? = some (.cells #[.string x.name, .string x.file, .int .i64 x.params, .int .i64 x.locals, .slice ba bl bcap] 122 (0, 0)) := by rw [hw1]; exact heap_alloc_new _ _
      have HBW := hid (HB.out w1 hb1)
      go_wp2_with fail
      rw [← hw1]
      clear hw1
      refine HBW.out.mono ?_
      rintro e w2 ⟨a2, c2, rfl, hrd2, hU2, hb2⟩
      have hs2 := hb2.size
      have m2 := (hb2.block wr.heap.size (by omega)).trans m1
      have e0 : w2.cell? ⟨wr.heap.size, 0, none⟩ = some (.string x.name) := by simp [World.cell?, m2]
      have e1 : w2.cell? ⟨wr.heap.size, 1, none⟩ = some (.string x.file) := by simp [World.cell?, m2]
      have e2 : w2.cell? ⟨wr.heap.size, 2, none⟩ = some (.int .i64 x.params) := by simp [World.cell?, m2]
      have e3 : w2.cell? ⟨wr.heap.size, 3, none⟩ = some (.int .i64 x.locals) := by simp [World.cell?, m2]
      have e4 : w2.cell? ⟨wr.heap.size, 4, none⟩ = some (.slice ba bl bcap) := by simp [World.cell?, m2]
      have f4 : w2.frozen? ⟨wr.heap.size, 4, none⟩ = false := by simp [World.frozen?, m2]
      have hb12 : Below wr.heap.size wr w2 := hb1.trans (hb2.mono hb1.size)
      have hs12 := hb12.size
      obtain ⟨w4, hw4⟩ : ∃ w4, w4 = w2.setCell ⟨wr.heap.size, 4, none⟩ (.slice a2 bl c2) := ⟨_, rfl⟩
      have hb24 : Below wr.heap.size wr w4 := by rw [hw4]; exact hb12.setCell (p := ⟨wr.heap.size, 4, none⟩) (Nat.le_refl _) _
      have hbw4 : Below wb.heap.size wb w4 := hbel.trans (hb24.mono hsz)
      have hs4 := hb24.size
      have HOW := hid (ownsRow_below hown hb24)
      have hult : ∀ k, u3.ownBlock = some k → k < wr.heap.size := fun k hk => (hown.lt k hk).2
      have HNEW : Hid (RdFnU (fun b => wb.heap.size ≤ b ∧ u3.ownBlock ≠ some b) w4 [Value.string x.name, .string x.file, .int .i64 x.params, .int .i64 x.locals, .slice a2 bl c2] (stripF x)) := by
        show RdFnU _ _ _ _
        rw [hstr, hw4]
        have hmap : (x.body.map stripO).length = bl := by rw [List.length_map, HBL.out]
        have hkk : Keeps (fun b => w1.heap.size ≤ b) w2 (w2.setCell ⟨wr.heap.size, 4, none⟩ (.slice a2 bl c2)) := Keeps.setCell (fun h => by have h' : w1.heap.size ≤ wr.heap.size := h; omega) _
        have hVV : ∀ b, w1.heap.size ≤ b → wb.heap.size ≤ b ∧ u3.ownBlock ≠ some b := fun b hb => ⟨by omega, fun e => by have := hult b e; omega⟩
        refine ⟨a2, c2, by simp only [hmap], ?_, fun h0 q hq => hVV _ (hU2 (by simp only [hmap] at h0; exact h0) q hq), hn1, hn2⟩
        simp only [hmap]
        exact hrd2.keeps hU2 hkk (fun _ _ h => h.keeps hkk (fun b hb _ => hVV b hb))
      have hsw : w4.heap.size = w2.heap.size := by rw [hw4]; simp [World.setCell]
      have HSW := hid hsw
      have hox := HOW.out
      rw [hw4] at hox
      have HOWX := hid hox
      clear hown hstr hox hsw hrd2 hU2 m1 m2 hn1 hn2 hs1
      have hlt5 : ∀ k, u3.ownBlock = some k → wb.heap.size ≤ k := fun k hk => (HOW.out.lt k hk).1
      obtain ⟨i0, hi, hz0, hz1, hz2⟩ := info_parts Tryz.infoFn
      go_wp2_with (at_builtin; refine wpList_append_lies _ rfl (.tmp 17) (.tmp 19) 42 rfl wb.heap.size 122 i0 (.agg #[.string ⟨#[]⟩, .string ⟨#[]⟩, .int .i64 0, .int .i64 0, .slice none 0 0]) 5 72 Tryz.underlying42 hi hz0 hz1 hz2 rfl (by decide) _ _ _ rfl (HOWX.out.alloc _) ⟨w2.heap.size, 0, none⟩ 1 1 [Value.string x.name, .string x.file, .int .i64 x.params, .int .i64 x.locals, .slice a2 bl c2] rfl rfl (five_new_at (by simp) _ _ _ _ _ _) (five_one _ _ _ _ _ _ _) (by decide) (by unfold maxLen; omega) (by omega) (by simp; omega) _ rfl ?_)
      intro g' cap' w5 hown5 hgrow5 hat5 hlt5'
      rw [← hbs] at hown5
      rw [← hw4] at hgrow5
      have hat6 : u3.ownBlock = some g' ∨ g' = w4.heap.size + 1 := by
        rcases hat5 with h | h
        · exact .inl h
        · exact .inr (by rw [HSW.out]; simpa using h)
      clear hat5
      have hb5 : Below wb.heap.size wb w5 := (hbw4.alloc (by omega) _).grown hgrow5 (by simp; omega) hlt5
      have hk5 : Keeps (fun b => u3.ownBlock ≠ some b) w4 w5 := fun b hb hlt => (hgrow5.block b (by simp; omega) (fun e => hb e.symm)).trans (heap_alloc_old _ _ hlt)
      have hne5 : ∀ b, u3.ownBlock ≠ some b → b < w4.heap.size → (Value.slice (some ⟨g', 0, none⟩) (j + 1) cap').ownBlock ≠ some b := fun b hb hlt e => by
        simp [Value.ownBlock] at e
        rcases hat6 with h | h
        · exact hb (by rw [h, e])
        · omega
      have hfl : css.flatten ++ [Value.string x.name, .string x.file, .int .i64 x.params, .int .i64 x.locals, .slice a2 bl c2] = (css ++ [[Value.string x.name, .string x.file, .int .i64 x.params, .int .i64 x.locals, .slice a2 bl c2]]).flatten := by simp
      rw [hfl] at hown5
      have HOW5 := hid hown5
      have HR5 : Hid (∀ (i : Nat) (q : FnD) (cs : List Value), p[i]? = some q → (css ++ [[Value.string x.name, .string x.file, .int .i64 x.params, .int .i64 x.locals, .slice a2 bl c2]])[i]? = some cs → RdFnU (fun b => wb.heap.size ≤ b ∧ (Value.slice (some ⟨g', 0, none⟩) (j + 1) cap').ownBlock ≠ some b) w5 cs (stripF q)) := fun i q cs hq hcs => by
        by_cases hij : i < j
        · rw [List.getElem?_append_left (by rw [HCL.out]; exact hij)] at hcs
          exact ((HCR.out i q cs hq hcs).keeps (Keeps.below hb24) (V := fun b => wb.heap.size ≤ b ∧ u3.ownBlock ≠ some b) (fun _ h _ => h)).keeps (fun b hb => hk5 b hb.2) (fun b h hlt => ⟨h.1, hne5 b h.2 hlt⟩)
        · have hi2 := (List.getElem?_eq_some_iff.1 hcs).1
          simp [HCL.out] at hi2
          have hie : i = j := by omega
          subst hie
          rw [List.getElem?_append_right (by rw [HCL.out]; exact Nat.le_refl _), HCL.out, Nat.sub_self] at hcs
          simp at hcs
          rw [HX.out] at hq
          cases hq
          subst hcs
          exact HNEW.out.keeps (fun b hb => hk5 b hb.2) (fun b h hlt => ⟨h.1, hne5 b h.2 hlt⟩)
      clear hown5 hgrow5 hfl hat6
      go_wp2
      go_roundw
      case rel =>
        refine ⟨j + 1, css ++ [[Value.string x.name, .string x.file, .int .i64 x.params, .int .i64 x.locals, .slice a2 bl c2]], by go_num, by omega, HOW5.out, by simp [HCL.out], ?_, HR5.out, hb5⟩
        intro c hc
        rcases List.mem_append.1 hc with h | h
        · exact HC5.out c h
        · rw [List.mem_singleton.1 h]; rfl
      case measure => simp [intOf]; omega
    · have hje : j = n := by omega
      subst hje
      have hjn' : decide ((j : Int) < (j : Int)) = false := by simp
      obtain ⟨a', cap', rfl, hrd⟩ := RdL_of_owns (R := RdFnU (fun b => wb.heap.size ≤ b)) (ls := strip p) hown HC5.out HCL.out (by unfold strip; rw [List.length_map, HN.out]) (fun i q cs hq hcs => by
        unfold strip at hq
        rw [List.getElem?_map] at hq
        obtain ⟨o, ho, rfl⟩ := Option.map_eq_some_iff.1 hq
        exact (HCR.out i o cs ho hcs).keeps (Keeps.below (Below.refl _ _)) (fun _ h _ => h.1))
      have hUU : InU (fun b => wb.heap.size ≤ b) a' j := fun _ q hq => by
        subst hq
        exact (hown.lt q.block rfl).1
      have kr := (hbel.block (w.heap.size + 1) (by omega)).trans HK1.out
      have z0 : wr.cell? ⟨w.heap.size + 1, 0, none⟩ = some (.slice none 0 0) := by simp [World.cell?, kr]
      have y0 : wr.frozen? ⟨w.heap.size + 1, 0, none⟩ = false := by simp [World.frozen?, kr]
      have hkk : Keeps (fun b => wb.heap.size ≤ b) wr (wr.setCell ⟨w.heap.size + 1, 0, none⟩ (.slice a' j cap')) := Keeps.setCell (fun h => by have h' : wb.heap.size ≤ w.heap.size + 1 := h; omega) _
      have hwbb : w.heap.size ≤ wb.heap.size := by omega
      have HRD : Hid (RdL 5 (RdFnU (fun b => w.heap.size ≤ b)) (wr.setCell ⟨w.heap.size + 1, 0, none⟩ (.slice a' j cap')) a' j cap' (strip p)) := hrd.keeps hUU hkk (fun cs q h => h.keeps hkk (fun b hb _ => Nat.le_trans hwbb hb))
      have HUU : Hid (InU (fun b => w.heap.size ≤ b) a' j) := fun h0 q hq => Nat.le_trans hwbb (hUU h0 q hq)
      have HBE := hid (hbw.setCell (p := ⟨w.heap.size + 1, 0, none⟩) (Nat.le_succ _) (.slice a' j cap'))
      clear hown hrd hUU hkk kr
      go_wp2
      exact bodyPost_ret (v := .agg #[.slice a' j cap']) (by simp [results, Tryz.results193, go_sem, z0]) rfl ⟨a', cap', rfl, HRD.out, HUU.out, HBE.out⟩
end Go.Proofs.YtffnfjkjlmlonaaGreatDoor
namespace Go.Proofs.YtffnfjkjlmlonaaGreatDoor
open Go.RowKit

set_option maxHeartbeats 2000000 in
set_option maxRecDepth 100000 in
theorem runArgs_any (p : List FnD) (aa : Option Addr) (acap : Nat) (args : List Int) (w : World) (hr : Rd .i64 w aa args.length acap args) :
    Calls Tryz.prog 192 #[.slice aa args.length acap, .int .i64 (fnAt p 0).params] w fun r w' => r = .returned (.bool (givenB p args)) ∧ Below w.heap.size w w' := by
  have hgb : givenB p args = (args.all (fun n => withB n 1000) && ((args.length : Int) == (fnAt p 0).params)) := rfl
  obtain ⟨gb, hgb2⟩ : ∃ v, v = givenB p args := ⟨_, rfl⟩
  rw [← hgb2] at hgb ⊢
  obtain ⟨k, hk0⟩ : ∃ v, v = (fnAt p 0).params := ⟨_, rfl⟩
  rw [← hk0] at hgb ⊢
  obtain ⟨na, hna⟩ : ∃ v, v = args.length := ⟨_, rfl⟩
  rw [← hna] at hgb hr ⊢
  have HGB := hid hgb
  have HL := hid hr.hlen
  have hcap := hr.hcap
  have hmax := hr.hmax
  unfold maxLen at hmax
  clear hgb hgb2 hk0 hna
  by_cases hk : (na : Int) = k
  · have hk' : ((na : Int) != k) = false := by simpa using hk
    have HE : Hid (gb = args.all fun n => withB n 1000) := by
      show _ = _
      have : ((na : Int) == k) = true := by simpa using hk
      rw [HGB.out, this, Bool.and_true]
    clear hk HGB
    go_enter Tryz.func192, Tryz.ntmps192
    go_wp2
    go_loopw [13] (fun i wr => ∃ j : Nat, i = .int .i64 j ∧ j ≤ na ∧ ((args.take j).all fun n => withB n 1000) = true ∧ Below w.heap.size w wr) (fun i _ => na - (intOf i).toNat)
    case atStart => exact ⟨0, rfl, by omega, rfl, Below.refl _ _⟩
    case round =>
      obtain ⟨j, rfl, hj, hall, hbel⟩ := hrel
      have HA := hid hall
      clear hall
      by_cases hjn : j < na
      · obtain ⟨b, off, rfl, hc⟩ := (hr.below hbel (Nat.le_refl _)).cell j hjn
        have hst := all_take_succ args j (args.getD j 0) (fun n => withB n 1000) (by rw [List.getD_eq_getElem?_getD, List.getElem?_eq_getElem (by rw [HL.out]; exact hjn)]; rfl)
        rw [HA.out, Bool.true_and] at hst
        generalize args.getD j 0 = v at hc hst
        have HIS := hid (fun W => pIsValue_any v W)
        have HST := hid hst
        clear hst hr
        have hjn' : (j : Int) < (na : Int) := by omega
        obtain ⟨t, ht⟩ : ∃ t, t = withB v 1000 := ⟨_, rfl⟩
        rw [← ht] at HIS HST
        clear ht
        cases t with
        | true =>
          go_wp2_with fail
          refine (HIS.out _).mono ?_
          rintro e w2 ⟨rfl, rfl⟩
          go_wp2
          go_roundw
          case rel => exact ⟨j + 1, by go_num, by omega, HST.out, hbel⟩
          case measure => simp [intOf]; omega
        | false =>
          have HF : Hid (gb = false) := by
            show _ = _
            have e1 : args = args.take (j + 1) ++ args.drop (j + 1) := (List.take_append_drop _ _).symm
            rw [HE.out, e1, List.all_append, HST.out, Bool.false_and]
          go_wp2_with fail
          refine (HIS.out _).mono ?_
          rintro e w2 ⟨rfl, rfl⟩
          go_wp2
          go_ret
          exact ⟨ret_bool HF.out.symm, hbel⟩
      · have HF : Hid (gb = true) := by
          show _ = _
          have := HA.out
          rw [List.take_of_length_le (by rw [HL.out]; omega)] at this
          rw [HE.out]
          exact this
        have hjn' : decide ((j : Int) < (na : Int)) = false := by simp; omega
        go_wp2
        go_ret
        exact ⟨ret_bool HF.out.symm, hbel⟩
  · have hk' : ((na : Int) != k) = true := by simpa using hk
    have HF : Hid (gb = false) := by
      show _ = _
      have : ((na : Int) == k) = false := by simpa using hk
      rw [HGB.out, this, Bool.and_false]
    clear hk
    go_enter Tryz.func192, Tryz.ntmps192
    go_wp2
    go_ret
    exact ⟨ret_bool HF.out.symm, Below.refl _ _⟩

set_option maxHeartbeats 1000000 in
set_option maxRecDepth 100000 in
theorem goesOn_any (rb : Nat) (fa : Option Addr) (n fcap : Nat) (st : Int) (w : World) (c1 : w.cell? ⟨rb, 1, none⟩ = some (.slice fa n fcap)) (c2 : w.cell? ⟨rb, 2, none⟩ = some (.int .i64 st)) (hn : n ≤ 1000) (hst : st = 0 → 0 < n) :
    Calls Tryz.prog 194 #[.pointer (some ⟨rb, 0, none⟩)] w fun r w' => r = .returned (.bool (decide (st = 0))) ∧ Below w.heap.size w w' := by
  by_cases h0 : st = 0
  · have hn0 := hst h0
    subst h0
    have hn' : (0 : Int) < (n : Int) := by omega
    go_enter Tryz.func194, Tryz.ntmps194
    go_wp2
    go_ret
    exact ⟨rfl, Below.refl _ _⟩
  · have h0' : (st == 0) = false := by simpa using h0
    have HF : Hid (decide (st = 0) = false) := by show _ = _; simpa using h0
    clear h0 hst
    go_enter Tryz.func194, Tryz.ntmps194
    go_wp2
    go_ret
    exact ⟨ret_bool HF.out.symm, Below.refl _ _⟩
end Go.Proofs.YtffnfjkjlmlonaaGreatDoor
