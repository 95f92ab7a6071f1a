/- A region that draws its order and whose last operation waits for all the others: that one is carried out behind them. -/
import Derived.Deep.RegionHeldLaw
namespace Go.Proofs.YthaganponmnanaaGreatDoor

/-- What is asked behind all but the last. -/
def lastQ (P : Program) (oL : Oper) (Q : Exit → Act → World → Prop) : Exit → Act → World → Prop
  | .normal, a, w => oL.wp P a w (fun a w => Q .normal a w) Q
  | e, a, w => Q e a w

theorem operWp_last {P : Program} {oL o : Oper} {Q : Exit → Act → World → Prop} {a : Act} {w : World} {K : Act → World → Prop} (h : o.wp P a w K (lastQ P oL Q)) : o.wp P a w K Q := by
  unfold Oper.wp at *
  generalize (execOp a.eval o).run P w = r at *
  cases r with
  | ok n w' =>
    cases n <;> simp only [Oper.upon] at h ⊢ <;>
      first
        | exact h
        | exact Calls.mono h (fun e w'' he => by cases e <;> exact he)
  | halt x w' => cases x <;> simp only [Oper.upon] at h ⊢ <;> exact h

theorem wpOp_last {P : Program} {ops : Array Oper} {oL : Oper} {Q : Exit → Act → World → Prop} {i : Nat} {K : Act → World → Prop} {a : Act} {w : World} (h : wpOp P ops (lastQ P oL Q) i K a w) : wpOp P ops Q i K a w := by
  unfold wpOp at *
  split
  · next ho => simpa [ho] using h
  · next o ho =>
    simp only [ho] at h
    split
    · next hw =>
      simp only [hw, if_true] at h
      exact h.imp operWp_last (fun h => ⟨h.1, h.2⟩)
    · next hw =>
      simp only [hw] at h
      exact h

theorem setL_getD {listed : Array Bool} {L j : Nat} {d : Bool} (h : j ≠ L) : (listed.setIfInBounds L true).getD j d = listed.getD j d := by
  simp [Array.getD_eq_getD_getElem?, Ne.symm h]

theorem wpAny_last {P : Program} {md : Region.Mode} {ops : Array Oper} {Q : Exit → Act → World → Prop} {S : World → Prop} {L : Nat} {oL : Oper} (hL : ops[L]? = some oL) (hn : L + 1 = ops.size) (hg : oL.guard = none)
    (hw : ∀ j, j < L → ∃ e ∈ oL.after, Region.binds md e = true ∧ e.on = j) (hb : ∀ (i : Nat) (o : Oper), ops[i]? = some o → ∀ e ∈ o.after, e.on < i) :
    ∀ (fuel : Nat) (listed : Array Bool) (a : Act) (w : World), listed.size = ops.size → listed.getD L true = false → wpAnyH P md ops (lastQ P oL Q) S fuel (listed.setIfInBounds L true) a w → wpAny P md ops Q (fuel + 1) listed a w := by
  have least : ∀ (n : Nat) (listed : Array Bool), listed.size = ops.size → n ≤ L → (∀ j, j < n → listed.getD j true = true) → listed.getD L true = false → ∃ j, j ∈ Region.ready md ops listed ∧ n ≤ j ∧ (j = L → ∀ i, i < L → listed.getD i true = true) := by
    intro n listed hs hn' hall hLf
    generalize hm : L - n = m
    induction m generalizing n with
    | zero =>
      have : n = L := by omega
      subst this
      refine ⟨n, mem_ready.2 ⟨hLf, oL, hL, fun e he _ => ?_⟩, Nat.le_refl _, fun _ => hall⟩
      have hlt := hb n oL hL e he
      have h1 := hall e.on hlt
      have hsz : e.on < listed.size := by omega
      simp [Array.getD_eq_getD_getElem?, Array.getElem?_eq_getElem hsz] at h1 ⊢
      exact h1
    | succ m ih =>
      cases hnl : listed.getD n true with
      | true =>
        obtain ⟨j, h1, h2, h3⟩ := ih (n + 1) (by omega) (fun j hj => by
          rcases Nat.lt_or_ge j n with h | h
          · exact hall j h
          · have : j = n := by omega
            rw [this]; exact hnl) (by omega)
        exact ⟨j, h1, by omega, h3⟩
      | false =>
        obtain ⟨o, ho⟩ : ∃ o, ops[n]? = some o := ⟨_, Array.getElem?_eq_getElem (by omega)⟩
        refine ⟨n, mem_ready.2 ⟨hnl, o, ho, fun e he _ => ?_⟩, Nat.le_refl _, fun e => by omega⟩
        have hlt := hb n o ho e he
        have h1 := hall e.on hlt
        have hsz : e.on < listed.size := by omega
        simp [Array.getD_eq_getD_getElem?, Array.getElem?_eq_getElem hsz] at h1 ⊢
        exact h1
  have fin : ∀ (fuel : Nat) (listed : Array Bool) (a : Act) (w : World), listed.size = ops.size → listed.getD L true = false → L ∈ Region.ready md ops listed → (Region.ready md ops (listed.setIfInBounds L true) = [] → lastQ P oL Q .normal a w) → wpOp P ops Q L (wpAny P md ops Q fuel (listed.setIfInBounds L true)) a w := by
    intro fuel listed a w hs hLf hr h
    obtain ⟨-, o, ho, hall⟩ := mem_ready.1 hr
    rw [hL] at ho
    cases ho
    have hemp : Region.ready md ops (listed.setIfInBounds L true) = [] := by
      refine List.eq_nil_iff_forall_not_mem.2 fun j hj => ?_
      obtain ⟨h1, o, ho, -⟩ := mem_ready.1 hj
      have hlt : j < ops.size := (Array.getElem?_eq_some_iff.1 ho).1
      by_cases hjL : j = L
      · subst hjL
        have hsz : j < listed.size := by omega
        simp [Array.getD_eq_getD_getElem?, hsz] at h1
      · rw [setL_getD hjL] at h1
        obtain ⟨e, he, hbi, rfl⟩ := hw j (by omega)
        have h2 := hall e he hbi
        have hsz : e.on < listed.size := by omega
        simp [Array.getD_eq_getD_getElem?, Array.getElem?_eq_getElem hsz] at h1 h2
        rw [h1] at h2
        cases h2
    have hq := h hemp
    unfold wpOp
    simp only [hL]
    have hwa : Region.wanted oL (yielded ops a.tmps) = true := by simp [Region.wanted, hg]
    rw [if_pos hwa]
    refine .inl (Oper.wp_mono (fun a w hq => ?_) hq)
    cases fuel with
    | zero => exact ⟨hemp, hq⟩
    | succ n => exact ⟨fun _ => hq, fun i hi => by rw [hemp] at hi; cases hi⟩
  have other : ∀ (i : Nat) (listed : Array Bool), i ≠ L → i ∈ Region.ready md ops listed → i ∈ Region.ready md ops (listed.setIfInBounds L true) := by
    intro i listed hne hi
    obtain ⟨h1, o, ho, hall⟩ := mem_ready.1 hi
    have hlt : i < ops.size := (Array.getElem?_eq_some_iff.1 ho).1
    refine mem_ready.2 ⟨by rw [setL_getD hne]; exact h1, o, ho, fun e he hbi => ?_⟩
    have := hb i o ho e he
    rw [setL_getD (by omega)]
    exact hall e he hbi
  intro fuel
  induction fuel with
  | zero =>
    intro listed a w hs hLf h
    obtain ⟨j0, hj0, -, -⟩ := least 0 listed hs (by omega) (fun j hj => by omega) hLf
    refine ⟨fun e => (by rw [e] at hj0; cases hj0), fun i hi => ?_⟩
    by_cases hiL : i = L
    · subst hiL
      exact fin 0 listed a w hs hLf hi (fun _ => h.2)
    · have := other i listed hiL hi
      rw [h.1] at this
      cases this
  | succ fuel ih =>
    intro listed a w hs hLf h
    obtain ⟨j0, hj0, -, -⟩ := least 0 listed hs (by omega) (fun j hj => by omega) hLf
    refine ⟨fun e => (by rw [e] at hj0; cases hj0), fun i hi => ?_⟩
    by_cases hiL : i = L
    · subst hiL
      exact fin _ listed a w hs hLf hi h.1
    · refine wpOp_mono (fun a' w' h' => ?_) (wpOp_last (h.2 i (other i listed hiL hi)))
      refine ih (listed.setIfInBounds i true) a' w' (by simpa using hs) (by rw [setL_getD (Ne.symm hiL)]; exact hLf) ?_
      rw [Array.setIfInBounds_comm _ _ hiL]
      exact h'.2

/-- The beginning of such a region: number L, its last operation, is told apart. -/
theorem wp_region_last {P : Program} {ops : Array Oper} {Q : Exit → Act → World → Prop} {id : Nat} {a : Act} {w : World} (S : World → Prop) (L : Nat) (oL : Oper) (hm : P.follows .mixedOrders = true) (hL : ops[L]? = some oL) (hn : L + 1 = ops.size) (hg : oL.guard = none)
    (hw : ((List.range L).all fun j => oL.after.any fun e => Region.binds .any e && e.on == j) = true) (hb : ((List.range ops.size).all fun i => ((ops[i]?).map fun o => o.after.all fun e => decide (e.on < i)).getD true) = true) (hS : S w.drew)
    (h : S w.drew → wpAnyH P .any ops (lastQ P oL Q) S L ((Array.replicate ops.size false).setIfInBounds L true) a w.drew) : (Code.region id ops true).wp P Q a w := by
  refine wp_region_any hm ?_
  have hw' : ∀ j, j < L → ∃ e ∈ oL.after, Region.binds .any e = true ∧ e.on = j := fun j hj => by
    have h1 := List.all_eq_true.1 hw j (List.mem_range.2 hj)
    obtain ⟨e, he, h2⟩ := Array.any_eq_true'.1 h1
    simp at h2
    exact ⟨e, he, h2⟩
  have hb' : ∀ (i : Nat) (o : Oper), ops[i]? = some o → ∀ e ∈ o.after, e.on < i := fun i o ho e he => by
    have h1 := List.all_eq_true.1 hb i (List.mem_range.2 (Array.getElem?_eq_some_iff.1 ho).1)
    rw [ho] at h1
    simp only [Option.map_some, Option.getD_some] at h1
    have h2 := Array.all_eq_true'.1 h1 e he
    simpa using h2
  have := wpAny_last (S := S) hL hn hg hw' hb' L (Array.replicate ops.size false) a w.drew (by simp) (by
    have hlt : L < ops.size := by omega
    simp [Array.getD_eq_getD_getElem?, hlt]) (h hS)
  rw [hn] at this
  exact this
end Go.Proofs.YthaganponmnanaaGreatDoor
