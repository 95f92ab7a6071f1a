/- How many places a code has: the developers' way of counting and the reference's come to the same; nothing is claimed of the program here. -/
import Derived.Test.YtooinlilplecpabQ0
namespace Go.Proofs.Ytooinlilplecpab
open Go.RowKit

/-- So many places, however many they are. -/
def sizB (rec : Int → List Int → Nat) (p : List FnD) (bud : Int) (ar : List Int) : List OpD → Nat
  | [] => 0
  | o :: r => 1 + (if inlB p bud ar o = true then rec o.b ar else 0) + sizB rec p bud ar r
def sizI (p : List FnD) (bud : Int) : Nat → Int → List Int → Nat
  | 0, _, _ => 0
  | f + 1, fn, ar => sizB (sizI p bud f) p bud (fn :: ar) (fnAt p fn).body

/-- The reference's count: how many there are, and whether there are too many. -/
def rlB (rec : Int → List Int → Nat × Bool → Nat × Bool) (p : List FnD) (bud : Int) (ar : List Int) : List OpD → Nat × Bool → Nat × Bool
  | [], s => s
  | o :: r, s => if s.1 = 1000 ∨ s.2 = true then (s.1, true) else if inlB p bud ar o = true then rlB rec p bud ar r (rec o.b ar (s.1 + 1, false)) else rlB rec p bud ar r (s.1 + 1, false)
def rlI (p : List FnD) (bud : Int) : Nat → Int → List Int → Nat × Bool → Nat × Bool
  | 0, _, _, s => s
  | f + 1, fn, ar, s => rlB (rlI p bud f) p bud (fn :: ar) (fnAt p fn).body s
def rlAll (p : List FnD) (bud : Int) : Nat → Nat → Nat → Bool
  | 0, _, _ => true
  | n + 1, fn, all => if (rlI p bud 12 fn [] (0, false)).2 = true ∨ 1000 < all + (rlI p bud 12 fn [] (0, false)).1 then false else rlAll p bud n (fn + 1) (all + (rlI p bud 12 fn [] (0, false)).1)

theorem layB_neg {rec : Int → List Int → LyD → LyD} {p : List FnD} {bud fn : Int} {ar : List Int} {k : Int} : ∀ (l : List OpD) (i : Nat) (s : LyD), s.room < 0 → (layB rec p bud fn ar k l i s).room < 0
  | [], _, _, h => h
  | o :: r, i, s, h => by
    unfold layB
    rw [if_pos (by omega)]
    show s.room - 1 < 0
    omega

def RoomOk (rec : Int → List Int → LyD → LyD) (siz : Int → List Int → Nat) : Prop := ∀ fn ar s, 0 ≤ s.room → ((siz fn ar : Int) ≤ s.room → (rec fn ar s).room = s.room - siz fn ar ∧ (rec fn ar s).places.length = s.places.length + siz fn ar) ∧ (s.room < siz fn ar → (rec fn ar s).room < 0)

theorem layB_room {rec : Int → List Int → LyD → LyD} {siz : Int → List Int → Nat} (hr : RoomOk rec siz) {p : List FnD} {bud fn : Int} {ar : List Int} {k : Int} : ∀ (l : List OpD) (i : Nat) (s : LyD), 0 ≤ s.room →
    ((sizB siz p bud ar l : Int) ≤ s.room → (layB rec p bud fn ar k l i s).room = s.room - sizB siz p bud ar l ∧ (layB rec p bud fn ar k l i s).places.length = s.places.length + sizB siz p bud ar l) ∧ (s.room < sizB siz p bud ar l → (layB rec p bud fn ar k l i s).room < 0)
  | [], _, s, h => by
    refine ⟨fun _ => ⟨?_, ?_⟩, fun h2 => ?_⟩
    · show s.room = s.room - ((0 : Nat) : Int); omega
    · show s.places.length = s.places.length + 0; omega
    · have : s.room < ((0 : Nat) : Int) := h2
      omega
  | o :: r, i, s, h => by
    unfold layB sizB
    by_cases h0 : s.room - 1 < 0
    · rw [if_pos h0]
      refine ⟨fun h2 => ?_, fun _ => h0⟩
      split at h2 <;> omega
    · rw [if_neg h0]
      by_cases hi : inlB p bud ar o = true
      · rw [if_pos hi, if_pos hi]
        obtain ⟨h1, h2⟩ := hr o.b ar ⟨s.room - 1, s.places ++ [⟨fn, i, k⟩], s.tree ++ [(o.b, (s.places.length : Int))]⟩ (by show 0 ≤ s.room - 1; omega)
        generalize rec o.b ar ⟨s.room - 1, s.places ++ [⟨fn, i, k⟩], s.tree ++ [(o.b, (s.places.length : Int))]⟩ = t at *
        dsimp only at h1 h2
        simp only [List.length_append, List.length_cons, List.length_nil] at h1
        by_cases hle : (siz o.b ar : Int) ≤ s.room - 1
        · obtain ⟨e1, e2⟩ := h1 hle
          obtain ⟨g1, g2⟩ := layB_room hr (p := p) (bud := bud) (fn := fn) (ar := ar) (k := k) r (i + 1) t (by omega)
          refine ⟨fun h3 => ?_, fun h3 => g2 (by omega)⟩
          obtain ⟨a1, a2⟩ := g1 (by omega)
          rw [a1, a2]
          constructor <;> omega
        · refine ⟨fun h3 => by omega, fun _ => layB_neg r (i + 1) t (h2 (by omega))⟩
      · rw [if_neg hi, if_neg hi]
        obtain ⟨g1, g2⟩ := layB_room hr (p := p) (bud := bud) (fn := fn) (ar := ar) (k := k) r (i + 1) ⟨s.room - 1, s.places ++ [⟨fn, i, k⟩], s.tree⟩ (by show 0 ≤ s.room - 1; omega)
        dsimp only at g1 g2
        simp only [List.length_append, List.length_cons, List.length_nil] at g1
        refine ⟨fun h3 => ?_, fun h3 => g2 (by omega)⟩
        obtain ⟨a1, a2⟩ := g1 (by omega)
        rw [a1, a2]
        constructor <;> omega

theorem layI_room (p : List FnD) (bud : Int) : ∀ f, RoomOk (layI p bud f) (sizI p bud f)
  | 0 => fun fn ar s h => ⟨fun _ => ⟨by show s.room = s.room - ((0 : Nat) : Int); omega, by show s.places.length = s.places.length + 0; omega⟩, fun h2 => by have : s.room < ((0 : Nat) : Int) := h2; omega⟩
  | f + 1 => fun fn ar s h => layB_room (layI_room p bud f) _ _ _ h

def CntOk (rec : Int → List Int → Nat × Bool → Nat × Bool) (siz : Int → List Int → Nat) : Prop := ∀ fn ar n, n ≤ 1000 → (n + siz fn ar ≤ 1000 → rec fn ar (n, false) = (n + siz fn ar, false)) ∧ (1000 < n + siz fn ar → (rec fn ar (n, false)).2 = true ∧ (rec fn ar (n, false)).1 ≤ 1000)

theorem rlB_true {rec : Int → List Int → Nat × Bool → Nat × Bool} {p : List FnD} {bud : Int} {ar : List Int} : ∀ (l : List OpD) (s : Nat × Bool), s.2 = true → s.1 ≤ 1000 → (rlB rec p bud ar l s).2 = true ∧ (rlB rec p bud ar l s).1 ≤ 1000
  | [], _, h, h1 => ⟨h, h1⟩
  | o :: r, s, h, h1 => by
    unfold rlB
    rw [if_pos (.inr h)]
    exact ⟨rfl, h1⟩

theorem rlB_cnt {rec : Int → List Int → Nat × Bool → Nat × Bool} {siz : Int → List Int → Nat} (hr : CntOk rec siz) {p : List FnD} {bud : Int} {ar : List Int} : ∀ (l : List OpD) (n : Nat), n ≤ 1000 →
    (n + sizB siz p bud ar l ≤ 1000 → rlB rec p bud ar l (n, false) = (n + sizB siz p bud ar l, false)) ∧ (1000 < n + sizB siz p bud ar l → (rlB rec p bud ar l (n, false)).2 = true ∧ (rlB rec p bud ar l (n, false)).1 ≤ 1000)
  | [], n, h => ⟨fun _ => rfl, fun h2 => by have : 1000 < n + 0 := h2; omega⟩
  | o :: r, n, h => by
    have es : sizB siz p bud ar (o :: r) = 1 + (if inlB p bud ar o = true then siz o.b ar else 0) + sizB siz p bud ar r := rfl
    rw [es]
    by_cases h0 : n = 1000
    · have e : rlB rec p bud ar (o :: r) (n, false) = (n, true) := by unfold rlB; exact if_pos (Or.inl h0)
      rw [e]
      exact ⟨fun h2 => by omega, fun _ => ⟨rfl, h⟩⟩
    · by_cases hi : inlB p bud ar o = true
      · have e : rlB rec p bud ar (o :: r) (n, false) = rlB rec p bud ar r (rec o.b ar (n + 1, false)) := by
          conv => lhs; unfold rlB
          rw [if_neg (by rintro (h1 | h1); exact h0 h1; cases h1), if_pos hi]
        rw [e, if_pos hi]
        obtain ⟨h1, h2⟩ := hr o.b ar (n + 1) (by omega)
        by_cases hle : n + 1 + siz o.b ar ≤ 1000
        · rw [h1 hle]
          obtain ⟨g1, g2⟩ := rlB_cnt hr (p := p) (bud := bud) (ar := ar) r (n + 1 + siz o.b ar) hle
          refine ⟨fun h3 => ?_, fun h3 => g2 (by omega)⟩
          rw [g1 (by omega)]
          congr 1
          omega
        · refine ⟨fun h3 => by omega, fun _ => rlB_true r _ (h2 (by omega)).1 (h2 (by omega)).2⟩
      · have e : rlB rec p bud ar (o :: r) (n, false) = rlB rec p bud ar r (n + 1, false) := by
          conv => lhs; unfold rlB
          rw [if_neg (by rintro (h1 | h1); exact h0 h1; cases h1), if_neg hi]
        rw [e, if_neg hi]
        obtain ⟨g1, g2⟩ := rlB_cnt hr (p := p) (bud := bud) (ar := ar) r (n + 1) (by omega)
        refine ⟨fun h3 => ?_, fun h3 => g2 (by omega)⟩
        rw [g1 (by omega)]
        congr 1
        omega

theorem rlI_cnt (p : List FnD) (bud : Int) : ∀ f, CntOk (rlI p bud f) (sizI p bud f)
  | 0 => fun fn ar n h => ⟨fun _ => rfl, fun h2 => by have : 1000 < n + 0 := h2; omega⟩
  | f + 1 => fun fn ar n h => rlB_cnt (rlI_cnt p bud f) _ _ h

theorem layAll_fits (p : List FnD) (bud : Int) : ∀ (n fn : Nat) (room : Int) (l : List CodeD), 0 ≤ room → room ≤ 1000 → (layAll p bud n fn room l).isSome = rlAll p bud n fn (1000 - room).toNat
  | 0, _, _, _, _, _ => rfl
  | n + 1, fn, room, l, h0, h1 => by
    unfold layAll rlAll
    obtain ⟨a1, a2⟩ := layI_room p bud 12 fn [] ⟨room, [], []⟩ h0
    obtain ⟨b1, b2⟩ := rlI_cnt p bud 12 fn [] 0 (by omega)
    dsimp only at a1 a2
    by_cases hle : (sizI p bud 12 fn [] : Int) ≤ room
    · obtain ⟨e1, -⟩ := a1 hle
      rw [e1, b1 (by omega), if_neg (by omega), if_neg (by simp; omega)]
      rw [layAll_fits p bud n (fn + 1) _ _ (by omega) (by omega)]
      congr 1
      simp
      omega
    · rw [if_pos (a2 (by omega))]
      by_cases hb : 1000 < 0 + sizI p bud 12 fn []
      · rw [if_pos (.inl (b2 hb).1)]; rfl
      · rw [b1 (by omega), if_pos (.inr (by simp; omega))]; rfl

theorem codesD_fits (p : List FnD) (bud : Int) : (codesD p bud).isSome = rlAll p bud p.length 0 0 := layAll_fits p bud p.length 0 1000 [] (by decide) (by decide)
end Go.Proofs.Ytooinlilplecpab
