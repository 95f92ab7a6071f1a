/- The code of functions, with Calls inlined, as plain data (laid as the developers lay it); nothing is claimed of the program here. -/
import Derived.Test.YtooinlilplecpabR6
namespace Go.Proofs.Ytooinlilplecpab
open Go.RowKit

structure PlD where
  fn : Int
  op : Int
  inst : Int
structure LyD where
  room : Int
  places : List PlD
  tree : List (Int × Int)
structure CodeD where
  first : Int
  places : List PlD
  tree : List (Int × Int)

/-- Is an op a Call that is inlined, within these functions? -/
def inlB (p : List FnD) (bud : Int) (ar : List Int) (o : OpD) : Bool := o.code == 5 && (!(ar.contains o.b) && decide (((fnAt p o.b).body.length : Int) ≤ bud))

def layB (rec : Int → List Int → LyD → LyD) (p : List FnD) (bud fn : Int) (ar : List Int) (k : Int) : List OpD → Nat → LyD → LyD
  | [], _, s => s
  | o :: r, i, s =>
    if s.room - 1 < 0 then ⟨s.room - 1, s.places, s.tree⟩ else
    if inlB p bud ar o = true then layB rec p bud fn ar k r (i + 1) (rec o.b ar ⟨s.room - 1, s.places ++ [⟨fn, i, k⟩], s.tree ++ [(o.b, (s.places.length : Int))]⟩)
    else layB rec p bud fn ar k r (i + 1) ⟨s.room - 1, s.places ++ [⟨fn, i, k⟩], s.tree⟩
/-- An instance of a function, laid behind what is laid. -/
def layI (p : List FnD) (bud : Int) : Nat → Int → List Int → LyD → LyD
  | 0, _, _, s => s
  | f + 1, fn, ar, s => layB (layI p bud f) p bud fn (fn :: ar) s.tree.length (fnAt p fn).body 0 s

def layAll (p : List FnD) (bud : Int) : Nat → Nat → Int → List CodeD → Option (List CodeD)
  | 0, _, _, l => some l
  | n + 1, fn, room, l => if (layI p bud 12 fn [] ⟨room, [], []⟩).room < 0 then none else layAll p bud n (fn + 1) (layI p bud 12 fn [] ⟨room, [], []⟩).room (l ++ [⟨1000 - room, (layI p bud 12 fn [] ⟨room, [], []⟩).places, (layI p bud 12 fn [] ⟨room, [], []⟩).tree⟩])
def codesD (p : List FnD) (bud : Int) : Option (List CodeD) := layAll p bud p.length 0 1000 []
/-- What is wrong with a program and a budget. -/
def layE (p : List FnD) (bud : Int) : Int := if (chk p).1 ≠ 0 then (chk p).1 else if 0 ≤ bud ∧ bud ≤ 30 then (if (codesD p bud).isSome = true then 0 else 11) else 1

/-- How many functions are not among these. -/
def freeN (ar : List Int) : Nat → Nat
  | 0 => 0
  | n + 1 => freeN ar n + if (n : Int) ∈ ar then 0 else 1
theorem freeN_ge {ar : List Int} {x : Int} : ∀ n : Nat, (n : Int) ≤ x → freeN (x :: ar) n = freeN ar n
  | 0, _ => rfl
  | n + 1, h => by
    have ih := freeN_ge (ar := ar) (x := x) n (by omega)
    have hne : (n : Int) ≠ x := by omega
    simp only [freeN, ih, List.mem_cons, hne, false_or]
theorem freeN_cons {ar : List Int} {x : Int} (hx : x ∉ ar) (h0 : 0 ≤ x) : ∀ n : Nat, x < n → freeN (x :: ar) n + 1 = freeN ar n
  | 0, h => by omega
  | n + 1, h => by
    by_cases he : (n : Int) = x
    · have ih := freeN_ge (ar := ar) (x := x) n (by omega)
      have hm : (n : Int) ∈ x :: ar := by rw [he]; simp
      have hm' : ¬ (n : Int) ∈ ar := by rw [he]; exact hx
      simp only [freeN, ih, if_pos hm, if_neg hm']
    · have ih := freeN_cons hx h0 n (by omega)
      simp only [freeN, List.mem_cons, he, false_or]
      omega
theorem freeN_le (ar : List Int) : ∀ n, freeN ar n ≤ n
  | 0 => Nat.le_refl _
  | n + 1 => by have := freeN_le ar n; simp only [freeN]; split <;> omega

theorem layI_zero {p : List FnD} {bud : Int} {f : Nat} {fn : Int} {ar : List Int} {s : LyD} : layI p bud (f + 1) fn ar s = layB (layI p bud f) p bud fn (fn :: ar) s.tree.length (fnAt p fn).body 0 s := rfl
end Go.Proofs.Ytooinlilplecpab
