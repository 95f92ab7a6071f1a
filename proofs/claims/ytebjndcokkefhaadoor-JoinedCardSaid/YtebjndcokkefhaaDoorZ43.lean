/- Contracts of the developers' frame.mayBe and frame.Print, where the frames are those of a well-formed program: true, and the text. The statement's world where lists of frames have come out, each written full of its number; contracts of marked and looks there: the look answers true. Contract of the statement's own World.frames: a list of frames that has come out anew is written full of its number, and kept. Contracts of the statement's own write and source at a Run, where lists of frames have come out, out of a contract of unfold.Run that is taken as a premise. Contracts of the developers' run.Behind and unfold.Run: they answer as the plain run does. -/
import Derived.Test.YtebjndcokkefhaaDoorZ42
import Derived.Test.YtebjndcokkefhaaDoorZ2
import Derived.Test.YtebjndcokkefhaaDoorZ15
import Derived.Test.YtebjndcokkefhaaDoorZ12
import Derived.Test.YtebjndcokkefhaaDoorZ35
import Derived.Lib.ItoaLen
import Derived.Lib.AppendIntMem
import Derived.Test.YtebjndcokkefhaaDoorZ23
import Derived.Test.YtebjndcokkefhaaDoorZ20
import Derived.Test.YtebjndcokkefhaaDoorZ24
import Derived.Test.YtebjndcokkefhaaDoorZ32
import Derived.Test.YtebjndcokkefhaaDoorD11
namespace Go.Proofs.YtebjndcokkefhaaDoor
open Go.RowKit

/-- A frame that may be told. -/
def FrOk (f : FrameD) : Prop := (wordB f.func = true ∧ f.func.size ≤ 20) ∧ (wordB f.file = true ∧ f.file.size ≤ 20) ∧ 1 ≤ f.line ∧ f.line ≤ 9999
/-- The line of a frame, and all lines. -/
def lineD (f : FrameD) : List Int := byteL f.func ++ ([32] ++ (byteL f.file ++ ([58] ++ (byteL ⟨(Lib.itoa f.line).toArray⟩ ++ [10]))))
def printD (l : List FrameD) : List Int := l.flatMap lineD
/-- The table that numbers are written by, as it is laid. -/
def Tab (w : World) : Prop := Lib.TabIs Tryd.prog w "internal/strconv.uint64pow10" .u64 Lib.pow10Tab
theorem Tab.below {w w' : World} (h : Tab w) (hb : Below w.heap.size w w') : Tab w' := Lib.tabBelow_of_tabIs h w' hb

set_option maxHeartbeats 2000000 in
set_option maxRecDepth 100000 in
theorem frMay_true (f : FrameD) (w : World) (h : FrOk f) :
    Calls Tryd.prog 54 #[.agg #[.string f.func, .string f.file, .int .i64 f.line]] w fun e w' => e = .returned (.bool true) ∧ Below w.heap.size w w' := by
  obtain ⟨⟨h1, h2⟩, ⟨h3, h4⟩, h5, h6⟩ := h
  have H1 := hid (fun W => isWord_any f.func W (by unfold maxLen; omega))
  have H2 := hid (fun W => isWord_any f.file W (by unfold maxLen; omega))
  rw [h1] at H1
  rw [h3] at H2
  generalize f.func = a at *
  generalize f.file = b at *
  generalize f.line = c at *
  obtain ⟨wA, hwA⟩ : ∃ v, v = w.alloc (Obj.cells #[.string a, .string b, .int .i64 c] 93) := ⟨_, rfl⟩
  have hbA : Below w.heap.size w wA := by rw [hwA]; exact (Below.refl _ _).alloc (Nat.le_refl _) _
  have hsA : wA.heap.size = w.heap.size + 1 := by rw [hwA]; simp
  have kA : wA.heap[w.heap.size]? = some (.cells #[.string a, .string b, .int .i64 c] 93 (0, 0)) := by rw [hwA]; exact heap_new_at rfl
  have HK := hid kA
  clear h1 h3 kA
  go_enter Tryd.func54, Tryd.ntmps54
  go_wp2_with fail
  rw [← hwA]
  clear hwA
  refine (H1.out wA).mono ?_
  rintro e w1 ⟨rfl, b1⟩
  have s1 := b1.size
  have k1 := (b1.block w.heap.size (by omega)).trans HK.out
  have c1 : w1.cell? ⟨w.heap.size, 1, none⟩ = some (.string b) := by simp [World.cell?, k1]
  go_wp2_with fail
  refine (H2.out w1).mono ?_
  rintro e w2 ⟨rfl, b2⟩
  have k2 := (b2.block w.heap.size (by omega)).trans k1
  have c2 : w2.cell? ⟨w.heap.size, 2, none⟩ = some (.int .i64 c) := by simp [World.cell?, k2]
  have hB : Below w.heap.size w w2 := (hbA.trans (b1.mono hbA.size)).trans (b2.mono (by omega))
  clear b1 b2 k1 k2
  go_wp2
  go_ret
  exact ⟨by simp, hB⟩

theorem lineD_len {f : FrameD} (h : FrOk f) : (lineD f).length ≤ 64 := by
  obtain ⟨⟨-, h1⟩, ⟨-, h2⟩, h3, h4⟩ := h
  have hil := Lib.itoa_length_le f.line (by omega) (by omega)
  have hs : (⟨(Lib.itoa f.line).toArray⟩ : ByteArray).size ≤ 21 := by
    show (Lib.itoa f.line).toArray.size ≤ 21
    rw [List.size_toArray]; exact hil
  unfold lineD
  simp only [List.length_append, byteL_len, List.length_cons, List.length_nil]
  omega
theorem printD_len : ∀ l : List FrameD, (∀ f ∈ l, FrOk f) → (printD l).length ≤ 64 * l.length
  | [], _ => Nat.zero_le _
  | f :: r, h => by
    have ih := printD_len r (fun x hx => h x (List.mem_cons_of_mem _ hx))
    have h0 := lineD_len (h f (List.mem_cons_self ..))
    have e : printD (f :: r) = lineD f ++ printD r := rfl
    rw [e, List.length_append, List.length_cons]
    omega

set_option maxHeartbeats 4000000 in
set_option maxRecDepth 100000 in
theorem fPrint_any (a : Option Addr) (cap : Nat) (fr : List FrameD) (w : World) (hr : RdL 3 RdFrame w a fr.length cap fr) (hok : ∀ f ∈ fr, FrOk f) (h20 : fr.length ≤ 20) (ht : Tab w) :
    Calls Tryd.prog 31 #[.slice a fr.length cap] w fun e w' => e = .returned (.tuple #[.string (strOfNums (printD fr)), .int .i64 0]) ∧ Below w.heap.size w w' := by
  have HR := hid hr
  have HOK := hid hok
  have HT := hid ht
  have hc1 := hr.2.1
  have hc2 := hr.2.2.1
  unfold maxLen at hc2
  obtain ⟨n, hn⟩ : ∃ v, v = fr.length := ⟨_, rfl⟩
  rw [← hn] at HR hc1 h20 ⊢
  have HN := hid hn
  obtain ⟨i0, hi, hz0, hz1, hz2⟩ := info_parts Tryd.infoByte
  clear hr hok ht hn
  go_enter Tryd.func31, Tryd.ntmps31
  go_wp2
  go_loopw [4, 6, 9] (fun bv _ i wr => ∃ k : Nat, i = .int .i64 k ∧ k ≤ n ∧ wr.ownsRow w.heap.size 5 1 bv (printD (fr.take k)).length (u8s (printD (fr.take k))) ∧ Below w.heap.size w wr) (fun _ _ i _ => n - (intOf i).toNat)
  case atStart => exact ⟨0, rfl, by omega, World.ownsRow_nil _ _ _ _, Below.refl _ _⟩
  case round =>
    obtain ⟨k, rfl, hk, hown, hbel⟩ := hrel
    have hsz := hbel.size
    by_cases hkn : k < n
    · have hkn' : (k : Int) < (n : Int) := by omega
      obtain ⟨f, hf⟩ : ∃ f, fr[k]? = some f := ⟨_, List.getElem?_eq_getElem (by rw [← HN.out]; exact hkn)⟩
      have hfo := HOK.out f (List.mem_of_getElem? hf)
      obtain ⟨b0, off, cs, rfl, -, hc, rfl⟩ := (HR.out.below hbel (fun _ _ h => h)).2.2.2 k f hf
      have c0 := hc 0 _ rfl
      have c1 := hc 1 _ rfl
      have c2 := hc 2 _ rfl
      have hb0 : b0 < wr.heap.size := World.block_lt_of_cell? wr _ c0
      rw [Nat.add_zero] at c0
      have HM := hid (fun W => frMay_true f W hfo)
      have hpl : (printD (fr.take k)).length ≤ 64 * k := by
        have h := printD_len (fr.take k) (fun x hx => HOK.out x (List.mem_of_mem_take hx))
        rw [List.length_take] at h
        have : min k fr.length ≤ k := Nat.min_le_left _ _
        omega
      have HNEXT : Hid (u8s (printD (fr.take (k + 1))) = u8s (printD (fr.take k)) ++ u8s (lineD f) ∧ (printD (fr.take (k + 1))).length = (printD (fr.take k)).length + (lineD f).length) := hid (by
        obtain ⟨hlt, he⟩ := List.getElem?_eq_some_iff.1 hf
        have e : printD (fr.take (k + 1)) = printD (fr.take k) ++ lineD f := by
          rw [List.take_succ_eq_append_getElem hlt, he]
          unfold printD
          rw [List.flatMap_append]
          simp
        exact ⟨by rw [e, u8s_append], by rw [e, List.length_append]⟩)
      obtain ⟨⟨-, hf1⟩, ⟨-, hf2⟩, hf3, hf4⟩ := hfo
      have HIT := hid (fun (W : World) (hW : Below w.heap.size w W) => Tryd.strconv_Itoa f.line (by omega) (by omega) W (HT.out.below hW))
      have hil := Lib.itoa_length_le f.line (by omega) (by omega)
      have HLN : Hid (u8s (lineD f) = Lib.strCells f.func ++ ([.int .u8 32] ++ (Lib.strCells f.file ++ ([.int .u8 58] ++ (Lib.strCells ⟨(Lib.itoa f.line).toArray⟩ ++ [.int .u8 10])))) ∧ (lineD f).length = f.func.size + (1 + (f.file.size + (1 + ((⟨(Lib.itoa f.line).toArray⟩ : ByteArray).size + 1))))) := hid (by
        unfold lineD
        simp only [u8s_append, strCells_u8s, List.length_append, byteL_len]
        exact ⟨rfl, rfl⟩)
      have hsn : (⟨(Lib.itoa f.line).toArray⟩ : ByteArray).size ≤ 21 := by
        show (Lib.itoa f.line).toArray.size ≤ 21
        rw [List.size_toArray]; exact hil
      generalize (⟨(Lib.itoa f.line).toArray⟩ : ByteArray) = sn at *
      generalize lineD f = LD at *
      generalize f.func = fn at *
      generalize f.file = fl at *
      generalize f.line = ln at *
      obtain ⟨P0, hP0⟩ : ∃ v, v = printD (fr.take k) := ⟨_, rfl⟩
      rw [← hP0] at hown hpl HNEXT
      obtain ⟨N0, hN0⟩ : ∃ v, v = P0.length := ⟨_, rfl⟩
      rw [← hN0] at hown hpl HNEXT
      obtain ⟨w2, hw2⟩ : ∃ v, v = wr.alloc (Obj.cells #[.string fn, .string fl, .int .i64 ln] 93) := ⟨_, rfl⟩
      have hb2 : Below wr.heap.size wr w2 := by rw [hw2]; exact (Below.refl _ _).alloc (Nat.le_refl _) _
      have hs2 : w2.heap.size = wr.heap.size + 1 := by rw [hw2]; simp
      have k2 : w2.heap[wr.heap.size]? = some (.cells #[.string fn, .string fl, .int .i64 ln] 93 (0, 0)) := by rw [hw2]; exact heap_new_at rfl
      have HOW := hid hown
      have HBEL := hid hbel
      have HK2 := hid k2
      have HB2 := hid hb2
      clear hown hbel hf hP0 hN0 hc k2 hb2 hil
      go_wp2_with fail
      rw [← hw2]
      clear hw2
      refine (HM.out w2).mono ?_
      rintro e w3 ⟨rfl, hb3⟩
      have hb23 : Below wr.heap.size wr w3 := HB2.out.trans (hb3.mono HB2.out.size)
      have k3 := (hb3.block wr.heap.size (by omega)).trans HK2.out
      have f3a : w3.cell? ⟨wr.heap.size, 1, none⟩ = some (.string fl) := by simp [World.cell?, k3]
      have f3b : w3.cell? ⟨wr.heap.size, 2, none⟩ = some (.int .i64 ln) := by simp [World.cell?, k3]
      have f3c : w3.cell? ⟨wr.heap.size, 0, none⟩ = some (.string fn) := by simp [World.cell?, k3]
      have lt3 : wr.heap.size < w3.heap.size := (Array.getElem?_eq_some_iff.1 k3).1
      have HK3 := hid k3
      have HO3 := hid (ownsRow_below HOW.out hb23)
      have HB3 := hid (HBEL.out.trans (hb23.mono hsz))
      have hs3 : w.heap.size ≤ w3.heap.size := by omega
      clear hb3 hb23 k3 c0 c1 c2 HM
      go_wp2_with (at_builtin; refine Lib.wpList_append_own_string _ rfl (.tmp 16) (.tmp 18) 26 9 rfl w.heap.size 5 i0 Tryd.underlying26 Tryd.underlying9 hi hz0 hz1 hz2 _ _ _ rfl HO3.out fn rfl (by unfold maxLen; omega) (by omega) hs3 ?_)
      intro v4 w4 hown4 hgrow4 _
      have k4 : w4.heap[wr.heap.size]? = some (.cells #[.string fn, .string fl, .int .i64 ln] 93 (0, 0)) := (hgrow4.block wr.heap.size lt3 (fun e => owns_other' HO3.out HK3.out (by decide) e)).trans HK3.out
      have hs4 : w.heap.size ≤ w4.heap.size := by have := hgrow4.size; omega
      have hb4 : Below w.heap.size w w4 := HB3.out.grown hgrow4 hs3 (fun k hk => (HO3.out.lt k hk).1)
      have lt4 : wr.heap.size < w4.heap.size := (Array.getElem?_eq_some_iff.1 k4).1
      have HO4 := hid hown4
      have HK4 := hid k4
      have HB4 := hid hb4
      have f4a : w4.cell? ⟨wr.heap.size, 1, none⟩ = some (.string fl) := by simp [World.cell?, k4]
      have f4b : w4.cell? ⟨wr.heap.size, 2, none⟩ = some (.int .i64 ln) := by simp [World.cell?, k4]
      clear hown4 hgrow4 k4 hb4 HO3 HK3 HB3 f3a f3b f3c
      go_wp2_with (at_builtin; refine wpList_append_own _ rfl (.tmp 20) (.tmp 21) 26 rfl w.heap.size 5 i0 (.int .u8 0) 1 1 Tryd.underlying26 hi hz0 hz1 hz2 rfl (by decide) _ _ _ rfl (HO4.out.alloc _) ⟨w4.heap.size, 0, none⟩ 1 1 [.int .u8 32] rfl rfl (new1_at rfl _ _) (fun u hu => by rw [List.mem_singleton.1 hu]; rfl) (by unfold maxLen; omega) (by omega) (by simp; omega) ?_)
      intro v5 w5 hown5 hgrow5 _
      have k5 : w5.heap[wr.heap.size]? = some (.cells #[.string fn, .string fl, .int .i64 ln] 93 (0, 0)) := (hgrow5.block wr.heap.size (by simp; omega) (fun e => owns_other' HO4.out HK4.out (by decide) e)).trans (heap_at1 lt4 HK4.out)
      have hs5 : w.heap.size ≤ w5.heap.size := by have := hgrow5.size; simp at this; omega
      have hb5 : Below w.heap.size w w5 := (HB4.out.alloc hs4 _).grown hgrow5 (by simp; omega) (fun k hk => (HO4.out.lt k hk).1)
      have lt5 : wr.heap.size < w5.heap.size := (Array.getElem?_eq_some_iff.1 k5).1
      have HO5 := hid hown5
      have HK5 := hid k5
      have HB5 := hid hb5
      have f5a : w5.cell? ⟨wr.heap.size, 1, none⟩ = some (.string fl) := by simp [World.cell?, k5]
      have f5b : w5.cell? ⟨wr.heap.size, 2, none⟩ = some (.int .i64 ln) := by simp [World.cell?, k5]
      clear hown5 hgrow5 k5 hb5 HO4 HK4 HB4 f4a f4b
      go_wp2_with (at_builtin; refine Lib.wpList_append_own_string _ rfl (.tmp 23) (.tmp 25) 26 9 rfl w.heap.size 5 i0 Tryd.underlying26 Tryd.underlying9 hi hz0 hz1 hz2 _ _ _ rfl HO5.out fl rfl (by unfold maxLen; omega) (by omega) hs5 ?_)
      intro v6 w6 hown6 hgrow6 _
      have k6 : w6.heap[wr.heap.size]? = some (.cells #[.string fn, .string fl, .int .i64 ln] 93 (0, 0)) := (hgrow6.block wr.heap.size lt5 (fun e => owns_other' HO5.out HK5.out (by decide) e)).trans HK5.out
      have hs6 : w.heap.size ≤ w6.heap.size := by have := hgrow6.size; omega
      have hb6 : Below w.heap.size w w6 := HB5.out.grown hgrow6 hs5 (fun k hk => (HO5.out.lt k hk).1)
      have lt6 : wr.heap.size < w6.heap.size := (Array.getElem?_eq_some_iff.1 k6).1
      have HO6 := hid hown6
      have HK6 := hid k6
      have HB6 := hid hb6
      have f6a : w6.cell? ⟨wr.heap.size, 1, none⟩ = some (.string fl) := by simp [World.cell?, k6]
      have f6b : w6.cell? ⟨wr.heap.size, 2, none⟩ = some (.int .i64 ln) := by simp [World.cell?, k6]
      clear hown6 hgrow6 k6 hb6 HO5 HK5 HB5 f5a f5b
      go_wp2_with (at_builtin; refine wpList_append_own _ rfl (.tmp 27) (.tmp 28) 26 rfl w.heap.size 5 i0 (.int .u8 0) 1 1 Tryd.underlying26 hi hz0 hz1 hz2 rfl (by decide) _ _ _ rfl (HO6.out.alloc _) ⟨w6.heap.size, 0, none⟩ 1 1 [.int .u8 58] rfl rfl (new1_at rfl _ _) (fun u hu => by rw [List.mem_singleton.1 hu]; rfl) (by unfold maxLen; omega) (by omega) (by simp; omega) ?_)
      intro v7 w7 hown7 hgrow7 _
      have k7 : w7.heap[wr.heap.size]? = some (.cells #[.string fn, .string fl, .int .i64 ln] 93 (0, 0)) := (hgrow7.block wr.heap.size (by simp; omega) (fun e => owns_other' HO6.out HK6.out (by decide) e)).trans (heap_at1 lt6 HK6.out)
      have hs7 : w.heap.size ≤ w7.heap.size := by have := hgrow7.size; simp at this; omega
      have hb7 : Below w.heap.size w w7 := (HB6.out.alloc hs6 _).grown hgrow7 (by simp; omega) (fun k hk => (HO6.out.lt k hk).1)
      have lt7 : wr.heap.size < w7.heap.size := (Array.getElem?_eq_some_iff.1 k7).1
      have HO7 := hid hown7
      have HK7 := hid k7
      have HB7 := hid hb7
      have f7a : w7.cell? ⟨wr.heap.size, 1, none⟩ = some (.string fl) := by simp [World.cell?, k7]
      have f7b : w7.cell? ⟨wr.heap.size, 2, none⟩ = some (.int .i64 ln) := by simp [World.cell?, k7]
      clear hown7 hgrow7 k7 hb7 HO6 HK6 HB6 f6a f6b
      go_wp2_with fail
      refine (HIT.out w7 HB7.out).mono ?_
      rintro e w8 ⟨rfl, kk, os, hw8⟩
      have hb78 : Below w7.heap.size w7 w8 := by rw [hw8]; exact Lib.below_grow _ _ (Nat.le_refl _) _ _
      have hs8 : w.heap.size ≤ w8.heap.size := by have := hb78.size; omega
      have HO8 := hid (ownsRow_below HO7.out hb78)
      have k8 := (hb78.block wr.heap.size lt7).trans HK7.out
      have HK8 := hid k8
      have HB8 := hid (HB7.out.trans (hb78.mono hs7))
      have lt8 : wr.heap.size < w8.heap.size := (Array.getElem?_eq_some_iff.1 k8).1
      clear hw8 hb78 k8 HO7 HK7 HB7 f7a f7b
      go_wp2_with (at_builtin; refine Lib.wpList_append_own_string _ rfl (.tmp 30) (.tmp 33) 26 9 rfl w.heap.size 5 i0 Tryd.underlying26 Tryd.underlying9 hi hz0 hz1 hz2 _ _ _ rfl HO8.out sn rfl (by unfold maxLen; omega) (by omega) hs8 ?_)
      intro v9 w9 hown9 hgrow9 _
      have k9 : w9.heap[wr.heap.size]? = some (.cells #[.string fn, .string fl, .int .i64 ln] 93 (0, 0)) := (hgrow9.block wr.heap.size lt8 (fun e => owns_other' HO8.out HK8.out (by decide) e)).trans HK8.out
      have hs9 : w.heap.size ≤ w9.heap.size := by have := hgrow9.size; omega
      have hb9 : Below w.heap.size w w9 := HB8.out.grown hgrow9 hs8 (fun k hk => (HO8.out.lt k hk).1)
      have lt9 : wr.heap.size < w9.heap.size := (Array.getElem?_eq_some_iff.1 k9).1
      have HO9 := hid hown9
      have HK9 := hid k9
      have HB9 := hid hb9
      have f9a : w9.cell? ⟨wr.heap.size, 1, none⟩ = some (.string fl) := by simp [World.cell?, k9]
      have f9b : w9.cell? ⟨wr.heap.size, 2, none⟩ = some (.int .i64 ln) := by simp [World.cell?, k9]
      clear hown9 hgrow9 k9 hb9 HO8 HK8 HB8 
      go_wp2_with (at_builtin; refine wpList_append_own _ rfl (.tmp 35) (.tmp 36) 26 rfl w.heap.size 5 i0 (.int .u8 0) 1 1 Tryd.underlying26 hi hz0 hz1 hz2 rfl (by decide) _ _ _ rfl (HO9.out.alloc _) ⟨w9.heap.size, 0, none⟩ 1 1 [.int .u8 10] rfl rfl (new1_at rfl _ _) (fun u hu => by rw [List.mem_singleton.1 hu]; rfl) (by unfold maxLen; omega) (by omega) (by simp; omega) ?_)
      intro v10 w10 hown10 hgrow10 _
      have k10 : w10.heap[wr.heap.size]? = some (.cells #[.string fn, .string fl, .int .i64 ln] 93 (0, 0)) := (hgrow10.block wr.heap.size (by simp; omega) (fun e => owns_other' HO9.out HK9.out (by decide) e)).trans (heap_at1 lt9 HK9.out)
      have hs10 : w.heap.size ≤ w10.heap.size := by have := hgrow10.size; simp at this; omega
      have hb10 : Below w.heap.size w w10 := (HB9.out.alloc hs9 _).grown hgrow10 (by simp; omega) (fun k hk => (HO9.out.lt k hk).1)
      have lt10 : wr.heap.size < w10.heap.size := (Array.getElem?_eq_some_iff.1 k10).1
      have HO10 := hid hown10
      have HK10 := hid k10
      have HB10 := hid hb10
      have f10a : w10.cell? ⟨wr.heap.size, 1, none⟩ = some (.string fl) := by simp [World.cell?, k10]
      have f10b : w10.cell? ⟨wr.heap.size, 2, none⟩ = some (.int .i64 ln) := by simp [World.cell?, k10]
      clear hown10 hgrow10 k10 hb10 HO9 HK9 HB9 f9a f9b
      go_wp2
      go_roundw
      case rel =>
        refine ⟨k + 1, by go_num, by omega, ?_, HB10.out⟩
        rw [HNEXT.out.1, HNEXT.out.2, HLN.out.1, HLN.out.2]
        have h := HO10.out
        simp only [Nat.add_assoc] at h ⊢
        exact h
      case measure => simp [intOf]; omega
    · have hkn' : decide ((k : Int) < (n : Int)) = false := by simp; omega
      have HKE : Hid (fr.take k = fr) := hid (List.take_of_length_le (by have := HN.out; omega))
      obtain ⟨va, vcap, rfl, hv1, hv2⟩ := owns_form hown
      unfold maxLen at hv2
      have HB := hid hbel
      have HP : Hid (printD (fr.take k) = printD fr) := hid (by rw [HKE.out])
      have hl : (printD (fr.take k)).length = (printD (fr.take k)).length := rfl
      rcases hown.2 with ⟨h1, h2⟩ | ⟨g, c', cur, h1, _⟩
      · simp only [Value.slice.injEq] at h1
        obtain ⟨rfl, -, rfl⟩ := h1
        have h0 : printD (fr.take k) = [] := List.length_eq_zero_iff.1 h2
        rw [h2]
        have HP0 : Hid (printD fr = []) := hid (by rw [← HP.out]; exact h0)
        clear hown hbel hl h2 h0 HP HKE
        have v0 := run_convert_bytes_nil (P := Tryd.prog) wr 26 5 Tryd.underlying26 Tryd.underlying5 0 0 9 Tryd.underlying9
        go_wp2
        exact bodyPost_ret (v := .tuple #[.string (strOfNums []), .int .i64 0]) (by simp [results, Tryd.results31, go_sem]; rfl) rfl ⟨by rw [HP0.out], HB.out⟩
      · simp only [Value.slice.injEq] at h1
        obtain ⟨rfl, -, rfl⟩ := h1
        have hcell : ∀ i, i < (printD (fr.take k)).length → wr.cell? ⟨g, 0 + i, none⟩ = some (.int .u8 ((printD (fr.take k)).getD i 0)) := fun i hi => by
          rw [Nat.zero_add, hown.cellAt i (by omega)]
          simp [u8s, List.getD, hi]
        have v1 := run_convert_bytes_arg (P := Tryd.prog) wr 26 5 Tryd.underlying26 Tryd.underlying5 g 0 (printD (fr.take k)).length vcap (printD (fr.take k)) rfl hcell 9 Tryd.underlying9
        rw [HP.out] at v1 ⊢
        clear hown hbel hcell hl HKE
        go_wp2
        exact bodyPost_ret (v := .tuple #[.string (strOfNums (printD fr)), .int .i64 0]) (by simp [results, Tryd.results31, go_sem]) rfl ⟨rfl, HB.out⟩
end Go.Proofs.YtebjndcokkefhaaDoor
namespace Go.Proofs.YtebjndcokkefhaaDoor
open Go.RowKit

def mkB : ByteArray := ⟨#[109, 97, 114, 107]⟩
def markD (i : Nat) : FrameD := ⟨mkB, mkB, (i : Int)⟩
def fsW (v : Value) : Array Value := #[.slice none 0 0, .slice none 0 0, .slice none 0 0, .slice none 0 0, .slice none 0 0, v, .slice none 0 0, .slice none 0 0, .slice none 0 0]
theorem ownsRow_form {w : World} {base : Nat} {e : TypeId} {size : Nat} {v : Value} {n : Nat} {xs : List Value} (h : w.ownsRow base e size v n xs) : ∃ a cap, v = .slice a n cap ∧ n ≤ cap ∧ cap ≤ maxLen ∧ (0 < n → ∃ gv, a = some ⟨gv, 0, none⟩) := by
  rcases h.2 with ⟨rfl, rfl⟩ | ⟨g, cap, cur, rfl, _, _, h1, h2, _⟩
  · exact ⟨none, 0, rfl, Nat.le_refl _, by unfold maxLen; omega, fun h => by omega⟩
  · exact ⟨_, cap, rfl, h1, h2, fun _ => ⟨g, rfl⟩⟩

end Go.Proofs.YtebjndcokkefhaaDoor
namespace Go.Proofs.YtebjndcokkefhaaDoor
open Go.RowKit

theorem Tryd.infoFrames : (Tryd.prog.info? 45).map (fun i => (i.zero, i.size, i.bytes)) = some (some (.slice none 0 0), 1, 24) := by kernel_rfl

theorem set3 (L R : List Value) (x0 x1 x2 a b c : Value) (k : Nat) (hk : L.length = k) : (((L ++ x0 :: x1 :: x2 :: R).set k a).set (k + 1) b).set (k + 2) c = L ++ a :: b :: c :: R := by
  subst hk
  simp
theorem drop3 (l : List Value) (k : Nat) (h : k + 3 ≤ l.length) : ∃ x0 x1 x2, l.drop k = x0 :: x1 :: x2 :: l.drop (k + 3) := by
  refine ⟨l[k]'(by omega), l[k + 1]'(by omega), l[k + 2]'(by omega), ?_⟩
  rw [List.drop_eq_getElem_cons (by omega), List.drop_eq_getElem_cons (i := k + 1) (by omega), List.drop_eq_getElem_cons (i := k + 1 + 1) (by omega)]

end Go.Proofs.YtebjndcokkefhaaDoor
namespace Go.Proofs.YtebjndcokkefhaaDoor
open Go.RowKit

/-- What is asked of unfold.Run: the plain answer, its frames in a list of their own; nothing that was there is written. -/
def RunGives : Prop := ∀ (pa : Option Addr) (pcap : Nat) (p : List FnD) (aa : Option Addr) (acap : Nat) (args : List Int) (n : Int) (w : World), RdP w pa p.length pcap p → Rd .i64 w aa args.length acap args → R64 n →
  Calls Tryd.prog 16 #[.agg #[.slice pa p.length pcap], .slice aa args.length acap, .int .i64 n] w fun e w' =>
    ∃ a cap, e = .returned (.tuple #[.agg #[.int .i64 (runS p args n).status, .int .i64 (runS p args n).value, .slice a (toldD p (runS p args n)).length cap], .int .i64 (runE p args n)]) ∧
      w'.ownsRow w.heap.size 93 3 (.slice a (toldD p (runS p args n)).length cap) (toldD p (runS p args n)).length ((toldD p (runS p args n)).map frCells).flatten ∧ Below w.heap.size w w'

end Go.Proofs.YtebjndcokkefhaaDoor
namespace Go.Proofs.YtebjndcokkefhaaDoor
open Go.RowKit

theorem strip_len (p : List FnD) : (strip p).length = p.length := by unfold strip; simp

/-- What is asked of run.Behind, and of unfold.Run. -/
def Answers (f : FuncId) : Prop := ∀ (pa : Option Addr) (pcap : Nat) (p : List FnD) (aa : Option Addr) (acap : Nat) (args : List Int) (n : Int) (w : World), RdP w pa p.length pcap p → Rd .i64 w aa args.length acap args → R64 n →
  Calls Tryd.prog f #[.agg #[.slice pa p.length pcap], .slice aa args.length acap, .int .i64 n] w fun e w' =>
    ∃ a cap, e = .returned (.tuple #[.agg #[.int .i64 (runS p args n).status, .int .i64 (runS p args n).value, .slice a (toldD p (runS p args n)).length cap], .int .i64 (runE p args n)]) ∧
      w'.ownsRow w.heap.size 93 3 (.slice a (toldD p (runS p args n)).length cap) (toldD p (runS p args n)).length ((toldD p (runS p args n)).map frCells).flatten ∧ Below w.heap.size w w'

set_option maxHeartbeats 4000000 in
set_option maxRecDepth 100000 in
theorem Behind_any : Answers 30 := by
  intro pa pcap p aa acap args n w hp ha hn
  have HNW := hid (fun (W : World) (hW : Below w.heap.size w W) => New_any pa pcap p aa acap args W (hp.below hW) (ha.below hW (Nat.le_refl _)))
  obtain ⟨hn1, hn2⟩ := hn
  obtain ⟨wb, hwb⟩ : ∃ wb, wb = (w.alloc (Obj.cells #[.slice pa p.length pcap] 24)).alloc (Obj.cells #[.int .i64 0, .int .i64 0, .slice none 0 0] 47) := ⟨_, rfl⟩
  have hbb : Below w.heap.size w wb := by rw [hwb]; exact ((Below.refl _ _).alloc (Nat.le_refl _) _).alloc (by simp) _
  have hbs : wb.heap.size = w.heap.size + 2 := by rw [hwb]; simp
  have k1 : wb.heap[w.heap.size + 1]? = some (.cells #[.int .i64 0, .int .i64 0, .slice none 0 0] 47 (0, 0)) := by rw [hwb]; exact heap_new_at (by simp)
  have HNB := hid (HNW.out wb hbb)
  have hE : runE p args n = if (chk p).1 ≠ 0 then (chk p).1 else if givenB p args = true ∧ 0 ≤ n ∧ n ≤ 2000 then 0 else 1 := rfl
  have hS : runS p args n = if runE p args n = 0 then runD p (begunD p args) n.toNat else ⟨0, 0, []⟩ := rfl
  obtain ⟨E, hE2⟩ : ∃ E, E = runE p args n := ⟨_, rfl⟩
  obtain ⟨R, hS2⟩ : ∃ R, R = runS p args n := ⟨_, rfl⟩
  rw [← hE2, ← hS2]
  rw [← hE2] at hE hS
  rw [← hS2] at hS
  clear hE2 hS2 HNW hp ha
  have HE := hid hE
  have HS := hid hS
  have HK1 := hid k1
  clear hE hS k1
  obtain ⟨pl, hpl2⟩ : ∃ v, v = p.length := ⟨_, rfl⟩
  obtain ⟨al, hal2⟩ : ∃ v, v = args.length := ⟨_, rfl⟩
  rw [← hpl2] at HNB hwb ⊢
  rw [← hal2] at HNB ⊢
  have HPL := hid hpl2
  have HAL := hid hal2
  clear hpl2 hal2
  go_enter Tryd.func30, Tryd.ntmps30
  go_wp2_with fail
  rw [← hwb]
  clear hwb
  refine HNB.out.mono ?_
  clear HNB
  rintro e w1 ⟨hb1, hcase⟩
  have hs1 := hb1.size
  have hbw1 := hbb.trans (hb1.mono hbb.size)
  have j1 := (hb1.block (w.heap.size + 1) (by omega)).trans HK1.out
  have x0 : w1.cell? ⟨w.heap.size + 1, 0, none⟩ = some (.int .i64 0) := by simp [World.cell?, j1]
  have x1 : w1.cell? ⟨w.heap.size + 1, 1, none⟩ = some (.int .i64 0) := by simp [World.cell?, j1]
  have x2 : w1.cell? ⟨w.heap.size + 1, 2, none⟩ = some (.slice none 0 0) := by simp [World.cell?, j1]
  have f0 : w1.frozen? ⟨w.heap.size + 1, 0, none⟩ = false := by simp [World.frozen?, j1]
  have f1 : w1.frozen? ⟨w.heap.size + 1, 1, none⟩ = false := by simp [World.frozen?, j1]
  have f2 : w1.frozen? ⟨w.heap.size + 1, 2, none⟩ = false := by simp [World.frozen?, j1]
  have lt1 : w.heap.size + 1 < w1.heap.size := by omega
  have hsw := hbw1.size
  rcases hcase with ⟨hc, rfl⟩ | ⟨hc, hgv, rfl⟩ | ⟨hc, hgv, qa, qcap, v, w0, rfl, hrp, hbw0, hb01, hrow⟩
  · have hE1 : E = (chk p).1 := by rw [HE.out, if_pos hc]
    have hS1 : R = ⟨0, 0, []⟩ := by rw [HS.out, if_neg (by rw [hE1]; exact hc)]
    rw [← hE1] at hc ⊢
    have hc' : (E != 0) = true := by simpa using hc
    subst hS1
    simp only [noRun]
    have HBE := hid (fun (A : Obj) => (below_boxed (bx := w.heap.size + 1) hbw1 (by omega) (.int .i64 0) (.int .i64 0) (.slice none 0 0)).alloc (by simp; omega) A)
    clear hE1 HE HS j1
    go_wp2
    exact bodyPost_ret (v := .tuple #[.agg #[.int .i64 0, .int .i64 0, .slice none 0 0], .int .i64 E]) (by simp [results, Tryd.results30, go_sem, x0, x1, x2, lt1]) rfl ⟨none, 0, rfl, World.ownsRow_nil _ _ _ _, HBE.out _⟩
  · have hE1 : E = 1 := by rw [HE.out, if_neg (by simpa using hc), if_neg (fun h => by rw [hgv] at h; cases h.1)]
    have hS1 : R = ⟨0, 0, []⟩ := by rw [HS.out, if_neg (by rw [hE1]; decide)]
    subst hS1
    subst hE1
    simp only [noRun]
    have HBE := hid (fun (A : Obj) => (below_boxed (bx := w.heap.size + 1) hbw1 (by omega) (.int .i64 0) (.int .i64 0) (.slice none 0 0)).alloc (by simp; omega) A)
    clear HE HS j1
    go_wp2
    exact bodyPost_ret (v := .tuple #[.agg #[.int .i64 0, .int .i64 0, .slice none 0 0], .int .i64 1]) (by simp [results, Tryd.results30, go_sem, x0, x1, x2, lt1]) rfl ⟨none, 0, rfl, World.ownsRow_nil _ _ _ _, HBE.out _⟩
  · obtain ⟨va, vc, rfl⟩ : ∃ va vc, v = .slice va 1 vc := by
      rcases hrow.2 with ⟨h1, h2⟩ | ⟨g, c', cur, h1, _⟩
      · omega
      · exact ⟨_, _, h1⟩
    have hg := good_of (chk_zero hc)
    have hgt := given_true hgv
    have hf0 := hg.fns 0 _ (fnAt_some (p := p) (n := 0) (by have := hg.len; omega))
    obtain ⟨w2, hw2⟩ : ∃ w2, w2 = w1.alloc (Obj.cells #[.slice qa pl qcap, .slice va 1 vc, .int .i64 0, .int .i64 0] 81) := ⟨_, rfl⟩
    have hb2 : Below w1.heap.size w1 w2 := by rw [hw2]; exact (Below.refl _ _).alloc (Nat.le_refl _) _
    have hs2 : w2.heap.size = w1.heap.size + 1 := by rw [hw2]; simp
    have hs01 := hb01.size
    have hR : RunAt ⟨81, [], fun _ => none⟩ w0 (strip p) w1.heap.size w2 (begunD (strip p) args) := by
      rw [begunD_strip]
      have hfl := hf0.locals
      have hfp := hf0.params
      have hfm : ((begunD p args).live.map frmCells).flatten = frmCells ⟨0, 0, args⟩ := by
        show (([(⟨0, 0, fillI args (fnAt p 0).locals.toNat args.length⟩ : LiveD)]).map frmCells).flatten = _
        simp only [List.map_cons, List.map_nil, List.flatten_cons, List.flatten_nil, List.append_nil]
        unfold frmCells
        dsimp only
        rw [pad8_fill (by have := hgt.1; omega) (by omega)]
      refine ⟨qa, qcap, .slice va 1 vc, ?_, ?_, hb01.trans (hb2.mono hs01), hs01, ?_, fun e => ?_, fun _ _ h => by cases h⟩
      · rw [hw2, strip_len, ← HPL.out]
        exact heap_new_at rfl
      · rw [strip_len, ← HPL.out]; exact hrp w0 (fun _ _ _ => rfl)
      · rw [hfm]
        exact ownsRow_below hrow hb2
      · have := (hrow.lt _ e).2
        omega
    by_cases hnn : 0 ≤ n ∧ n ≤ 2000
    · have hE1 : E = 0 := by rw [HE.out, if_neg (by simpa using hc), if_pos ⟨hgv, hnn⟩]
      have hS1 : R = runD p (begunD p args) n.toNat := by rw [HS.out, if_pos hE1]
      obtain ⟨nN, rfl⟩ : ∃ nN : Nat, n = (nN : Int) := ⟨n.toNat, by omega⟩
      have hS2 : R = runD (strip p) (begunD (strip p) args) nN := by rw [hS1, runD_strip, begunD_strip]; simp
      have hT : toldD p R = toldD (strip p) R := (toldD_strip p R).symm
      have HT := hid hT
      have hgs := good_strip hg
      have hwfs : Wf (strip p) (begunD (strip p) args) := wf_begun hgs (by rw [fnAt_strip]; exact hgt.1) hgt.2
      have HST := hid (Step_any _ w0 (strip p) w1.heap.size (begunD (strip p) args) nN w2 hgs hwfs hR (by omega))
      have HWR := hid (wf_run hgs hwfs nN)
      rw [← hS2] at HST HWR
      have HGS := hid hgs
      subst hE1
      have h1' : (nN : Int) ≤ 2000 := hnn.2
      clear hS1 hS2 hT hgs hwfs hR HE HS hgt hf0 hrow hrp hc hgv hg
      go_wp2_with fail
      rw [← hw2]
      refine HST.out.mono ?_
      clear HST hw2 x0 x1 x2 f0 f1 f2
      rintro e w3 ⟨rfl, hr3⟩
      have hb03 : Below w0.heap.size w0 w3 := by
        obtain ⟨_, _, _, _, _, h, _, _⟩ := hr3
        exact h
      have HSA := hid (State_any _ w0 (strip p) w1.heap.size R w3 HGS.out HWR.out hr3)
      have hs03 := hb03.size
      have hsb0 := hbw0.size
      have hbb3 := hbw0.trans (hb03.mono hsb0)
      have hs3 := hbb3.size
      clear hr3
      go_wp2_with fail
      refine HSA.out.mono ?_
      clear HSA
      rintro e w4 ⟨a, cap, rfl, how, hb4⟩
      have hbb4 := hbb3.trans (hb4.mono hs3)
      have hbw4 := hbb.trans (hbb4.mono hbb.size)
      have j4 := (hbb4.block (w.heap.size + 1) (by omega)).trans HK1.out
      have x0 : w4.cell? ⟨w.heap.size + 1, 0, none⟩ = some (.int .i64 0) := by simp [World.cell?, j4]
      have x1 : w4.cell? ⟨w.heap.size + 1, 1, none⟩ = some (.int .i64 0) := by simp [World.cell?, j4]
      have x2 : w4.cell? ⟨w.heap.size + 1, 2, none⟩ = some (.slice none 0 0) := by simp [World.cell?, j4]
      have f0 : w4.frozen? ⟨w.heap.size + 1, 0, none⟩ = false := by simp [World.frozen?, j4]
      have f1 : w4.frozen? ⟨w.heap.size + 1, 1, none⟩ = false := by simp [World.frozen?, j4]
      have f2 : w4.frozen? ⟨w.heap.size + 1, 2, none⟩ = false := by simp [World.frozen?, j4]
      obtain ⟨tl, htl⟩ : ∃ v, v = (toldD (strip p) R).length := ⟨_, rfl⟩
      rw [← htl] at how
      rw [← htl]
      have hne : (Value.slice a tl cap).ownBlock ≠ some (w.heap.size + 1) := fun e => by have := (how.lt _ e).1; omega
      have HBE := hid (below_boxed (bx := w.heap.size + 1) hbw4 (by omega) (.int .i64 R.status) (.int .i64 R.value) (.slice a tl cap))
      have h3 := ownsRow_setCell_other (ownsRow_setCell_other (ownsRow_setCell_other how (a := ⟨w.heap.size + 1, 0, none⟩) hne (.int .i64 R.status)) (a := ⟨w.heap.size + 1, 1, none⟩) hne (.int .i64 R.value)) (a := ⟨w.heap.size + 1, 2, none⟩) hne (.slice a tl cap)
      have HOW := hid (owns_lower h3 (base' := w.heap.size) (by omega))
      have HTL := hid htl
      clear how h3 j4 htl
      go_wp2
      exact bodyPost_ret (v := .tuple #[.agg #[.int .i64 R.status, .int .i64 R.value, .slice a tl cap], .int .i64 0]) (by simp [results, Tryd.results30, go_sem, x0, x1, x2]) rfl ⟨a, cap, by rw [HT.out, ← HTL.out], by rw [HT.out, ← HTL.out]; exact HOW.out, HBE.out⟩
    · have hE1 : E = 1 := by rw [HE.out, if_neg (by simpa using hc), if_neg (fun h => hnn h.2)]
      have hS1 : R = ⟨0, 0, []⟩ := by rw [HS.out, if_neg (by rw [hE1]; decide)]
      subst hS1
      subst hE1
      have HBE := hid (fun (A : Obj) => (below_boxed (bx := w.heap.size + 1) hbw1 (by omega) (.int .i64 0) (.int .i64 0) (.slice none 0 0)).alloc (by simp; omega) A)
      clear HE HS j1 hw2 hR hgt hf0 hrow hrp hc hgv hg hb2
      have HSB := hid (fun (W : World) => Step_bad w1.heap.size n W hnn)
      go_wp2_with fail
      refine (HSB.out _).mono ?_
      rintro e w3 ⟨rfl, rfl⟩
      go_wp2
      exact bodyPost_ret (v := .tuple #[.agg #[.int .i64 0, .int .i64 0, .slice none 0 0], .int .i64 1]) (by simp [results, Tryd.results30, go_sem, x0, x1, x2, lt1]) rfl ⟨none, 0, rfl, World.ownsRow_nil _ _ _ _, HBE.out _⟩

set_option maxHeartbeats 4000000 in
set_option maxRecDepth 100000 in
theorem run_answers : Answers 16 := by
  intro pa pcap p aa acap args n w hp ha hn
  have HB := hid (fun (W : World) (hW : Below w.heap.size w W) => Behind_any pa pcap p aa acap args n W (hp.below hW) (ha.below hW (Nat.le_refl _)) hn)
  obtain ⟨wb, hwb⟩ : ∃ wb, wb = (w.alloc (Obj.cells #[.slice pa p.length pcap] 24)).alloc (Obj.cells #[.int .i64 0, .int .i64 0, .slice none 0 0] 47) := ⟨_, rfl⟩
  have hbb : Below w.heap.size w wb := by rw [hwb]; exact ((Below.refl _ _).alloc (Nat.le_refl _) _).alloc (by simp) _
  have hbs : wb.heap.size = w.heap.size + 2 := by rw [hwb]; simp
  have k1 : wb.heap[w.heap.size + 1]? = some (.cells #[.int .i64 0, .int .i64 0, .slice none 0 0] 47 (0, 0)) := by rw [hwb]; exact heap_new_at (by simp)
  have HBB := hid (HB.out wb hbb)
  clear HB hp ha
  generalize runE p args n = E at *
  generalize runS p args n = R at *
  generalize toldD p R = fr at *
  obtain ⟨tl, htl⟩ : ∃ v, v = fr.length := ⟨_, rfl⟩
  rw [← htl] at HBB ⊢
  have HK1 := hid k1
  generalize p.length = pl at *
  generalize args.length = al at *
  clear k1 htl
  go_enter Tryd.func16, Tryd.ntmps16
  go_wp2_with fail
  rw [← hwb]
  clear hwb
  refine HBB.out.mono ?_
  clear HBB
  rintro e w4 ⟨a, cap, rfl, how, hb4⟩
  have hbw4 := hbb.trans (hb4.mono hbb.size)
  have j4 := (hb4.block (w.heap.size + 1) (by omega)).trans HK1.out
  have x0 : w4.cell? ⟨w.heap.size + 1, 0, none⟩ = some (.int .i64 0) := by simp [World.cell?, j4]
  have x1 : w4.cell? ⟨w.heap.size + 1, 1, none⟩ = some (.int .i64 0) := by simp [World.cell?, j4]
  have x2 : w4.cell? ⟨w.heap.size + 1, 2, none⟩ = some (.slice none 0 0) := by simp [World.cell?, j4]
  have f0 : w4.frozen? ⟨w.heap.size + 1, 0, none⟩ = false := by simp [World.frozen?, j4]
  have f1 : w4.frozen? ⟨w.heap.size + 1, 1, none⟩ = false := by simp [World.frozen?, j4]
  have f2 : w4.frozen? ⟨w.heap.size + 1, 2, none⟩ = false := by simp [World.frozen?, j4]
  have hne : (Value.slice a tl cap).ownBlock ≠ some (w.heap.size + 1) := fun e => by have := (how.lt _ e).1; omega
  have HBE := hid (below_boxed (bx := w.heap.size + 1) hbw4 (by omega) (.int .i64 R.status) (.int .i64 R.value) (.slice a tl cap))
  have h3 := ownsRow_setCell_other (ownsRow_setCell_other (ownsRow_setCell_other how (a := ⟨w.heap.size + 1, 0, none⟩) hne (.int .i64 R.status)) (a := ⟨w.heap.size + 1, 1, none⟩) hne (.int .i64 R.value)) (a := ⟨w.heap.size + 1, 2, none⟩) hne (.slice a tl cap)
  have HOW := hid (owns_lower h3 (base' := w.heap.size) (by omega))
  clear how h3 j4
  go_wp2
  exact bodyPost_ret (v := .tuple #[.agg #[.int .i64 R.status, .int .i64 R.value, .slice a tl cap], .int .i64 E]) (by simp [results, Tryd.results16, go_sem, x0, x1, x2]) rfl ⟨a, cap, rfl, HOW.out, HBE.out⟩

theorem run_gives : RunGives := run_answers
end Go.Proofs.YtebjndcokkefhaaDoor
