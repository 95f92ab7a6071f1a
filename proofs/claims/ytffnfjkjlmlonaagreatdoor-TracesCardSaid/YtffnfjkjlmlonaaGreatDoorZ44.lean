/- Contracts of the reference's decimal and Print, where the frames are those of a well-formed program. Contract of the reference's Trace. The statement's world where lists of frames have come out, each written full of its number; contracts of marked and looks there: the look answers true. -/
import Derived.Test.YtffnfjkjlmlonaaGreatDoorZ43
import Derived.Test.YtffnfjkjlmlonaaGreatDoorZ2
import Derived.Test.YtffnfjkjlmlonaaGreatDoorZ13
import Derived.Test.YtffnfjkjlmlonaaGreatDoorR13
import Derived.Test.YtffnfjkjlmlonaaGreatDoorZ27
import Derived.Test.YtffnfjkjlmlonaaGreatDoorZ8
import Derived.Test.YtffnfjkjlmlonaaGreatDoorZ7
namespace Go.Proofs.YtffnfjkjlmlonaaGreatDoor
open Go.RowKit

theorem strOf_app (a b : List Int) : strOfNums (a ++ b) = strOfNums a ++ strOfNums b := by
  unfold strOfNums
  apply ByteArray.ext
  simp
theorem str_byteL2 (x : ByteArray) : strOfNums (byteL x) = x := by
  unfold strOfNums byteL
  rw [List.map_map]
  have e : (x.data.toList.map ((fun n : Int => UInt8.ofNat n.toNat) ∘ fun c : UInt8 => (c.toNat : Int))) = x.data.toList := by
    conv => rhs; rw [← List.map_id x.data.toList]
    exact List.map_congr_left fun c _ => by simp
  rw [e]
theorem strOf_size (l : List Int) : (strOfNums l).size = l.length := by
  unfold strOfNums
  simp [ByteArray.size]
theorem dec_small {u : Nat} (h : u < 10) : (⟨(Lib.decDigits u).toArray⟩ : ByteArray) = strOfNums [48 + (u : Int)] := by
  rw [Lib.decDigits, dif_pos h]
  unfold strOfNums
  simp only [List.map_cons, List.map_nil]
  rw [show (48 + (u : Int)).toNat = 48 + u by omega]
theorem dec_big {u : Nat} (h : ¬ u < 10) : (⟨(Lib.decDigits u).toArray⟩ : ByteArray) = ⟨(Lib.decDigits (u / 10)).toArray⟩ ++ strOfNums [48 + ((u % 10 : Nat) : Int)] := by
  rw [Lib.decDigits, dif_neg h]
  unfold strOfNums
  apply ByteArray.ext
  simp only [List.map_cons, List.map_nil]
  rw [show (48 + ((u % 10 : Nat) : Int)).toNat = 48 + u % 10 by omega]
  simp

set_option maxHeartbeats 4000000 in
set_option maxRecDepth 100000 in
theorem rDec_step (x : Int) (w : World) (h0 : 0 ≤ x) (hx : x ≤ 9999) (IH : ∀ W : World, 10 ≤ x → Calls Tryz.prog 108 #[.int .i64 (x / 10)] W fun e w' => e = .returned (.string ⟨(Lib.decDigits (x.toNat / 10)).toArray⟩) ∧ Below W.heap.size W w') :
    Calls Tryz.prog 108 #[.int .i64 x] w fun e w' => e = .returned (.string ⟨(Lib.decDigits x.toNat).toArray⟩) ∧ Below w.heap.size w w' := by
  obtain ⟨wA, hwA⟩ : ∃ v, v = w.alloc (Obj.cells #[.int .u8 (48 + x % 10)] 5) := ⟨_, rfl⟩
  have hbA : Below w.heap.size w wA := by rw [hwA]; exact (Below.refl _ _).alloc (Nat.le_refl _) _
  have kA : wA.heap[w.heap.size]? = some (.cells #[.int .u8 (48 + x % 10)] 5 (0, 0)) := by rw [hwA]; exact heap_new_at rfl
  have v1 := run_convert_bytes_arg (P := Tryz.prog) wA 36 5 Tryz.underlying36 Tryz.underlying5 w.heap.size 0 1 1 [48 + x % 10] rfl (fun j hj => by
    have : j = 0 := by omega
    subst this
    simp [World.cell?, kA]) 9 Tryz.underlying9
  by_cases h10 : x < 10
  · have HE : Hid ((⟨(Lib.decDigits x.toNat).toArray⟩ : ByteArray) = strOfNums [48 + x % 10]) := hid (by rw [dec_small (by omega), show ((x.toNat : Nat) : Int) = x % 10 by omega])
    generalize strOfNums [48 + x % 10] = s at *
    rw [hwA] at v1 hbA
    clear kA hwA wA IH
    go_enter Tryz.func108, Tryz.ntmps108
    go_wp2
    go_ret
    exact ⟨by rw [HE.out]; rfl, hbA⟩
  · have HE : Hid ((⟨(Lib.decDigits x.toNat).toArray⟩ : ByteArray) = ⟨(Lib.decDigits (x.toNat / 10)).toArray⟩ ++ strOfNums [48 + x % 10]) := hid (by rw [dec_big (by omega), show ((x.toNat % 10 : Nat) : Int) = x % 10 by omega])
    have HI := hid (IH wA (by omega))
    have hsum : ¬ 9223372036854775807 < (⟨(Lib.decDigits (x.toNat / 10)).toArray⟩ : ByteArray).size + (strOfNums [48 + x % 10]).size := by
      have h1 := Lib.itoa_length_le ((x.toNat / 10 : Nat) : Int) (by omega) (by omega)
      rw [Lib.itoa_nonneg] at h1
      have h2 : (⟨(Lib.decDigits (x.toNat / 10)).toArray⟩ : ByteArray).size ≤ 21 := by
        show (Lib.decDigits (x.toNat / 10)).toArray.size ≤ 21
        rw [List.size_toArray]; exact h1
      have h3 : (strOfNums [48 + x % 10]).size = 1 := rfl
      omega
    generalize strOfNums [48 + x % 10] = s at *
    generalize (⟨(Lib.decDigits (x.toNat / 10)).toArray⟩ : ByteArray) = s2 at *
    rw [hwA] at v1 hbA HI
    clear kA hwA wA IH
    go_enter Tryz.func108, Tryz.ntmps108
    go_wp2_with (go_at_call 108; refine HI.out.mono ?_; rintro e w1 ⟨rfl, hb1⟩)
    go_ret
    exact ⟨by rw [HE.out]; rfl, hbA.trans (hb1.mono hbA.size)⟩

theorem rDec_any : ∀ (f : Nat) (x : Int) (w : World), 0 ≤ x → x ≤ 9999 → x < (10 : Int) ^ (f + 1) → Calls Tryz.prog 108 #[.int .i64 x] w fun e w' => e = .returned (.string ⟨(Lib.decDigits x.toNat).toArray⟩) ∧ Below w.heap.size w w'
  | 0, x, w, h0, hx, hf => rDec_step x w h0 hx (fun W h => by simp at hf; omega)
  | f + 1, x, w, h0, hx, hf => rDec_step x w h0 hx (fun W h => by
      have e : (x / 10).toNat = x.toNat / 10 := by omega
      have := rDec_any f (x / 10) W (by omega) (by omega) (by rw [Int.pow_succ] at hf; omega)
      rw [e] at this
      exact this)

set_option maxHeartbeats 4000000 in
set_option maxRecDepth 100000 in
theorem rPrint_any (a : Option Addr) (cap : Nat) (fr : List FrameD) (w : World) (hr : RdL 3 RdFrame w a fr.length cap fr) (hok : ∀ f ∈ fr, FrOk f) (h20 : fr.length ≤ 20) :
    Calls Tryz.prog 60 #[.slice a fr.length cap] w fun e w' => e = .returned (.tuple #[.string (strOfNums (printD fr)), .int .i64 0]) ∧ Below w.heap.size w w' := by
  have HR := hid hr
  have HOK := hid hok
  have hc1 := hr.2.1
  have hc2 := hr.2.2.1
  unfold maxLen at hc2
  obtain ⟨n, hn⟩ : ∃ v, v = fr.length := ⟨_, rfl⟩
  rw [← hn] at HR hc1 h20 ⊢
  have HN := hid hn
  clear hr hok hn
  go_enter Tryz.func60, Tryz.ntmps60
  go_wp2
  go_loopw [4] (fun i wr => ∃ k : Nat, i = .int .i64 k ∧ k ≤ n ∧ Below w.heap.size w wr) (fun i _ => n - (intOf i).toNat)
  case atStart => exact ⟨0, rfl, by omega, Below.refl _ _⟩
  case round =>
    obtain ⟨k, rfl, hk, hbel⟩ := hrel
    have hsz := hbel.size
    by_cases hkn : k < n
    · have hkn' : (k : Int) < (n : Int) := by omega
      obtain ⟨f, hf⟩ : ∃ f, fr[k]? = some f := ⟨_, List.getElem?_eq_getElem (by rw [← HN.out]; exact hkn)⟩
      obtain ⟨⟨hw1, hf1⟩, ⟨hw2, hf2⟩, hf3, hf4⟩ := HOK.out f (List.mem_of_getElem? hf)
      obtain ⟨b0, off, cs, rfl, -, hc, rfl⟩ := (HR.out.below hbel (fun _ _ h => h)).2.2.2 k f hf
      have c0 := hc 0 _ rfl
      have c1 := hc 1 _ rfl
      have c2 := hc 2 _ rfl
      have hb0 : b0 < wr.heap.size := World.block_lt_of_cell? wr _ c0
      rw [Nat.add_zero] at c0
      have H1 := hid (word_any f.func wr (by unfold maxLen; omega))
      have H2 := hid (fun W => word_any f.file W (by unfold maxLen; omega))
      rw [hw1] at H1
      rw [hw2] at H2
      generalize f.func = fn at *
      generalize f.file = fl at *
      generalize f.line = ln at *
      have HBEL := hid hbel
      clear hf hc hbel hw1 hw2
      go_wp2_with fail
      refine H1.out.mono ?_
      rintro e w2 ⟨rfl, hb2⟩
      have d1 := (hb2.cell (p := ⟨b0, off + k * 3 + 1, none⟩) hb0).trans c1
      have d2 := (hb2.cell (p := ⟨b0, off + k * 3 + 2, none⟩) hb0).trans c2
      have hs2 := hb2.size
      have lt2 : b0 < w2.heap.size := by omega
      have HB2 := hid (HBEL.out.trans (hb2.mono hsz))
      clear c0 c1 c2 hb2 H1
      go_wp2_with fail
      refine (H2.out w2).mono ?_
      rintro e w3 ⟨rfl, hb3⟩
      have e2 := (hb3.cell (p := ⟨b0, off + k * 3 + 2, none⟩) lt2).trans d2
      have hs3 := hb3.size
      have lt3 : b0 < w3.heap.size := by omega
      have HB3 := hid (HB2.out.trans (hb3.mono HB2.out.size))
      have l1 : decide (ln < 1) = false := by simp; omega
      have l2 : decide ((9999 : Int) < ln) = false := by simp; omega
      clear d1 d2 hb3 H2
      go_wp2
      go_roundw
      case rel => exact ⟨k + 1, by go_num, by omega, HB3.out⟩
      case measure => simp [intOf]; omega
    · have hkn' : decide ((k : Int) < (n : Int)) = false := by simp; omega
      have HBEL := hid hbel
      clear hbel
      obtain ⟨wo, hwo⟩ : ∃ v, v = wr := ⟨_, rfl⟩
      subst hwo
      go_wp2
      go_loopw [7, 8] (fun sv i W => ∃ k : Nat, i = .int .i64 k ∧ k ≤ n ∧ sv = .string (strOfNums (printD (fr.take k))) ∧ Below w.heap.size w W) (fun _ i _ => n - (intOf i).toNat)
      case atStart => exact ⟨0, rfl, by omega, rfl, HBEL.out⟩
      case round =>
        clear hkn' HBEL
        obtain ⟨k, rfl, hk, rfl, hbel⟩ := hrel
        have hsz := hbel.size
        by_cases hkn : k < n
        · have hkn' : (k : Int) < (n : Int) := by omega
          obtain ⟨f, hf⟩ : ∃ f, fr[k]? = some f := ⟨_, List.getElem?_eq_getElem (by rw [← HN.out]; exact hkn)⟩
          obtain ⟨⟨-, hf1⟩, ⟨-, hf2⟩, hf3, hf4⟩ := HOK.out f (List.mem_of_getElem? hf)
          obtain ⟨b0, off, cs, rfl, -, hc, rfl⟩ := (HR.out.below hbel (fun _ _ h => h)).2.2.2 k f hf
          have c0 := hc 0 _ rfl
          have c1 := hc 1 _ rfl
          have c2 := hc 2 _ rfl
          have hb0 : b0 < wr.heap.size := World.block_lt_of_cell? wr _ c0
          rw [Nat.add_zero] at c0
          have hpl : (strOfNums (printD (fr.take k))).size ≤ 1280 := by
            rw [strOf_size]
            have h := printD_len (fr.take k) (fun x hx => HOK.out x (List.mem_of_mem_take hx))
            rw [List.length_take] at h
            have : min k fr.length ≤ k := Nat.min_le_left _ _
            omega
          have hil := Lib.itoa_length_le f.line (by omega) (by omega)
          have hsn : (⟨(Lib.itoa f.line).toArray⟩ : ByteArray).size ≤ 21 := by
            show (Lib.itoa f.line).toArray.size ≤ 21
            rw [List.size_toArray]; exact hil
          have HD := hid (rDec_any 3 f.line wr (by omega) hf4 (by omega))
          have hdi : (⟨(Lib.decDigits f.line.toNat).toArray⟩ : ByteArray) = ⟨(Lib.itoa f.line).toArray⟩ := by
            rw [show Lib.itoa f.line = Lib.decDigits f.line.toNat by unfold Lib.itoa; rw [if_neg (by omega)]]
          rw [hdi] at HD
          have HNEXT : Hid (strOfNums (printD (fr.take (k + 1))) = strOfNums (printD (fr.take k)) ++ f.func ++ ⟨#[32]⟩ ++ f.file ++ ⟨#[58]⟩ ++ ⟨(Lib.itoa f.line).toArray⟩ ++ ⟨#[10]⟩) := hid (by
            obtain ⟨hlt, he⟩ := List.getElem?_eq_some_iff.1 hf
            have e : printD (fr.take (k + 1)) = printD (fr.take k) ++ lineD f := by
              rw [List.take_succ_eq_append_getElem hlt, he]
              unfold printD
              rw [List.flatMap_append]
              simp
            rw [e]
            unfold lineD
            simp only [strOf_app, str_byteL2, ByteArray.append_assoc]
            rfl)
          generalize (⟨(Lib.itoa f.line).toArray⟩ : ByteArray) = sn at *
          generalize f.func = fn at *
          generalize f.file = fl at *
          generalize f.line = ln at *
          generalize strOfNums (printD (fr.take k)) = P0 at *
          have HBEL := hid hbel
          clear hf hc hbel hil hdi
          go_wp2_with fail
          refine HD.out.mono ?_
          rintro e w2 ⟨rfl, hb2⟩
          have d0 := (hb2.cell (p := ⟨b0, off + k * 3, none⟩) hb0).trans c0
          have d1 := (hb2.cell (p := ⟨b0, off + k * 3 + 1, none⟩) hb0).trans c1
          have hs2 := hb2.size
          have lt2 : b0 < w2.heap.size := by omega
          have HB2 := hid (HBEL.out.trans (hb2.mono hsz))
          clear c0 c1 c2 hb2 HD
          have z1 : ¬ 9223372036854775807 < P0.size + fn.size := by omega
          have z2 : ¬ 9223372036854775807 < (P0 ++ fn).size + (⟨#[32]⟩ : ByteArray).size := by rw [ByteArray.size_append]; show ¬ _ < P0.size + fn.size + 1; omega
          have z3 : ¬ 9223372036854775807 < (P0 ++ fn ++ ⟨#[32]⟩).size + fl.size := by rw [ByteArray.size_append, ByteArray.size_append]; show ¬ _ < P0.size + fn.size + 1 + fl.size; omega
          have z4 : ¬ 9223372036854775807 < (P0 ++ fn ++ ⟨#[32]⟩ ++ fl).size + (⟨#[58]⟩ : ByteArray).size := by rw [ByteArray.size_append, ByteArray.size_append, ByteArray.size_append]; show ¬ _ < P0.size + fn.size + 1 + fl.size + 1; omega
          have z5 : ¬ 9223372036854775807 < (P0 ++ fn ++ ⟨#[32]⟩ ++ fl ++ ⟨#[58]⟩).size + sn.size := by rw [ByteArray.size_append, ByteArray.size_append, ByteArray.size_append, ByteArray.size_append]; show ¬ _ < P0.size + fn.size + 1 + fl.size + 1 + sn.size; omega
          have z6 : ¬ 9223372036854775807 < (P0 ++ fn ++ ⟨#[32]⟩ ++ fl ++ ⟨#[58]⟩ ++ sn).size + (⟨#[10]⟩ : ByteArray).size := by rw [ByteArray.size_append, ByteArray.size_append, ByteArray.size_append, ByteArray.size_append, ByteArray.size_append]; show ¬ _ < P0.size + fn.size + 1 + fl.size + 1 + sn.size + 1; omega
          go_wp2
          go_region
          go_wp2
          go_roundw
          case rel => exact ⟨k + 1, by go_num, by omega, by rw [HNEXT.out], HB2.out.drew⟩
          case measure => simp [intOf]; omega
        · have hkn' : decide ((k : Int) < (n : Int)) = false := by simp; omega
          have HKE : Hid (fr.take k = fr) := hid (List.take_of_length_le (by have := HN.out; omega))
          have HB := hid hbel
          clear hbel
          rw [HKE.out]
          obtain ⟨P0, hP0⟩ : ∃ v, v = strOfNums (printD fr) := ⟨_, rfl⟩
          rw [← hP0]
          have HP := hid hP0
          clear hP0
          go_wp2
          exact bodyPost_ret (v := .tuple #[.string P0, .int .i64 0]) (by simp [results, Tryz.results60, go_sem]) rfl ⟨by rw [HP.out], HB.out⟩
end Go.Proofs.YtffnfjkjlmlonaaGreatDoor
namespace Go.Proofs.YtffnfjkjlmlonaaGreatDoor
open Go.RowKit

theorem told_ok2 {p : List FnD} (hc : chk p = (0, 0, 0)) {s : StandD} (hw : Wf p s) : ∀ f ∈ toldD p s, FrOk f := fun f hf => by
  have hbd : ∀ {s : ByteArray}, wordB s = true → s.size ≤ 20 := fun {s} h => by
    unfold wordB at h
    rw [Bool.and_eq_true] at h
    exact (of_decide_eq_true h.1).2
  have hof : ∀ (f : Nat) (x : FnD), p[f]? = some x → headB p f x = true := fun f x hx => by
    have h := hc
    unfold chk at h
    split at h
    · simp at h
    · have := (chkF_ok h f x hx).1
      rwa [Nat.zero_add] at this
  unfold toldD at hf
  obtain ⟨x, hx, rfl⟩ := List.mem_map.1 hf
  have hx' : x ∈ s.live := by simpa using hx
  have hwx := hw.live x hx'
  have hh := hof _ _ (fnOf_some hwx)
  unfold headB at hh
  simp only [Bool.and_eq_true] at hh
  have hl := (hwx.opOk (good_of hc)).line
  exact ⟨⟨hh.2.2.1.1, hbd hh.2.2.1.1⟩, ⟨hh.2.2.1.2, hbd hh.2.2.1.2⟩, hl.1, hl.2⟩

/-- The error that Trace answers, and the text. -/
def trE (p : List FnD) (bud : Int) (args : List Int) (n : Int) : Int := if runE p args n ≠ 0 then runE p args n else layE p bud
def trS (p : List FnD) (bud : Int) (args : List Int) (n : Int) : ByteArray := if trE p bud args n = 0 then strOfNums (printD (toldD p (runD p (begunD p args) n.toNat))) else strOfNums []

theorem may_any (b : Int) (w : World) : Calls Tryz.prog 113 #[.int .i64 b] w fun e w' => e = .returned (.bool (decide (0 ≤ b ∧ b ≤ 30))) ∧ w' = w := by
  by_cases h0 : 0 ≤ b
  · go_enter Tryz.func113, Tryz.ntmps113
    go_wp2
    go_ret
    refine ⟨?_, rfl⟩
    by_cases h1 : b ≤ 30 <;> simp [h0, h1]
  · have h0' : decide (0 ≤ b) = false := by simpa using h0
    go_enter Tryz.func113, Tryz.ntmps113
    go_wp2
    go_ret
    exact ⟨by simp, rfl⟩

set_option maxHeartbeats 4000000 in
set_option maxRecDepth 100000 in
theorem refTrace_any (pa : Option Addr) (pcap : Nat) (p : List FnD) (bud : Int) (aa : Option Addr) (acap : Nat) (args : List Int) (n : Int) (w : World) (hp : RdP w pa p.length pcap p) (ha : Rd .i64 w aa args.length acap args) (hn : R64 n) :
    Calls Tryz.prog 66 #[.agg #[.slice pa p.length pcap], .int .i64 bud, .slice aa args.length acap, .int .i64 n] w fun e w' =>
      e = .returned (.tuple #[.string (trS p bud args n), .int .i64 (trE p bud args n)]) ∧ Below w.heap.size w w' := by
  have hac := ha.hcap
  have ham := ha.hmax
  unfold maxLen at ham
  have hpc1 := hp.2.1
  have hpc2 := hp.2.2.1
  unfold maxLen at hpc2
  obtain ⟨hn1, hn2⟩ := hn
  obtain ⟨wA, hwA⟩ : ∃ v, v = w.alloc (Obj.cells #[.slice pa p.length pcap] 44) := ⟨_, rfl⟩
  have hbA : Below w.heap.size w wA := by rw [hwA]; exact (Below.refl _ _).alloc (Nat.le_refl _) _
  have hsA : wA.heap.size = w.heap.size + 1 := by rw [hwA]; simp
  have kA : wA.heap[w.heap.size]? = some (.cells #[.slice pa p.length pcap] 44 (0, 0)) := by rw [hwA]; exact heap_new_at rfl
  have HCK := hid (refCheck_any pa p.length pcap p wA (hp.below hbA))
  have HP := hid hp
  have HA := hid ha
  have HKA := hid kA
  have HBA := hid hbA
  obtain ⟨E, hE⟩ : ∃ v, v = trE p bud args n := ⟨_, rfl⟩
  obtain ⟨S, hS⟩ : ∃ v, v = trS p bud args n := ⟨_, rfl⟩
  rw [← hE, ← hS]
  have HE : Hid (E = if runE p args n ≠ 0 then runE p args n else layE p bud) := hid hE
  have HS : Hid (S = if E = 0 then strOfNums (printD (toldD p (runD p (begunD p args) n.toNat))) else strOfNums []) := hid (by rw [hS, hE]; rfl)
  obtain ⟨pl, hpl⟩ : ∃ v, v = p.length := ⟨_, rfl⟩
  obtain ⟨al, hal⟩ : ∃ v, v = args.length := ⟨_, rfl⟩
  rw [← hpl] at HCK HP HKA hpc1 hwA ⊢
  rw [← hal] at HA hac ⊢
  have HPL := hid hpl
  have HAL := hid hal
  clear hE hS hpl hal hp ha kA hbA
  go_enter Tryz.func66, Tryz.ntmps66
  go_wp2_with fail
  rw [← hwA]
  clear hwA
  refine HCK.out.mono ?_
  rintro e w1 ⟨rfl, hb1⟩
  have hs1 := hb1.size
  have hbw1 := HBA.out.trans (hb1.mono HBA.out.size)
  have k1 := (hb1.block w.heap.size (by omega)).trans HKA.out
  have r1 : w1.cell? ⟨w.heap.size, 0, none⟩ = some (.slice pa pl pcap) := by simp [World.cell?, k1]
  have HBW1 := hid hbw1
  have HK1 := hid k1
  clear hb1 hbw1 k1 HCK
  by_cases hc : (chk p).1 = 0
  · have hck := chk_zero hc
    have hg := good_of hck
    have hlen := hg.len
    have hR : runE p args n = if givenB p args = true ∧ 0 ≤ n ∧ n ≤ 2000 then 0 else 1 := by unfold runE; rw [if_neg (by simpa using hc)]
    have hLy : layE p bud = if 0 ≤ bud ∧ bud ≤ 30 then (if (codesD p bud).isSome = true then 0 else 11) else 1 := by unfold layE; rw [if_neg (by simpa using hc)]
    have HMY := hid (may_any bud w1)
    have HGV := hid (Given_any pa pcap p aa acap args w1 (by rw [← HPL.out]; exact HP.out.below HBW1.out) (by omega) (by rw [← HAL.out]; exact HA.out.below HBW1.out (Nat.le_refl _)))
    rw [← HPL.out, ← HAL.out] at HGV
    rw [hck]
    by_cases hok : givenB p args = true ∧ (0 ≤ n ∧ n ≤ 2000) ∧ 0 ≤ bud ∧ bud ≤ 30
    · obtain ⟨hgv, ⟨hn0, hn2k⟩, hb0, hb30⟩ := hok
      rw [if_pos ⟨hgv, hn0, hn2k⟩] at hR
      rw [if_pos ⟨hb0, hb30⟩] at hLy
      have hE1 : E = if (codesD p bud).isSome = true then 0 else 11 := by rw [HE.out, if_neg (by rw [hR]; simp), hLy]
      rw [hgv] at HGV
      have hmy : decide (0 ≤ bud ∧ bud ≤ 30) = true := by simp; omega
      rw [hmy] at HMY
      obtain ⟨k, rfl⟩ : ∃ k : Nat, n = (k : Int) := ⟨n.toNat, by omega⟩
      obtain ⟨hga, hgv2⟩ := given_true hgv
      have hwf := wf_run hg (wf_begun hg hga hgv2) k
      have HCD := hid (fun (W : World) (hW : Below w.heap.size w W) => rCodes_any pa pcap p bud W (by rw [← HPL.out]; exact HP.out.below hW) hg)
      have HAF := hid (fun (W : World) (hW : Below w.heap.size w W) => After_any pa pcap p aa acap args k W hg (by rw [← HPL.out]; exact HP.out.below hW) (by rw [← HAL.out]; exact HA.out.below hW (Nat.le_refl _)) (by omega) hga hgv2)
      have HTO := hid (fun (W : World) (cs : List Value) (hW : Below w.heap.size w W) (hs : RdStandU (fun _ => True) W cs (runD p (begunD p args) k)) => Told_any pa pcap p (runD p (begunD p args) k) cs W hg (by rw [← HPL.out]; exact HP.out.below hW) hwf hs)
      rw [← HPL.out] at HCD HTO
      rw [← HPL.out, ← HAL.out] at HAF
      have HOK := hid (told_ok2 hck hwf)
      have HFL : Hid ((toldD p (runD p (begunD p args) k)).length ≤ 20) := hid (by have := hwf.len; unfold toldD; simpa using this)
      have hS1 : S = if E = 0 then strOfNums (printD (toldD p (runD p (begunD p args) k))) else strOfNums [] := by rw [HS.out]; simp
      generalize toldD p (runD p (begunD p args) k) = fr at *
      generalize runD p (begunD p args) k = sN at *
      generalize (codesD p bud).isSome = fits at *
      have hk0 : decide ((k : Int) < 0) = false := by simp
      have hk2 : decide ((2000 : Int) < (k : Int)) = false := by simp; omega
      have HE1 := hid hE1
      have HS1 := hid hS1
      clear hR hLy HE HS hwf hga hgv2 hg hck hE1 hS1 hmy hgv
      go_wp2_with fail
      refine HMY.out.mono ?_
      rintro e w' ⟨rfl, rfl⟩
      clear HMY
      go_wp2_with fail
      refine HGV.out.mono ?_
      rintro e w2 ⟨rfl, hb2⟩
      have hs2 := hb2.size
      have hbw2 := HBW1.out.trans (hb2.mono HBW1.out.size)
      have k2 := (hb2.block w.heap.size (by omega)).trans HK1.out
      have r2 : w2.cell? ⟨w.heap.size, 0, none⟩ = some (.slice pa pl pcap) := by simp [World.cell?, k2]
      have HC2 := hid (HCD.out w2 hbw2)
      have HBW2 := hid hbw2
      have HK2 := hid k2
      clear hb2 hbw2 k2 r1 HGV HCD
      go_wp2_with fail
      refine HC2.out.mono ?_
      rintro e w3 ⟨hb3, v3, rfl⟩
      have hs3 := hb3.size
      have hbw3 := HBW2.out.trans (hb3.mono HBW2.out.size)
      have k3 := (hb3.block w.heap.size (by omega)).trans HK2.out
      have r3 : w3.cell? ⟨w.heap.size, 0, none⟩ = some (.slice pa pl pcap) := by simp [World.cell?, k3]
      have HBW3 := hid hbw3
      have HK3 := hid k3
      clear hb3 k3 r2 HC2
      cases fits with
      | false =>
        have he : E = 11 := by rw [HE1.out]; rfl
        have hs : S = strOfNums [] := by rw [HS1.out, if_neg (by rw [he]; decide)]
        subst he
        subst hs
        clear HE1 HS1 hbw3
        go_wp2
        exact bodyPost_ret (v := .tuple #[.string ⟨#[]⟩, .int .i64 11]) (by simp [results, Tryz.results66, go_sem]) rfl ⟨rfl, HBW3.out⟩
      | true =>
        have he : E = 0 := by rw [HE1.out]; rfl
        have hs : S = strOfNums (printD fr) := by rw [HS1.out, if_pos he]
        subst he
        subst hs
        have HA3 := hid (HAF.out w3 hbw3)
        clear HE1 HS1 hbw3 HAF
        go_wp2_with fail
        refine HA3.out.mono ?_
        rintro e w4 ⟨cs, rfl, hst, hb4⟩
        have hs4 := hb4.size
        have hbw4 := HBW3.out.trans (hb4.mono HBW3.out.size)
        have HST := hid hst
        obtain ⟨ra, rcap, rfl, -, -⟩ := hst
        have k4 := (hb4.block w.heap.size (by omega)).trans HK3.out
        have r4 : w4.cell? ⟨w.heap.size, 0, none⟩ = some (.slice pa pl pcap) := by simp [World.cell?, k4]
        have lt4 : w.heap.size < w4.heap.size := by omega
        obtain ⟨w5, hw5⟩ : ∃ v, v = w4.alloc (Obj.cells #[.int .i64 sN.status, .int .i64 sN.value, .slice ra sN.live.length rcap] 95) := ⟨_, rfl⟩
        have hb5 : Below w4.heap.size w4 w5 := by rw [hw5]; exact (Below.refl _ _).alloc (Nat.le_refl _) _
        have hbw5 := hbw4.trans (hb5.mono hbw4.size)
        have HT5 := hid (HTO.out w5 _ hbw5 (HST.out.below hb5))
        have HBW5 := hid hbw5
        clear r3 k4 hb4 hbw4 hb5 hbw5 HTO HST HA3
        go_wp2_with fail
        rw [← hw5]
        clear hw5
        refine HT5.out.mono ?_
        rintro e w6 ⟨v6, rfl, hown6, hb6⟩
        obtain ⟨fa, fcap, rfl, hrd⟩ := rdFrame_of_owns hown6 rfl
        have HPR := hid (rPrint_any fa fcap fr w6 hrd HOK.out HFL.out)
        have HBW6 := hid (HBW5.out.trans (hb6.mono HBW5.out.size))
        have hfc1 := hrd.2.1
        have hfc2 := hrd.2.2.1
        unfold maxLen at hfc2
        obtain ⟨str, hstr⟩ : ∃ v, v = strOfNums (printD fr) := ⟨_, rfl⟩
        rw [← hstr] at HPR
        have HSTR := hid hstr
        generalize fr.length = fl at *
        clear hown6 hrd hb6 r4 HT5 hstr
        go_wp2_with fail
        refine HPR.out.mono ?_
        rintro e w7 ⟨rfl, hb7⟩
        have HF := hid (HBW6.out.trans (hb7.mono HBW6.out.size))
        clear hb7 HPR
        go_wp2
        exact bodyPost_ret (v := .tuple #[.string str, .int .i64 0]) (by simp [results, Tryz.results66, go_sem]) rfl ⟨by rw [HSTR.out], HF.out⟩
    · have hE1 : E = 1 := by
        rw [HE.out, hR, hLy]
        by_cases h1 : givenB p args = true ∧ 0 ≤ n ∧ n ≤ 2000
        · rw [if_pos h1, if_neg (by simp), if_neg (fun h2 => hok ⟨h1.1, h1.2, h2⟩)]
        · rw [if_neg h1, if_pos (by decide)]
      have hS1 : S = strOfNums [] := by rw [HS.out, if_neg (by rw [hE1]; decide)]
      subst hE1
      subst hS1
      obtain ⟨my, hmy⟩ : ∃ v, v = decide (0 ≤ bud ∧ bud ≤ 30) := ⟨_, rfl⟩
      obtain ⟨gv, hgv⟩ : ∃ v, v = givenB p args := ⟨_, rfl⟩
      rw [← hmy] at HMY
      rw [← hgv] at HGV
      have HNO : Hid (my = true → gv = true → 0 ≤ n → n ≤ 2000 → False) := hid (fun a b c d => hok ⟨by rw [← hgv]; exact b, ⟨c, d⟩, by rw [a] at hmy; exact of_decide_eq_true hmy.symm⟩)
      clear hok hmy hgv hR hLy HE HS hg hck
      go_wp2_with fail
      refine HMY.out.mono ?_
      rintro e w' ⟨rfl, rfl⟩
      clear HMY
      go_wp2_with fail
      refine HGV.out.mono ?_
      rintro e w2 ⟨rfl, hb2⟩
      have HF := hid (HBW1.out.trans (hb2.mono HBW1.out.size))
      clear hb2 r1 HGV
      cases my with
      | false =>
        go_wp2
        exact bodyPost_ret (v := .tuple #[.string ⟨#[]⟩, .int .i64 1]) (by simp [results, Tryz.results66, go_sem]) rfl ⟨rfl, HF.out⟩
      | true =>
        cases gv with
        | false =>
          go_wp2
          exact bodyPost_ret (v := .tuple #[.string ⟨#[]⟩, .int .i64 1]) (by simp [results, Tryz.results66, go_sem]) rfl ⟨rfl, HF.out⟩
        | true =>
          by_cases h0 : n < 0
          · go_wp2
            exact bodyPost_ret (v := .tuple #[.string ⟨#[]⟩, .int .i64 1]) (by simp [results, Tryz.results66, go_sem]) rfl ⟨rfl, HF.out⟩
          · have h0' : decide (n < 0) = false := by simpa using h0
            have h2 : 2000 < n := by
              refine Decidable.byContradiction fun h2 => HNO.out rfl rfl (by omega) (by omega)
            go_wp2
            exact bodyPost_ret (v := .tuple #[.string ⟨#[]⟩, .int .i64 1]) (by simp [results, Tryz.results66, go_sem]) rfl ⟨rfl, HF.out⟩
  · have hR : runE p args n = (chk p).1 := by unfold runE; rw [if_pos hc]
    have hE1 : E = (chk p).1 := by rw [HE.out, hR, if_pos hc]
    have hS1 : S = strOfNums [] := by rw [HS.out, if_neg (by rw [hE1]; exact hc)]
    obtain ⟨ce, hce⟩ : ∃ v, v = (chk p).1 := ⟨_, rfl⟩
    rw [← hce] at hc hE1 ⊢
    have hc' : (ce != 0) = true := by simpa using hc
    subst hE1
    subst hS1
    clear hc hce hR HE HS
    go_wp2
    exact bodyPost_ret (v := .tuple #[.string ⟨#[]⟩, .int .i64 E]) (by simp [results, Tryz.results66, go_sem]) rfl ⟨rfl, HBW1.out⟩
end Go.Proofs.YtffnfjkjlmlonaaGreatDoor
namespace Go.Proofs.YtffnfjkjlmlonaaGreatDoor
open Go.RowKit

def mkB : ByteArray := ⟨#[109, 97, 114, 107]⟩
def markD (i : Nat) : FrameD := ⟨mkB, mkB, (i : Int)⟩
def fsW (v : Value) : Array Value := #[.slice none 0 0, .slice none 0 0, .slice none 0 0, .slice none 0 0, .slice none 0 0, v, .slice none 0 0, .slice none 0 0, .slice none 0 0]
/-- n lists of frames have come out; each is full of its number; they lie apart from the statement's own cells. -/
def FsV (g : Nat) (v : Value) (w : World) (n : Nat) : Prop :=
  ∃ rows, w.heap[g]? = some (.cells (fsW v) 34 (0, 0)) ∧ w.ownsRow (g + 1) 38 1 v n rows ∧
    ∀ (i : Nat) (u : Value), rows[i]? = some u → ∃ a len, u = .slice a len len ∧ RdL 3 RdFrame w a len len (List.replicate len (markD i)) ∧ InU (fun b => b ≠ g ∧ v.ownBlock ≠ some b) a len

def FsInv (g : Nat) (w : World) (n : Nat) : Prop := ∃ v, FsV g v w n

theorem FsV.below {g : Nat} {v : Value} {w w' : World} {n : Nat} (h : FsV g v w n) (hb : Below w.heap.size w w') : FsV g v w' n := by
  obtain ⟨rows, h1, h2, h3⟩ := h
  refine ⟨rows, (hb.block g (Array.getElem?_eq_some_iff.1 h1).1).trans h1, ownsRow_below h2 hb, fun i u hu => ?_⟩
  obtain ⟨a, len, e, hr, hU⟩ := h3 i u hu
  exact ⟨a, len, e, hr.below hb (fun _ _ h => h), hU⟩
theorem FsInv.below {g : Nat} {w w' : World} {n : Nat} (h : FsInv g w n) (hb : Below w.heap.size w w') : FsInv g w' n := by
  obtain ⟨v, h⟩ := h
  exact ⟨v, h.below hb⟩
theorem FsInv.lt {g : Nat} {w : World} {n : Nat} (h : FsInv g w n) : g < w.heap.size := by
  obtain ⟨v, rows, h1, _⟩ := h
  exact (Array.getElem?_eq_some_iff.1 h1).1
theorem Bare.fs {g : Nat} {w : World} (h : Bare w g) : FsInv g w 0 :=
  ⟨.slice none 0 0, [], h, World.ownsRow_nil _ _ _ _, fun i u hu => by simp at hu⟩
theorem fsCell {w : World} {g : Nat} {v : Value} (h : w.heap[g]? = some (.cells (fsW v) 34 (0, 0))) : w.cell? ⟨g, 5, none⟩ = some v ∧ w.cell? ⟨g, 1, none⟩ = some (.slice none 0 0) ∧ w.cell? ⟨g, 3, none⟩ = some (.slice none 0 0) ∧ w.cell? ⟨g, 6, none⟩ = some (.slice none 0 0) ∧ w.cell? ⟨g, 7, none⟩ = some (.slice none 0 0) ∧ w.cell? ⟨g, 8, none⟩ = some (.slice none 0 0) := by
  simp [World.cell?, h, fsW]
theorem ownsRow_form {w : World} {base : Nat} {e : TypeId} {size : Nat} {v : Value} {n : Nat} {xs : List Value} (h : w.ownsRow base e size v n xs) : ∃ a cap, v = .slice a n cap ∧ n ≤ cap ∧ cap ≤ maxLen ∧ (0 < n → ∃ gv, a = some ⟨gv, 0, none⟩) := by
  rcases h.2 with ⟨rfl, rfl⟩ | ⟨g, cap, cur, rfl, _, _, h1, h2, _⟩
  · exact ⟨none, 0, rfl, Nat.le_refl _, by unfold maxLen; omega, fun h => by omega⟩
  · exact ⟨_, cap, rfl, h1, h2, fun _ => ⟨g, rfl⟩⟩

set_option maxHeartbeats 4000000 in
set_option maxRecDepth 100000 in
theorem marked_fs (g : Nat) (w : World) (n : Nat) (h : FsInv g w n) :
    Calls Tryz.prog 21 #[.pointer (some ⟨g, 0, none⟩)] w fun e w' => e = .returned (.bool true) ∧ Below w.heap.size w w' := by
  have hg := h.lt
  obtain ⟨v, rows, h1, h2, h3⟩ := h
  have hrl : rows.length = n := by have := h2.1; omega
  obtain ⟨va, vcap, rfl, hvc, hvm, hva⟩ := ownsRow_form h2
  obtain ⟨c5, -, -, c6, c7, c8⟩ := fsCell h1
  unfold maxLen at hvm
  have HC := hid (fun gv hg => h2.cells (g := gv) hg)
  have H3 := hid h3
  have HRL := hid hrl
  clear h1 h2 h3 hrl
  go_enter Tryz.func21, Tryz.ntmps21
  go_wp2
  go_loopw [3, 4] (fun ok i wr => ∃ j : Nat, ok = .bool true ∧ i = .int .i64 j ∧ j ≤ n ∧ Below w.heap.size w wr) (fun _ i _ => n - (intOf i).toNat)
  case atStart => exact ⟨0, rfl, rfl, by omega, Below.refl _ _⟩
  case round =>
    obtain ⟨j, rfl, rfl, hj, hbel⟩ := hrel
    have up : ∀ (q : Addr) (u : Value), w.cell? q = some u → ∀ wr, Below w.heap.size w wr → wr.cell? q = some u := fun q u h wr hb => (hb.cell (World.block_lt_of_cell? w _ h)).trans h
    have d5 := up _ _ c5 wr hbel
    by_cases hjn : j < n
    · obtain ⟨gv, rfl⟩ := hva (by omega)
      obtain ⟨u, hu⟩ : ∃ u, rows[j]? = some u := ⟨_, List.getElem?_eq_getElem (by rw [HRL.out]; exact hjn)⟩
      obtain ⟨a, len, rfl, hr, -⟩ := H3.out j u hu
      have cu := HC.out gv rfl j _ hu
      rw [add0'] at cu
      rw [Nat.zero_add] at cu
      have hjn' : (j : Int) < (n : Int) := by omega
      have hlc := hr.2.2.1
      unfold maxLen at hlc
      have HR := hid hr
      have HUP := hid up
      have C5 := hid c5
      have CU := hid cu
      clear hr up hu
      go_wp2
      go_loopw [3, 5] (fun ok i wr => ∃ k : Nat, ok = .bool true ∧ i = .int .i64 k ∧ k ≤ len ∧ Below w.heap.size w wr) (fun _ i _ => len - (intOf i).toNat)
      case atStart => exact ⟨0, rfl, rfl, by omega, hbel⟩
      case round =>
        clear hbel d5
        obtain ⟨k, rfl, rfl, hk, hbel⟩ := hrel
        have d5 := HUP.out _ _ C5.out wr hbel
        have du := HUP.out _ _ CU.out wr hbel
        by_cases hkl : k < len
        · obtain ⟨b, off, rfl, e0, e1, e2⟩ := (HR.out.below hbel (fun _ _ h => h)).frameAt k (markD j) (by rw [List.getElem?_replicate, if_pos hkl])
          simp only [markD] at e0 e1 e2
          have hkl' : (k : Int) < (len : Int) := by omega
          unfold mkB at e0 e1
          go_wp2
          go_roundw
          case rel => exact ⟨k + 1, by rfl, by go_num, by omega, hbel⟩
          case measure => simp [intOf]; omega
        · have hkl' : decide ((k : Int) < (len : Int)) = false := by simp; omega
          go_wp2
          go_roundw
          case rel => exact ⟨j + 1, by rfl, by go_num, by omega, hbel⟩
          case measure => simp [intOf]; omega
    · have hjn' : decide ((j : Int) < (n : Int)) = false := by simp; omega
      have d6 := up _ _ c6 wr hbel
      have d7 := up _ _ c7 wr hbel
      have d8 := up _ _ c8 wr hbel
      go_wp2
      refine wp_loop_rounds 1 ?_
      rw [rounds_succ]
      go_wp2
      refine wp_loop_rounds 1 ?_
      rw [rounds_succ]
      go_wp2
      refine wp_loop_rounds 1 ?_
      rw [rounds_succ]
      go_wp2
      go_ret
      exact ⟨rfl, hbel⟩

set_option maxHeartbeats 1000000 in
set_option maxRecDepth 100000 in
theorem looks_fs (g : Nat) (w : World) (n : Nat) (h : FsInv g w n) :
    Calls Tryz.prog 10 #[.pointer (some ⟨g, 0, none⟩)] w fun e w' => e = .returned (.bool true) ∧ Below w.heap.size w w' := by
  have HM := hid (marked_fs g w n h)
  obtain ⟨v, rows, h1, -, -⟩ := h
  obtain ⟨-, c1, c3, -, -, -⟩ := fsCell h1
  clear h1
  go_enter Tryz.func10, Tryz.ntmps10
  go_wp2
  refine wp_loop_rounds 1 ?_
  rw [rounds_succ]
  go_wp2
  refine wp_loop_rounds 1 ?_
  rw [rounds_succ]
  go_wp2_with fail
  refine HM.out.mono ?_
  rintro e w2 ⟨rfl, hb⟩
  go_wp2
  go_ret
  exact ⟨rfl, hb⟩
end Go.Proofs.YtffnfjkjlmlonaaGreatDoor
