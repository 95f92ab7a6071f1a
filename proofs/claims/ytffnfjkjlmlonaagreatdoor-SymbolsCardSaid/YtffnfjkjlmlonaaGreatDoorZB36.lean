/- The contract of strconv.Itoa, laid at this program. Contracts of the developers' frame.mayBe and frame.Print, where the frames are those of a well-formed program: true, and the text. Contracts of the reference's decimal and Print, where the frames are those of a well-formed program. -/
import Derived.Shelf.LaysM
import Derived.Shelf.Strconv.Itoa3
import Derived.Test.YtffnfjkjlmlonaaGreatDoorProg
import Derived.Test.YtffnfjkjlmlonaaGreatDoorZB3
import Derived.Test.YtffnfjkjlmlonaaGreatDoorZB14
import Derived.Test.YtffnfjkjlmlonaaGreatDoorZB12
import Derived.Test.YtffnfjkjlmlonaaGreatDoorZB16
import Derived.Lib.ItoaLen
import Derived.Lib.AppendIntMem
import Derived.Test.YtffnfjkjlmlonaaGreatDoorZB2
namespace Go.Proofs
open Go.Shelf
def Tryz.laysM171_ren : Go.Shelf.Ren := ⟨fun | 171 => 163 | 243 => 209 | 246 => 227 | 283 => 229 | 284 => 230 | 285 => 231 | 286 => 232 | 129 => 234 | 317 => 233 | 318 => 235 | 319 => 236 | 320 => 237 | 337 => 238 | 338 => 239 | n => n, fun | 3 => 3 | 9 => 9 | 2 => 2 | 4 => 4 | 171 => 283 | 0 => 0 | 53 => 284 | 37 => 36 | 5 => 5 | 173 => 287 | 212 => 290 | 51 => 291 | 20 => 20 | 213 => 292 | 46 => 293 | 232 => 296 | 233 => 297 | n => n, fun | 17 => 1 | 18 => 2 | 19 => 3 | n => n⟩
theorem Tryz.laysM171 : Go.Proofs.LaysM.n171 Tryz.prog Tryz.laysM171_ren := {
  mixed := by kernel_rfl
  f129 := Tryz.func234.trans (congrArg some (by kernel_rfl))
  f171 := Tryz.func163.trans (congrArg some (by kernel_rfl))
  f243 := Tryz.func209.trans (congrArg some (by kernel_rfl))
  f246 := Tryz.func227.trans (congrArg some (by kernel_rfl))
  f283 := Tryz.func229.trans (congrArg some (by kernel_rfl))
  f284 := Tryz.func230.trans (congrArg some (by kernel_rfl))
  f285 := Tryz.func231.trans (congrArg some (by kernel_rfl))
  f286 := Tryz.func232.trans (congrArg some (by kernel_rfl))
  f317 := Tryz.func233.trans (congrArg some (by kernel_rfl))
  f318 := Tryz.func235.trans (congrArg some (by kernel_rfl))
  f319 := Tryz.func236.trans (congrArg some (by kernel_rfl))
  f320 := Tryz.func237.trans (congrArg some (by kernel_rfl))
  f337 := Tryz.func238.trans (congrArg some (by kernel_rfl))
  f338 := Tryz.func239.trans (congrArg some (by kernel_rfl))
  t0 := Tryz.underlying0
  a0 := Tryz.isAgg0
  z0 := Tryz.sizeOf0
  v0 := Tryz.zeroValue0
  t2 := Tryz.underlying2
  a2 := Tryz.isAgg2
  z2 := Tryz.sizeOf2
  v2 := Tryz.zeroValue2
  t3 := Tryz.underlying3
  a3 := Tryz.isAgg3
  z3 := Tryz.sizeOf3
  v3 := Tryz.zeroValue3
  t4 := Tryz.underlying4
  a4 := Tryz.isAgg4
  z4 := Tryz.sizeOf4
  v4 := Tryz.zeroValue4
  t5 := Tryz.underlying5
  a5 := Tryz.isAgg5
  z5 := Tryz.sizeOf5
  v5 := Tryz.zeroValue5
  t9 := Tryz.underlying9
  a9 := Tryz.isAgg9
  z9 := Tryz.sizeOf9
  v9 := Tryz.zeroValue9
  t20 := Tryz.underlying20
  a20 := Tryz.isAgg20
  z20 := Tryz.sizeOf20
  v20 := Tryz.zeroValue20
  t37 := Tryz.underlying36
  a37 := Tryz.isAgg36
  z37 := Tryz.sizeOf36
  v37 := Tryz.zeroValue36
  t46 := Tryz.underlying293
  a46 := Tryz.isAgg293
  z46 := Tryz.sizeOf293
  v46 := Tryz.zeroValue293
  t51 := Tryz.underlying291
  a51 := Tryz.isAgg291
  z51 := Tryz.sizeOf291
  v51 := Tryz.zeroValue291
  t53 := Tryz.underlying284
  a53 := Tryz.isAgg284
  z53 := Tryz.sizeOf284
  v53 := Tryz.zeroValue284
  t171 := Tryz.underlying283
  a171 := Tryz.isAgg283
  z171 := Tryz.sizeOf283
  v171 := Tryz.zeroValue283
  t173 := Tryz.underlying287
  a173 := Tryz.isAgg287
  z173 := Tryz.sizeOf287
  v173 := Tryz.zeroValue287
  t212 := Tryz.underlying290
  a212 := Tryz.isAgg290
  z212 := Tryz.sizeOf290
  v212 := Tryz.zeroValue290
  t213 := Tryz.underlying292
  a213 := Tryz.isAgg292
  z213 := Tryz.sizeOf292
  t232 := Tryz.underlying296
  a232 := Tryz.isAgg296
  z232 := Tryz.sizeOf296
  v232 := Tryz.zeroValue296
  t233 := Tryz.underlying297
  a233 := Tryz.isAgg297
  z233 := Tryz.sizeOf297
  v233 := Tryz.zeroValue297
  g17 := by kernel_rfl
  g18 := by kernel_rfl
  g19 := by kernel_rfl
  i0 := by kernel_rfl
  i2 := by kernel_rfl
  i3 := by kernel_rfl
  i4 := by kernel_rfl
  i5 := by kernel_rfl
  i9 := by kernel_rfl
  i20 := by kernel_rfl
  i37 := by kernel_rfl
  i46 := by kernel_rfl
  i51 := by kernel_rfl
  i53 := by kernel_rfl
  i171 := by kernel_rfl
  i173 := by kernel_rfl
  i212 := by kernel_rfl
  i232 := by kernel_rfl
  i233 := by kernel_rfl
  m17 := by kernel_rfl
  m18 := by kernel_rfl
  m19 := by kernel_rfl }
open Go.RowKit Go.Sort Go.Lib in
theorem Tryz.strconv_Itoa (n : Int) (h0 : -9223372036854775808 ≤ n) (h1 : n ≤ 9223372036854775807) (w : World) (htab : Lib.TabIs Tryz.prog w "internal/strconv.uint64pow10" .u64 Lib.pow10Tab) :
    Calls Tryz.prog 163 #[.int .i64 n] w fun e w' => e = .returned (.string ⟨(Lib.itoa n).toArray⟩) ∧ ∃ k os, w' = grow (w.drewN k) os := Any.strconv_Itoa Tryz.laysM171 n h0 h1 w htab
end Go.Proofs
namespace Go.Proofs.YtffnfjkjlmlonaaGreatDoor
open Go.RowKit
/-- A frame that may be told. -/
def FrOk (f : FrameD) : Prop := (wordB f.func = true ∧ f.func.size ≤ 20) ∧ (wordB f.file = true ∧ f.file.size ≤ 20) ∧ 1 ≤ f.line ∧ f.line ≤ 9999
/-- The line of a frame, and all lines. -/
def lineD (f : FrameD) : List Int := byteL f.func ++ ([32] ++ (byteL f.file ++ ([58] ++ (byteL ⟨(Lib.itoa f.line).toArray⟩ ++ [10]))))
def printD (l : List FrameD) : List Int := l.flatMap lineD
/-- The table that numbers are written by, as it is laid. -/
def Tab (w : World) : Prop := Lib.TabIs Tryz.prog w "internal/strconv.uint64pow10" .u64 Lib.pow10Tab
theorem Tab.below {w w' : World} (h : Tab w) (hb : Below w.heap.size w w') : Tab w' := Lib.tabBelow_of_tabIs h w' hb
theorem lineD_len {f : FrameD} (h : FrOk f) : (lineD f).length ≤ 64 := by
  obtain ⟨⟨-, h1⟩, ⟨-, h2⟩, h3, h4⟩ := h
  have hil := Lib.itoa_length_le f.line (by omega) (by omega)
  have hs : (⟨(Lib.itoa f.line).toArray⟩ : ByteArray).size ≤ 21 := by
    show (Lib.itoa f.line).toArray.size ≤ 21
    rw [List.size_toArray]; exact hil
  unfold lineD
  simp only [List.length_append, byteL_len, List.length_cons, List.length_nil]
  omega
theorem printD_len : ∀ l : List FrameD, (∀ f ∈ l, FrOk f) → (printD l).length ≤ 64 * l.length
  | [], _ => Nat.zero_le _
  | f :: r, h => by
    have ih := printD_len r (fun x hx => h x (List.mem_cons_of_mem _ hx))
    have h0 := lineD_len (h f (List.mem_cons_self ..))
    have e : printD (f :: r) = lineD f ++ printD r := rfl
    rw [e, List.length_append, List.length_cons]
    omega
end Go.Proofs.YtffnfjkjlmlonaaGreatDoor
namespace Go.Proofs.YtffnfjkjlmlonaaGreatDoor
open Go.RowKit
theorem strOf_app (a b : List Int) : strOfNums (a ++ b) = strOfNums a ++ strOfNums b := by
  unfold strOfNums
  apply ByteArray.ext
  simp
theorem str_byteL2 (x : ByteArray) : strOfNums (byteL x) = x := by
  unfold strOfNums byteL
  rw [List.map_map]
  have e : (x.data.toList.map ((fun n : Int => UInt8.ofNat n.toNat) ∘ fun c : UInt8 => (c.toNat : Int))) = x.data.toList := by
    conv => rhs; rw [← List.map_id x.data.toList]
    exact List.map_congr_left fun c _ => by simp
  rw [e]
theorem strOf_size (l : List Int) : (strOfNums l).size = l.length := by
  unfold strOfNums
  simp [ByteArray.size]
theorem dec_small {u : Nat} (h : u < 10) : (⟨(Lib.decDigits u).toArray⟩ : ByteArray) = strOfNums [48 + (u : Int)] := by
  rw [Lib.decDigits, dif_pos h]
  unfold strOfNums
  simp only [List.map_cons, List.map_nil]
  rw [show (48 + (u : Int)).toNat = 48 + u by omega]
theorem dec_big {u : Nat} (h : ¬ u < 10) : (⟨(Lib.decDigits u).toArray⟩ : ByteArray) = ⟨(Lib.decDigits (u / 10)).toArray⟩ ++ strOfNums [48 + ((u % 10 : Nat) : Int)] := by
  rw [Lib.decDigits, dif_neg h]
  unfold strOfNums
  apply ByteArray.ext
  simp only [List.map_cons, List.map_nil]
  rw [show (48 + ((u % 10 : Nat) : Int)).toNat = 48 + u % 10 by omega]
  simp
set_option maxHeartbeats 4000000 in
set_option maxRecDepth 100000 in
theorem rDec_step (x : Int) (w : World) (h0 : 0 ≤ x) (hx : x ≤ 9999) (IH : ∀ W : World, 10 ≤ x → Calls Tryz.prog 108 #[.int .i64 (x / 10)] W fun e w' => e = .returned (.string ⟨(Lib.decDigits (x.toNat / 10)).toArray⟩) ∧ Below W.heap.size W w') :
    Calls Tryz.prog 108 #[.int .i64 x] w fun e w' => e = .returned (.string ⟨(Lib.decDigits x.toNat).toArray⟩) ∧ Below w.heap.size w w' := by
  obtain ⟨wA, hwA⟩ : ∃ v, v = w.alloc (Obj.cells #[.int .u8 (48 + x % 10)] 5) := ⟨_, rfl⟩
  have hbA : Below w.heap.size w wA := by rw [hwA]; exact (Below.refl _ _).alloc (Nat.le_refl _) _
  have kA : wA.heap[w.heap.size]? = some (.cells #[.int .u8 (48 + x % 10)] 5 (0, 0)) := by rw [hwA]; exact heap_new_at rfl
  have v1 := run_convert_bytes_arg (P := Tryz.prog) wA 36 5 Tryz.underlying36 Tryz.underlying5 w.heap.size 0 1 1 [48 + x % 10] rfl (fun j hj => by
    have : j = 0 := by omega
    subst this
    simp [World.cell?, kA]) 9 Tryz.underlying9
  by_cases h10 : x < 10
  · have HE : Hid ((⟨(Lib.decDigits x.toNat).toArray⟩ : ByteArray) = strOfNums [48 + x % 10]) := hid (by rw [dec_small (by omega), show ((x.toNat : Nat) : Int) = x % 10 by omega])
    generalize strOfNums [48 + x % 10] = s at *
    rw [hwA] at v1 hbA
    clear kA hwA wA IH
    go_enter Tryz.func108, Tryz.ntmps108
    go_wp2
    go_ret
    exact ⟨by rw [HE.out]; rfl, hbA⟩
  · have HE : Hid ((⟨(Lib.decDigits x.toNat).toArray⟩ : ByteArray) = ⟨(Lib.decDigits (x.toNat / 10)).toArray⟩ ++ strOfNums [48 + x % 10]) := hid (by rw [dec_big (by omega), show ((x.toNat % 10 : Nat) : Int) = x % 10 by omega])
    have HI := hid (IH wA (by omega))
    have hsum : ¬ 9223372036854775807 < (⟨(Lib.decDigits (x.toNat / 10)).toArray⟩ : ByteArray).size + (strOfNums [48 + x % 10]).size := by
      have h1 := Lib.itoa_length_le ((x.toNat / 10 : Nat) : Int) (by omega) (by omega)
      rw [Lib.itoa_nonneg] at h1
      have h2 : (⟨(Lib.decDigits (x.toNat / 10)).toArray⟩ : ByteArray).size ≤ 21 := by
        show (Lib.decDigits (x.toNat / 10)).toArray.size ≤ 21
        rw [List.size_toArray]; exact h1
      have h3 : (strOfNums [48 + x % 10]).size = 1 := rfl
      omega
    generalize strOfNums [48 + x % 10] = s at *
    generalize (⟨(Lib.decDigits (x.toNat / 10)).toArray⟩ : ByteArray) = s2 at *
    rw [hwA] at v1 hbA HI
    clear kA hwA wA IH
    go_enter Tryz.func108, Tryz.ntmps108
    go_wp2_with (go_at_call 108; refine HI.out.mono ?_; rintro e w1 ⟨rfl, hb1⟩)
    go_ret
    exact ⟨by rw [HE.out]; rfl, hbA.trans (hb1.mono hbA.size)⟩
theorem rDec_any : ∀ (f : Nat) (x : Int) (w : World), 0 ≤ x → x ≤ 9999 → x < (10 : Int) ^ (f + 1) → Calls Tryz.prog 108 #[.int .i64 x] w fun e w' => e = .returned (.string ⟨(Lib.decDigits x.toNat).toArray⟩) ∧ Below w.heap.size w w'
  | 0, x, w, h0, hx, hf => rDec_step x w h0 hx (fun W h => by simp at hf; omega)
  | f + 1, x, w, h0, hx, hf => rDec_step x w h0 hx (fun W h => by
      have e : (x / 10).toNat = x.toNat / 10 := by omega
      have := rDec_any f (x / 10) W (by omega) (by omega) (by rw [Int.pow_succ] at hf; omega)
      rw [e] at this
      exact this)
end Go.Proofs.YtffnfjkjlmlonaaGreatDoor
