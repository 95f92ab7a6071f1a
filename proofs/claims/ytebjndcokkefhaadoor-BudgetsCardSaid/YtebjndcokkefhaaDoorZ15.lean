/- Contracts of the developers' image.textBytes, tablesMayBe, treeMayBe and WellFormed, where an image is well-formed: they give the plain bytes, and true; nothing that was there is written. Contract of unfoldref.Begun. A run of a program as plain data: one step, what holds behind each step, and that a step keeps it; nothing is claimed of the program here. -/
import Derived.Test.YtebjndcokkefhaaDoorI11
import Derived.Lib.AppendStr
import Derived.Deep.RegionHeld
import Derived.Test.YtebjndcokkefhaaDoorZ4
namespace Go.Proofs.YtebjndcokkefhaaDoor
open Go.RowKit

theorem strCells_u8s (s : ByteArray) : Lib.strCells s = u8s (byteL s) := by
  unfold u8s byteL
  rw [List.map_map]
  rfl

set_option maxHeartbeats 1000000 in
set_option maxRecDepth 100000 in
theorem textBytes_any (s : ByteArray) (w : World) (hs : s.size ≤ 20) :
    Calls Tryd.prog 78 #[.string s] w fun e w' => ∃ v, e = .returned v ∧ w'.ownsRow w.heap.size 5 1 v (textB s).length (u8s (textB s)) ∧ Below w.heap.size w w' := by
  obtain ⟨i0, hi, hz0, hz1, hz2⟩ := info_parts Tryd.infoByte
  have hl := numB_len (s.size : Int)
  have HB := hid (bytes_any (s.size : Int) w (by omega) (by omega))
  have hbl := byteL_len s
  have HT : Hid ((textB s).length = (numB (s.size : Int)).length + s.size ∧ u8s (textB s) = u8s (numB (s.size : Int)) ++ Lib.strCells s) := ⟨by unfold textB; rw [List.length_append, hbl], by unfold textB; rw [u8s_append, strCells_u8s]⟩
  clear hbl
  go_enter Tryd.func78, Tryd.ntmps78
  go_wp2_with fail
  refine HB.out.mono ?_
  rintro e w1 ⟨v, rfl, hown, hb⟩
  have hsz := hb.size
  generalize (numB (s.size : Int)).length = m at *
  obtain ⟨va, vcap, rfl, -, -⟩ := owns_form hown
  go_wp2_with (at_builtin; refine Lib.wpList_append_own_string _ rfl (.tmp 7) (.tmp 8) 26 9 rfl w.heap.size 5 i0 Tryd.underlying26 Tryd.underlying9 hi hz0 hz1 hz2 _ _ _ rfl hown s rfl (by unfold maxLen; omega) (by omega) hsz ?_)
  intro v' w2 hown2 hgrow _
  have hb2 : Below w.heap.size w w2 := hb.grown hgrow hsz (fun k hk => (hown.lt k hk).1)
  have HO := hid hown2
  clear hown2 hgrow hown
  go_wp2
  go_ret
  exact ⟨_, rfl, by rw [HT.out.1, HT.out.2]; exact HO.out, hb2⟩

set_option maxHeartbeats 1000000 in
set_option maxRecDepth 100000 in
theorem tablesMayBe_true (x : EntD) (la xa ta : Option Addr) (lcap xcap tcap : Nat) (room : Int) (w : World) (hl : RdS w la x.lines.length lcap x.lines) (hi : RdS w xa x.index.length xcap x.index) (h1 : wfT x.lines = true) (h2 : wfT x.index = true) (h3 : linesB x.lines room = true) (h4 : sumS x.index = sumS x.lines) :
    Calls Tryd.prog 76 #[.agg #[.string x.name, .string x.file, .slice la x.lines.length lcap, .slice xa x.index.length xcap, .slice ta x.tree.length tcap], .int .i64 room] w fun e w' => e = .returned (.bool true) ∧ Below w.heap.size w w' := by
  have hwl : wfS x.lines (-1) 1000 = true := by unfold wfT at h1; rw [Bool.and_eq_true] at h1; exact h1.1
  have hwi : wfS x.index (-1) 1000 = true := by unfold wfT at h2; rw [Bool.and_eq_true] at h2; exact h2.1
  have HW := hid (fun (W : World) (h : RdS W la x.lines.length lcap x.lines) => wellFormed_any la x.lines.length lcap x.lines W h)
  rw [h1] at HW
  have HX := hid (fun (W : World) (h : RdS W xa x.index.length xcap x.index) => wellFormed_any xa x.index.length xcap x.index W h)
  rw [h2] at HX
  have HLM := hid (fun (W : World) (h : RdS W la x.lines.length lcap x.lines) => linesMayBe_any la x.lines.length lcap x.lines room W h hwl)
  rw [h3] at HLM
  have HP := hid (fun (W : World) (h : RdS W la x.lines.length lcap x.lines) => pcs_any la x.lines.length lcap x.lines W h hwl)
  have HQ := hid (fun (W : World) (h : RdS W xa x.index.length xcap x.index) => pcs_any xa x.index.length xcap x.index W h hwi)
  rw [h4] at HQ
  obtain ⟨wA, hwA⟩ : ∃ wA, wA = w.alloc (Obj.cells #[.string x.name, .string x.file, .slice la x.lines.length lcap, .slice xa x.index.length xcap, .slice ta x.tree.length tcap] 64) := ⟨_, rfl⟩
  have hbA : Below w.heap.size w wA := by rw [hwA]; exact (Below.refl _ _).alloc (Nat.le_refl _) _
  have heA : wA.heap[w.heap.size]? = some (.cells #[.string x.name, .string x.file, .slice la x.lines.length lcap, .slice xa x.index.length xcap, .slice ta x.tree.length tcap] 64 (0, 0)) := by rw [hwA]; exact heap_alloc_new _ _
  have hltA : w.heap.size < wA.heap.size := (Array.getElem?_eq_some_iff.1 heA).1
  generalize sumS x.lines = q at *
  have HL := hid hl
  have HI := hid hi
  have HE := hid heA
  generalize hll : x.lines.length = ll at *
  generalize hil : x.index.length = il at *
  generalize x.tree.length = tl at *
  clear hl hi heA h1 h2 h3 h4 hwl hwi hll hil
  go_enter Tryd.func76, Tryd.ntmps76
  go_wp2_with fail
  rw [← hwA]
  refine (HW.out wA (HL.out.below hbA (Nat.le_refl _))).mono ?_
  rintro e w1 ⟨rfl, b1⟩
  have b01 : Below w.heap.size w w1 := hbA.trans (b1.mono hbA.size)
  have e1 := (b1.block w.heap.size hltA).trans HE.out
  have z1 : w1.cell? ⟨w.heap.size, 3, none⟩ = some (.slice xa il xcap) := by simp [World.cell?, e1]
  go_wp2_with fail
  refine (HX.out w1 (HI.out.below b01 (Nat.le_refl _))).mono ?_
  rintro e w2 ⟨rfl, b2⟩
  have b02 : Below w.heap.size w w2 := b01.trans (b2.mono b01.size)
  have hlt1 : w.heap.size < w1.heap.size := Nat.lt_of_lt_of_le hltA b1.size
  have e2 := (b2.block w.heap.size hlt1).trans e1
  have y2 : w2.cell? ⟨w.heap.size, 2, none⟩ = some (.slice la ll lcap) := by simp [World.cell?, e2]
  have y3 : w2.cell? ⟨w.heap.size, 3, none⟩ = some (.slice xa il xcap) := by simp [World.cell?, e2]
  have hlt2 : w.heap.size < w2.heap.size := Nat.lt_of_lt_of_le hlt1 b2.size
  have HL2 := hid (HL.out.below b02 (Nat.le_refl _))
  have HI2 := hid (HI.out.below b02 (Nat.le_refl _))
  have HE2 := hid e2
  have HB02 := hid b02
  have hsz2 := b02.size
  clear z1 e1 e2 b01 b02 b1 b2 hwA hbA hlt1 hltA HW HX HL HI HE
  have KS : Hid (∀ W : World, Below w2.heap.size w2 W → Below w2.heap.size w2 W ∧ W.cell? ⟨w.heap.size, 2, none⟩ = some (.slice la ll lcap) ∧ W.cell? ⟨w.heap.size, 3, none⟩ = some (.slice xa il xcap)) := fun W h => ⟨h, (h.cell (p := ⟨w.heap.size, 2, none⟩) hlt2).trans y2, (h.cell (p := ⟨w.heap.size, 3, none⟩) hlt2).trans y3⟩
  clear y2 y3
  go_wp2
  go_region_held (fun W => Below w2.heap.size w2 W ∧ W.cell? ⟨w.heap.size, 2, none⟩ = some (.slice la ll lcap) ∧ W.cell? ⟨w.heap.size, 3, none⟩ = some (.slice xa il xcap))
      ((refine KS.out _ ?_; first | exact (Below.refl _ _).drew | exact (‹Below w2.heap.size w2 _ ∧ _›.1).trans (hb4.mono (‹Below w2.heap.size w2 _ ∧ _›.1).size)))
      ((first | (go_at_call 71; refine (HLM.out _ (HL2.out.below ?_ (Nat.le_refl _))).mono ?_; exact (‹Below w2.heap.size w2 _ ∧ _›.1); rintro e w4 ⟨rfl, hb4⟩) | (go_at_call_of 72 (Value.slice la ll lcap); refine (HP.out _ (HL2.out.below ?_ (Nat.le_refl _))).mono ?_; exact (‹Below w2.heap.size w2 _ ∧ _›.1); rintro e w4 ⟨rfl, hb4⟩) | (go_at_call_of 72 (Value.slice xa il xcap); refine (HQ.out _ (HI2.out.below ?_ (Nat.le_refl _))).mono ?_; exact (‹Below w2.heap.size w2 _ ∧ _›.1); rintro e w4 ⟨rfl, hb4⟩)))
  all_goals
    have hfin := (‹Below w2.heap.size w2 _ ∧ _›.1)
    go_wp2
    go_ret
    exact ⟨rfl, HB02.out.trans (hfin.mono hsz2)⟩

theorem treeOk_at (funcs : Int) (inst : List Int) : ∀ (l : List (Int × Int)) (k : Nat) (i b : Int), treeOk funcs inst l i b = true → k < l.length → withB (l.getD k (0, 0)).1 funcs = true ∧ pcB (l.getD k (0, 0)).2 (if k = 0 then b else (l.getD (k - 1) (0, 0)).2) (i + k) inst = true
  | [], k, i, b, _, h => by simp at h
  | p :: r, k, i, b, ht, hk => by
    unfold treeOk at ht
    rw [Bool.and_eq_true, Bool.and_eq_true] at ht
    cases k with
    | zero => simpa using ht.1
    | succ k =>
      have := treeOk_at funcs inst r k (i + 1) p.2 ht.2 (by simpa using hk)
      have e1 : i + ((k + 1 : Nat) : Int) = i + 1 + (k : Int) := by omega
      rw [e1]
      simp only [List.getD_cons_succ, Nat.add_sub_cancel, if_neg (Nat.succ_ne_zero k)]
      refine ⟨this.1, ?_⟩
      cases k with
      | zero => simpa using this.2
      | succ k => simpa using this.2

theorem treeOk_nn (funcs : Int) (inst : List Int) : ∀ (l : List (Int × Int)) (i b : Int), -1 ≤ b → treeOk funcs inst l i b = true → ∀ j, j < l.length → 0 ≤ (l.getD j (0, 0)).2
  | [], _, _, _, _, j, h => by simp at h
  | p :: r, i, b, hb, ht, j, hj => by
    unfold treeOk at ht
    rw [Bool.and_eq_true, Bool.and_eq_true] at ht
    have h1 := ht.1.2
    unfold pcB at h1
    rw [Bool.and_eq_true] at h1
    have h2 := (of_decide_eq_true h1.1).1
    cases j with
    | zero => simp; omega
    | succ j => simpa using treeOk_nn funcs inst r (i + 1) p.2 (by omega) ht.2 j (by simpa using hj)

set_option maxHeartbeats 1000000 in
set_option maxRecDepth 100000 in
theorem treeMayBe_true (ta xa : Option Addr) (tlen tcap xlen xcap : Nat) (tree index : List (Int × Int)) (funcs : Int) (w : World) (ht : RdS w ta tlen tcap tree) (hi : RdS w xa xlen xcap index) (h1 : wfS index (-1) 1000 = true) (h2 : (tlen : Int) = mostT index) (h3 : treeOk funcs (unroll index) tree 1 (-1) = true) :
    Calls Tryd.prog 77 #[.slice ta tlen tcap, .slice xa xlen xcap, .int .i64 funcs] w fun e w' => e = .returned (.bool true) ∧ Below w.heap.size w w' := by
  have HTL := hid ht.hlen
  have hcap := ht.hcap
  have hmax := ht.hmax
  unfold maxLen at hmax
  have HN := hid (nodes_any xa xlen xcap index w hi)
  rw [← h2] at HN
  have HV := hid (fun (W : World) (h : RdS W xa xlen xcap index) => values_any xa xlen xcap index W h h1)
  have hml := mostT_le h1
  have HTO := hid (fun k hk => treeOk_at funcs (unroll index) tree k 1 (-1) h3 hk)
  have HNN := hid (treeOk_nn funcs (unroll index) tree 1 (-1) (by omega) h3)
  have HT := hid ht
  have HI := hid hi
  have h12 : tlen ≤ 9999 := by omega
  generalize unroll index = inst at *
  clear ht hi h1 h2 h3 hml
  have hnn : ((tlen : Int) != (tlen : Int)) = false := by simp
  go_enter Tryd.func77, Tryd.ntmps77
  go_wp2_with fail
  refine HN.out.mono ?_
  rintro e w1 ⟨rfl, b1⟩
  go_wp2_with fail
  refine (HV.out w1 (HI.out.below b1 (Nat.le_refl _))).mono ?_
  rintro e w2 ⟨v, rfl, hown, b2⟩
  have b02 : Below w.heap.size w w2 := b1.trans (b2.mono b1.size)
  obtain ⟨ia, icap, rfl, hrd, -⟩ := rd_of_owns64 hown rfl
  have HB02 := hid b02
  have HRD := hid hrd
  have HT2 := hid (HT.out.below b02 (Nat.le_refl _))
  have hs02 := b02.size
  clear hown hrd b02 b1 b2
  go_wp2
  go_loopw [8, 20] (fun bf i wr => ∃ k : Nat, i = .int .i64 k ∧ k ≤ tlen ∧ bf = .int .i64 (if k = 0 then -1 else (tree.getD (k - 1) (0, 0)).2) ∧ Below w2.heap.size w2 wr) (fun _ i _ => tlen - (intOf i).toNat)
  case atStart => exact ⟨0, rfl, by omega, rfl, Below.refl _ _⟩
  case round =>
    obtain ⟨k, rfl, hk, rfl, hbel⟩ := hrel
    have hsz := hbel.size
    by_cases hlt : k < tlen
    · obtain ⟨b0, off, rfl, hc⟩ := (HT2.out.below hbel (Nat.le_refl _)).open (by omega)
      obtain ⟨hc1, hc2⟩ := hc k hlt
      have hb0 := World.block_lt_of_cell? wr _ hc1
      have hto := HTO.out k (by rw [HTL.out]; exact hlt)
      have hbf : -1 ≤ (if k = 0 then -1 else (tree.getD (k - 1) (0, 0)).2) := by
        split
        · omega
        · have := HNN.out (k - 1) (by rw [HTL.out]; omega)
          omega
      have hnext : (if k + 1 = 0 then (-1 : Int) else (tree.getD (k + 1 - 1) (0, 0)).2) = (tree.getD k (0, 0)).2 := by simp
      have HNX := hid hnext
      obtain ⟨⟨fn, pc⟩, hp⟩ : ∃ p, tree.getD k (0, 0) = p := ⟨_, rfl⟩
      rw [hp] at hc1 hc2 hto HNX
      simp only at hc1 hc2 hb0 hto HNX
      generalize (if k = 0 then (-1 : Int) else (tree.getD (k - 1) (0, 0)).2) = bf at *
      have HF := hid (fun W => funcMayBe_any fn funcs W)
      rw [hto.1] at HF
      have e1 : (1 : Int) + (k : Int) = (k : Int) + 1 := by omega
      have hto2 := hto.2
      rw [e1] at hto2
      have HP := hid (fun (W : World) (h : Rd .i64 W ia inst.length icap inst) => pcMayBe_any pc bf ((k : Int) + 1) ia inst.length icap inst W h hbf)
      rw [hto2] at HP
      have HRR := hid (HRD.out.below (hbel.alloc hsz (Obj.cells #[.int .i64 fn, .int .i64 pc] 144)) (Nat.le_refl _))
      clear hto hto2 hc hp e1 hnext
      go_wp2_with (first | (go_at_call 97; refine (HF.out _).mono ?_; rintro e w' ⟨rfl, rfl⟩) | (go_at_call 98; refine (HP.out _ HRR.out).mono ?_; rintro e w' ⟨rfl, rfl⟩))
      go_roundw
      case rel => exact ⟨k + 1, by go_num, by omega, by rw [HNX.out], hbel.alloc hsz _⟩
      case measure => simp [intOf]; omega
    · have hlt' : decide ((k : Int) < (tlen : Int)) = false := by simp; omega
      generalize (if k = 0 then (-1 : Int) else (tree.getD (k - 1) (0, 0)).2) = bf at *
      go_wp2
      go_ret
      exact ⟨rfl, HB02.out.trans (hbel.mono hs02)⟩
end Go.Proofs.YtebjndcokkefhaaDoor
namespace Go.Proofs.YtebjndcokkefhaaDoor
open Go.RowKit

/-- How a run stands. -/
structure StandD where
  status : Int
  value : Int
  live : List LiveD
def RdStand (w : World) (cs : List Value) (s : StandD) : Prop :=
  ∃ a cap, cs = [.int .i64 s.status, .int .i64 s.value, .slice a s.live.length cap] ∧ RdL 3 RdLive w a s.live.length cap s.live
theorem RdStand.below {w w' : World} {cs : List Value} {s : StandD} (h : RdStand w cs s) (hb : Below w.heap.size w w') : RdStand w' cs s := by
  obtain ⟨a, cap, e, hr⟩ := h
  exact ⟨a, cap, e, hr.below hb (fun _ _ h => h.below hb)⟩

end Go.Proofs.YtebjndcokkefhaaDoor
namespace Go.Proofs.YtebjndcokkefhaaDoor
open Go.RowKit

def noFn : FnD := ⟨⟨#[]⟩, ⟨#[]⟩, 0, 0, []⟩
def noOp : OpD := ⟨0, 0, 0, 0, 0, []⟩
def fnAt (p : List FnD) (n : Int) : FnD := (p[n.toNat]?).getD noFn
def fnOf (p : List FnD) (x : LiveD) : FnD := fnAt p x.fn
def opOf (p : List FnD) (x : LiveD) : OpD := ((fnOf p x).body[x.next.toNat]?).getD noOp
def locOf (x : LiveD) (k : Int) : Int := (x.locals[k.toNat]?).getD 0
def setL (x : LiveD) (k v next : Int) : LiveD := ⟨x.fn, next, x.locals.set k.toNat v⟩
def calleeD (p : List FnD) (x : LiveD) (o : OpD) : LiveD := ⟨o.b, 0, fillI (o.args.map (locOf x)) (fnAt p o.b).locals.toNat o.args.length⟩

/-- The next op of the innermost frame x, behind the others. -/
def stepTop (p : List FnD) (ini : List LiveD) (x : LiveD) : StandD :=
  if (opOf p x).code = 5 then
    if ini.length + 1 = 20 then ⟨3, 0, ini ++ [x]⟩ else ⟨0, 0, ini ++ [x] ++ [calleeD p x (opOf p x)]⟩
  else if (opOf p x).code = 6 then
    match ini.getLast? with
    | none => ⟨1, locOf x (opOf p x).a, []⟩
    | some c => ⟨0, 0, ini.dropLast ++ [setL c (opOf p c).a (locOf x (opOf p x).a) (c.next + 1)]⟩
  else if (opOf p x).code = 4 then ⟨0, 0, ini ++ [⟨x.fn, if locOf x (opOf p x).a = 0 then x.next + 1 else (opOf p x).b, x.locals⟩]⟩
  else if (opOf p x).code = 0 then ⟨0, 0, ini ++ [setL x (opOf p x).a (opOf p x).b (x.next + 1)]⟩
  else if (opOf p x).code = 3 ∧ locOf x (opOf p x).c = 0 then ⟨2, 0, ini ++ [x]⟩
  else ⟨0, 0, ini ++ [setL x (opOf p x).a (cnt (opOf p x).code (locOf x (opOf p x).b) (locOf x (opOf p x).c)) (x.next + 1)]⟩

def nextD (p : List FnD) (s : StandD) : StandD :=
  if s.status ≠ 0 then s else match s.live.getLast? with
    | none => s
    | some x => stepTop p s.live.dropLast x
def runD (p : List FnD) (s : StandD) : Nat → StandD
  | 0 => s
  | n + 1 => nextD p (runD p s n)
def begunD (p : List FnD) (args : List Int) : StandD := ⟨0, 0, [⟨0, 0, fillI args (fnAt p 0).locals.toNat args.length⟩]⟩
def toldD (p : List FnD) (s : StandD) : List FrameD := s.live.reverse.map fun x => ⟨(fnOf p x).name, (fnOf p x).file, (opOf p x).line⟩

/-- What Check asks of an op, said one by one. -/
structure OpOk (p : List FnD) (x : FnD) (s : Nat) (o : OpD) : Prop where
  line : 1 ≤ o.line ∧ o.line ≤ 9999
  a : 0 ≤ o.a ∧ o.a < x.locals
  code : 0 ≤ o.code ∧ o.code ≤ 6
  last : o.code ≠ 6 → s + 1 < x.body.length
  set : o.code = 0 → 0 ≤ o.b ∧ o.b < 1000
  three : o.code = 1 ∨ o.code = 2 ∨ o.code = 3 → (0 ≤ o.b ∧ o.b < x.locals) ∧ (0 ≤ o.c ∧ o.c < x.locals)
  jump : o.code = 4 → 0 ≤ o.b ∧ o.b < x.body.length
  call : o.code = 5 → 0 ≤ o.b ∧ o.b < p.length ∧ (fnAt p o.b).params = o.args.length ∧ ∀ n ∈ o.args, 0 ≤ n ∧ n < x.locals
structure FnOk (p : List FnD) (x : FnD) : Prop where
  locals : 1 ≤ x.locals ∧ x.locals ≤ 8
  params : 0 ≤ x.params ∧ x.params ≤ x.locals
  body : 1 ≤ x.body.length ∧ x.body.length ≤ 30
  ops : ∀ (s : Nat) (o : OpD), x.body[s]? = some o → OpOk p x s o
structure Good (p : List FnD) : Prop where
  len : 1 ≤ p.length ∧ p.length ≤ 12
  fns : ∀ (f : Nat) (x : FnD), p[f]? = some x → FnOk p x

theorem andB {a b : Bool} : (a && b) = true ↔ a = true ∧ b = true := by simp
theorem withB_true {n e : Int} (h : withB n e = true) : 0 ≤ n ∧ n < e := by simpa [withB] using h

theorem opOk_of {p : List FnD} {x : FnD} {s : Nat} {o : OpD} (hs : s < x.body.length) (h : opB p x s o = true) : OpOk p x s o := by
  unfold opB at h
  split at h
  · cases h
  · next h1 =>
    have h2 : (1 ≤ o.line ∧ o.line ≤ 9999) ∧ withB o.a x.locals = true := by
      simp only [Bool.or_eq_true, Bool.not_eq_true', not_or, decide_eq_false_iff_not, Bool.not_eq_false] at h1
      exact ⟨Decidable.not_not.1 h1.1, h1.2⟩
    obtain ⟨hl, ha⟩ := h2
    have ha := withB_true ha
    split at h
    · next h6 => exact ⟨hl, ha, by omega, fun h => absurd h6 h, by omega, by omega, by omega, by omega⟩
    · next h6 =>
      split at h
      · cases h
      · next hlast =>
        have hlt : s + 1 < x.body.length := by omega
        split at h
        · next k0 => exact ⟨hl, ha, by omega, fun _ => hlt, fun _ => withB_true h, by omega, by omega, by omega⟩
        · split at h
          · next k1 =>
            have h := andB.1 h
            exact ⟨hl, ha, by omega, fun _ => hlt, by omega, fun _ => ⟨withB_true h.1, withB_true h.2⟩, by omega, by omega⟩
          · split at h
            · next k4 => exact ⟨hl, ha, by omega, fun _ => hlt, by omega, by omega, fun _ => withB_true h, by omega⟩
            · split at h
              · next k5 =>
                refine ⟨hl, ha, by omega, fun _ => hlt, by omega, by omega, by omega, fun _ => ?_⟩
                unfold callB at h
                obtain ⟨hb, h2⟩ := andB.1 h
                obtain ⟨hp, hargs⟩ := andB.1 h2
                have hb := withB_true hb
                refine ⟨hb.1, hb.2, ?_, fun n hn => withB_true (List.all_eq_true.1 hargs n hn)⟩
                obtain ⟨y, hy⟩ : ∃ y, p[o.b.toNat]? = some y := ⟨_, List.getElem?_eq_getElem (by omega)⟩
                rw [hy] at hp
                simp only [fnAt, hy, Option.getD_some]
                simpa using hp
              · cases h

theorem chkB_none {p : List FnD} {x : FnD} {f : Nat} : ∀ {l : List OpD} {s : Nat}, chkB p x f l s = none → ∀ (i : Nat) (o : OpD), l[i]? = some o → opB p x (s + i) o = true
  | [], _, _, i, o, h => by simp at h
  | o' :: r, s, hn, i, o, h => by
    unfold chkB at hn
    split at hn
    · next h1 =>
      match i, h with
      | 0, h => simp at h; subst h; exact h1
      | i + 1, h =>
        have := chkB_none hn i o (by simpa using h)
        rw [show s + (i + 1) = s + 1 + i by omega]
        exact this
    · cases hn

theorem chkF_ok {p : List FnD} : ∀ {l : List FnD} {f : Nat}, chkF p l f = (0, 0, 0) → ∀ (i : Nat) (x : FnD), l[i]? = some x → headB p (f + i) x = true ∧ chkB p x (f + i) x.body 0 = none
  | [], _, _, i, x, h => by simp at h
  | x' :: r, f, hn, i, x, h => by
    unfold chkF at hn
    split at hn
    · next h1 =>
      split at hn
      · next e he =>
        exfalso
        have : ∀ (l : List OpD) (s : Nat) e, chkB p x' f l s = some e → e.1 = 7 := by
          intro l
          induction l with
          | nil => intro s e h; simp [chkB] at h
          | cons o r ih =>
            intro s e h
            unfold chkB at h
            split at h
            · exact ih _ _ h
            · cases h; rfl
        have := this _ _ _ he
        rw [hn] at this
        simp at this
      · next he =>
        match i, h with
        | 0, h => simp at h; subst h; exact ⟨h1, he⟩
        | i + 1, h =>
          have := chkF_ok hn i x (by simpa using h)
          rw [show f + (i + 1) = f + 1 + i by omega]
          exact this
    · simp at hn

theorem good_of {p : List FnD} (h : chk p = (0, 0, 0)) : Good p := by
  unfold chk at h
  split at h
  · simp at h
  · refine ⟨by omega, fun f x hx => ?_⟩
    obtain ⟨hh, hb⟩ := chkF_ok h f x hx
    unfold headB at hh
    simp only [Bool.and_eq_true, decide_eq_true_eq] at hh
    obtain ⟨_, ⟨h1, h2, h3, h4⟩, _, h5, h6⟩ := hh
    refine ⟨⟨h1, h2⟩, ⟨h3, h4⟩, ⟨h5, h6⟩, fun s o ho => ?_⟩
    have := chkB_none hb s o ho
    rw [Nat.zero_add] at this
    exact opOk_of (List.getElem?_eq_some_iff.1 ho).1 this

/-- A frame that a run may have. -/
structure WfLive (p : List FnD) (x : LiveD) : Prop where
  fn : 0 ≤ x.fn ∧ x.fn < p.length
  next : 0 ≤ x.next ∧ x.next < (fnOf p x).body.length
  locals : (x.locals.length : Int) = (fnOf p x).locals
  vals : ∀ v ∈ x.locals, 0 ≤ v ∧ v < 1000
structure Wf (p : List FnD) (s : StandD) : Prop where
  len : s.live.length ≤ 20
  runs : s.status = 0 → s.live ≠ [] ∧ s.value = 0
  live : ∀ x ∈ s.live, WfLive p x
  calls : ∀ x ∈ s.live.dropLast, (opOf p x).code = 5

theorem fnAt_some {p : List FnD} {n : Int} (h : 0 ≤ n ∧ n < p.length) : p[n.toNat]? = some (fnAt p n) := by
  obtain ⟨y, hy⟩ : ∃ y, p[n.toNat]? = some y := ⟨_, List.getElem?_eq_getElem (by omega)⟩
  rw [fnAt, hy]; rfl
theorem opOf_some {p : List FnD} {x : LiveD} (h : WfLive p x) : (fnOf p x).body[x.next.toNat]? = some (opOf p x) := by
  have := h.next
  obtain ⟨y, hy⟩ : ∃ y, (fnOf p x).body[x.next.toNat]? = some y := ⟨_, List.getElem?_eq_getElem (by omega)⟩
  rw [opOf, hy]; rfl
theorem fnOf_some {p : List FnD} {x : LiveD} (h : WfLive p x) : p[x.fn.toNat]? = some (fnOf p x) := fnAt_some h.fn
theorem WfLive.fnOk {p : List FnD} {x : LiveD} (g : Good p) (h : WfLive p x) : FnOk p (fnOf p x) := g.fns _ _ (fnOf_some h)
theorem WfLive.opOk {p : List FnD} {x : LiveD} (g : Good p) (h : WfLive p x) : OpOk p (fnOf p x) x.next.toNat (opOf p x) := (h.fnOk g).ops _ _ (opOf_some h)
theorem WfLive.loc {p : List FnD} {x : LiveD} (h : WfLive p x) {k : Int} (hk : 0 ≤ k ∧ k < (fnOf p x).locals) : x.locals[k.toNat]? = some (locOf x k) := by
  have := h.locals
  obtain ⟨y, hy⟩ : ∃ y, x.locals[k.toNat]? = some y := ⟨_, List.getElem?_eq_getElem (by omega)⟩
  rw [locOf, hy]; rfl
theorem WfLive.val {p : List FnD} {x : LiveD} (h : WfLive p x) {k : Int} (hk : 0 ≤ k ∧ k < (fnOf p x).locals) : 0 ≤ locOf x k ∧ locOf x k < 1000 :=
  h.vals _ (List.mem_of_getElem? (h.loc hk))

theorem WfLive.setL {p : List FnD} {x : LiveD} (h : WfLive p x) {k v next : Int} (hn : 0 ≤ next ∧ next < (fnOf p x).body.length) (hv : 0 ≤ v ∧ v < 1000) : WfLive p (setL x k v next) := by
  refine ⟨h.fn, hn, by show ((x.locals.set _ _).length : Int) = _; rw [List.length_set]; exact h.locals, fun u hu => ?_⟩
  rcases List.mem_or_eq_of_mem_set hu with h1 | h1
  · exact h.vals u h1
  · subst h1; exact hv

theorem cnt_range {code x y : Int} (hx : 0 ≤ x ∧ x < 1000) (hy : 0 ≤ y ∧ y < 1000) (hd : code = 3 → y ≠ 0) : 0 ≤ cnt code x y ∧ cnt code x y < 1000 := by
  unfold cnt
  split
  · next h =>
    have := hd h
    exact ⟨Int.ediv_nonneg hx.1 hy.1, by have := Int.ediv_le_self y hx.1; omega⟩
  · split <;> omega

theorem mem_fillI {args : List Int} {n j : Nat} {v : Int} (h : v ∈ fillI args n j) : v ∈ args ∨ v = 0 := by
  unfold fillI at h
  rcases List.mem_append.1 h with h | h
  · exact .inl (List.mem_of_mem_take h)
  · exact .inr (List.mem_replicate.1 h).2

theorem wf_begun {p : List FnD} {args : List Int} (g : Good p) (hl : (args.length : Int) = (fnAt p 0).params) (hv : ∀ v ∈ args, 0 ≤ v ∧ v < 1000) : Wf p (begunD p args) := by
  have hlen := g.len
  have h0 : (0 : Int) ≤ 0 ∧ (0 : Int) < p.length := by omega
  have hf := g.fns _ _ (fnAt_some h0)
  have h1 := hf.locals
  have h2 := hf.params
  have h3 := hf.body
  refine ⟨by simp [begunD], fun _ => ⟨by simp [begunD], rfl⟩, fun x hx => ?_, fun x hx => by simp [begunD] at hx⟩
  simp [begunD] at hx
  subst hx
  refine ⟨h0, ⟨Int.le_refl _, by show (0 : Int) < ((fnAt p 0).body.length : Int); omega⟩, ?_, fun v hv' => ?_⟩
  · show ((fillI _ _ _).length : Int) = (fnAt p 0).locals
    rw [fillI_len _ _ _ (Nat.le_refl _) (by omega)]; omega
  · rcases mem_fillI hv' with h | h
    · exact hv v h
    · subst h; omega

theorem wf_callee {p : List FnD} {x : LiveD} (g : Good p) (h : WfLive p x) (hc : (opOf p x).code = 5) : WfLive p (calleeD p x (opOf p x)) := by
  have ho := (h.opOk g).call hc
  have hf := g.fns _ _ (fnAt_some ⟨ho.1, ho.2.1⟩)
  have h1 := hf.locals
  have h2 := hf.params
  have h3 := hf.body
  have h4 := ho.2.2.1
  refine ⟨⟨ho.1, ho.2.1⟩, ⟨Int.le_refl _, by show (0 : Int) < ((fnAt p (opOf p x).b).body.length : Int); omega⟩, ?_, fun v hv => ?_⟩
  · show ((fillI _ _ _).length : Int) = (fnAt p (opOf p x).b).locals
    rw [fillI_len _ _ _ (by simp) (by simp; omega)]; omega
  · rcases mem_fillI hv with hm | hm
    · obtain ⟨k, hk, rfl⟩ := List.mem_map.1 hm
      exact h.val (ho.2.2.2 k hk)
    · subst hm; omega

theorem dropLast_getLast {α : Type} {l : List α} {x : α} (h : l.getLast? = some x) : l = l.dropLast ++ [x] := by
  obtain ⟨ys, rfl⟩ := List.getLast?_eq_some_iff.1 h
  simp

theorem wf_stepTop {p : List FnD} {ini : List LiveD} {x : LiveD} (g : Good p) (hlen : ini.length + 1 ≤ 20) (hini : ∀ y ∈ ini, WfLive p y) (hx : WfLive p x) (hc : ∀ y ∈ ini, (opOf p y).code = 5) : Wf p (stepTop p ini x) := by
  have ho := hx.opOk g
  have hnx := hx.next
  have snoc : ∀ y, WfLive p y → Wf p ⟨0, 0, ini ++ [y]⟩ := fun y hy => by
    refine ⟨by simpa using hlen, fun _ => ⟨by simp, rfl⟩, fun z hz => ?_, fun z hz => hc z (by simpa using hz)⟩
    rcases List.mem_append.1 hz with h | h
    · exact hini z h
    · rw [List.mem_singleton.1 h]; exact hy
  unfold stepTop
  split
  · next h5 =>
    split
    · refine ⟨by simpa using hlen, fun h => by simp at h, fun z hz => ?_, fun z hz => hc z (by simpa using hz)⟩
      rcases List.mem_append.1 hz with h | h
      · exact hini z h
      · rw [List.mem_singleton.1 h]; exact hx
    · refine ⟨by simp; omega, fun _ => ⟨by simp, rfl⟩, fun z hz => ?_, fun z hz => ?_⟩
      · rcases List.mem_append.1 hz with h | h
        · rcases List.mem_append.1 h with h | h
          · exact hini z h
          · rw [List.mem_singleton.1 h]; exact hx
        · rw [List.mem_singleton.1 h]; exact wf_callee g hx h5
      · have hz' : z ∈ ini ++ [x] := by
          have hz2 : z ∈ ((ini ++ [x]) ++ [calleeD p x (opOf p x)]).dropLast := hz
          rw [List.dropLast_concat] at hz2
          exact hz2
        rcases List.mem_append.1 hz' with h | h
        · exact hc z h
        · rw [List.mem_singleton.1 h]; exact h5
  · next h5 =>
    split
    · split
      · exact ⟨by simp, fun h => by simp at h, fun z hz => by simp at hz, fun z hz => by simp at hz⟩
      · next c hlast =>
        have hci : c ∈ ini := List.mem_of_getLast? hlast
        have hwc := hini c hci
        have hc5 := hc c hci
        have hoc := hwc.opOk g
        have hlt := hoc.last (by omega)
        have hcn := hwc.next
        have hd : ∀ z ∈ ini.dropLast, z ∈ ini := fun z hz => List.dropLast_subset _ hz
        refine ⟨?_, fun _ => ⟨by simp, rfl⟩, fun z hz => ?_, fun z hz => ?_⟩
        · simp; omega
        · rcases List.mem_append.1 hz with h | h
          · exact hini z (hd z h)
          · rw [List.mem_singleton.1 h]
            exact hwc.setL (by omega) (hx.val ho.a)
        · have hz2 : z ∈ (ini.dropLast ++ [setL c (opOf p c).a (locOf x (opOf p x).a) (c.next + 1)]).dropLast := hz
          rw [List.dropLast_concat] at hz2
          exact hc z (hd z hz2)
    · next h6 =>
      have hlt := ho.last h6
      split
      · next h4 =>
        apply snoc
        refine ⟨hx.fn, ?_, hx.locals, hx.vals⟩
        have hj := ho.jump h4
        show 0 ≤ (if locOf x (opOf p x).a = 0 then x.next + 1 else (opOf p x).b) ∧ (if locOf x (opOf p x).a = 0 then x.next + 1 else (opOf p x).b) < ((fnOf p x).body.length : Int)
        split <;> omega
      · split
        · next h0 => exact snoc _ (hx.setL (by omega) (ho.set h0))
        · split
          · refine ⟨by simpa using hlen, fun h => by simp at h, fun z hz => ?_, fun z hz => hc z (by simpa using hz)⟩
            rcases List.mem_append.1 hz with h | h
            · exact hini z h
            · rw [List.mem_singleton.1 h]; exact hx
          · next h4 h0 h3 =>
            have hcode := ho.code
            have hth := ho.three (by omega)
            exact snoc _ (hx.setL (by omega) (cnt_range (hx.val hth.1) (hx.val hth.2) (fun h hz => h3 ⟨h, hz⟩)))

theorem wf_next {p : List FnD} {s : StandD} (g : Good p) (h : Wf p s) : Wf p (nextD p s) := by
  unfold nextD
  split
  · exact h
  · split
    · exact h
    · next x hl =>
      have e := dropLast_getLast hl
      have hlen := h.len
      have hmem : ∀ z ∈ s.live.dropLast, z ∈ s.live := fun z hz => List.dropLast_subset _ hz
      refine wf_stepTop g ?_ (fun y hy => h.live y (hmem y hy)) (h.live x (List.mem_of_getLast? hl)) h.calls
      have : s.live.length = s.live.dropLast.length + 1 := by rw [e]; simp
      omega
theorem wf_run {p : List FnD} {s : StandD} (g : Good p) (h : Wf p s) : ∀ n, Wf p (runD p s n)
  | 0 => h
  | n + 1 => wf_next g (wf_run g h n)
end Go.Proofs.YtebjndcokkefhaaDoor
