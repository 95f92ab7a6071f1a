/- The contract of the developers' Symbolize, whatever bytes and pcs it is given; nothing that was there is written. The frames of a pc, as the reference unfolds them, and that they are the developers'; nothing is claimed of the program here. -/
import Derived.Test.YtffnfjkjlmlonaaGreatDoorJ5
namespace Go.Proofs.YtffnfjkjlmlonaaGreatDoor
open Go.RowKit
/-- What Symbolize answers: the frames, the error. -/
def symE (bs pl : List Int) : Int := if (decI bs).2.1 ≠ 0 then (decI bs).2.1 else if symB (plcD (decI bs).1).length pl = true then 0 else 9
def symL (bs pl : List Int) : List FrameD := if (decI bs).2.1 ≠ 0 then [] else if symB (plcD (decI bs).1).length pl = true then symF (decI bs).1 (plcD (decI bs).1) pl 0 [] else []
set_option maxHeartbeats 2000000 in
set_option maxRecDepth 100000 in
theorem iSym_bad (ba : Option Addr) (blen bcap : Nat) (bs : List Int) (pa : Option Addr) (pn pcap : Nat) (w : World) (hb : Rd .u8 w ba blen bcap bs) (hne : ∀ q, ba = some q → q.block < w.heap.size) (hx : ∀ j, 0 ≤ bs.getD j 0 ∧ bs.getD j 0 ≤ 255) (hH : HeadAt w)
    (hd : (decI bs).2.1 ≠ 0) :
    Calls Tryz.prog 111 #[.slice ba blen bcap, .slice pa pn pcap] w fun e w' => e = .returned (.tuple #[.slice none 0 0, .int .i64 (decI bs).2.1]) ∧ Below w.heap.size w w' := by
  have HD := hid (idecode_any ba blen bcap bs w hb hne hx hH)
  obtain ⟨er, her⟩ : ∃ v, v = (decI bs).2.1 := ⟨_, rfl⟩
  obtain ⟨L, hL⟩ : ∃ v, v = (decI bs).1 := ⟨_, rfl⟩
  rw [← her] at HD hd ⊢
  rw [← hL] at HD
  generalize (decI bs).2.2 = pos at *
  have hd' : (er != 0) = true := by simpa using hd
  clear hb hne hx her hL hd
  go_enter Tryz.func111, Tryz.ntmps111
  go_wp2_with fail
  refine HD.out.mono ?_
  rintro e w1 ⟨v, rfl, hownI, hb1⟩
  obtain ⟨va, vc, rfl, -⟩ := hownI.rd
  have HB := hid (hb1.alloc hb1.size (Obj.cells #[.slice va L.length vc] 41))
  clear hownI hb1 HD
  go_wp2
  exact bodyPost_ret (v := .tuple #[.slice none 0 0, .int .i64 er]) (by simp [results, Tryz.results111, go_sem]) rfl ⟨rfl, HB.out⟩
set_option maxHeartbeats 2000000 in
set_option maxRecDepth 100000 in
theorem uSym_bad (ba : Option Addr) (blen bcap : Nat) (bs : List Int) (pa : Option Addr) (pn pcap : Nat) (w : World) (hb : Rd .u8 w ba blen bcap bs) (hne : ∀ q, ba = some q → q.block < w.heap.size) (hx : ∀ j, 0 ≤ bs.getD j 0 ∧ bs.getD j 0 ≤ 255) (hH : HeadAt w)
    (hd : (decI bs).2.1 ≠ 0) :
    Calls Tryz.prog 62 #[.slice ba blen bcap, .slice pa pn pcap] w fun e w' => e = .returned (.tuple #[.slice none 0 0, .int .i64 (decI bs).2.1]) ∧ Below w.heap.size w w' := by
  have HS := hid (iSym_bad ba blen bcap bs pa pn pcap w hb hne hx hH hd)
  generalize (decI bs).2.1 = er at *
  clear hb hne hx hH hd
  go_enter Tryz.func62, Tryz.ntmps62
  go_wp2_with fail
  refine HS.out.mono ?_
  rintro e w1 ⟨rfl, hb1⟩
  go_wp2
  exact bodyPost_ret (v := .tuple #[.slice none 0 0, .int .i64 er]) (by simp [results, Tryz.results62, go_sem]) rfl ⟨rfl, hb1⟩
theorem uSym_all (ba : Option Addr) (blen bcap : Nat) (bs : List Int) (pa : Option Addr) (pcap : Nat) (pl : List Int) (w : World) (hb : Rd .u8 w ba blen bcap bs) (hne : ∀ q, ba = some q → q.block < w.heap.size) (hx : ∀ j, 0 ≤ bs.getD j 0 ∧ bs.getD j 0 ≤ 255) (hH : HeadAt w)
    (hp : Rd .i64 w pa pl.length pcap pl) (hpl : ∀ x ∈ pl, R64 x) :
    Calls Tryz.prog 62 #[.slice ba blen bcap, .slice pa pl.length pcap] w fun e w' => ∃ a cap, e = .returned (.tuple #[.slice a (symL bs pl).length cap, .int .i64 (symE bs pl)]) ∧
      w'.ownsRow w.heap.size 107 3 (.slice a (symL bs pl).length cap) (symL bs pl).length ((symL bs pl).map frCells).flatten ∧ Below w.heap.size w w' := by
  unfold symL symE
  by_cases hd : (decI bs).2.1 = 0
  · obtain ⟨h1, h2, h3⟩ := decI_ok hx hd
    have hd' : ¬ (decI bs).2.1 ≠ 0 := by simpa using hd
    rw [if_neg hd', if_neg hd']
    refine (uSym_any ba blen bcap bs (decI bs).1 pa pcap pl w hb hne hx hH (Prod.ext rfl (Prod.ext hd h3)) h1 hp hpl).mono ?_
    rintro e w' ⟨hbl, ⟨hs, rfl⟩ | ⟨hs, a, cap, rfl, ho⟩⟩
    · have hs' : ¬ symB (plcD (decI bs).1).length pl = true := by simp [hs]
      rw [if_neg hs', if_neg hs']
      exact ⟨none, 0, rfl, World.ownsRow_nil _ _ _ _, hbl⟩
    · rw [if_pos hs, if_pos hs]
      exact ⟨a, cap, rfl, ho, hbl⟩
  · rw [if_pos hd, if_pos hd]
    refine (uSym_bad ba blen bcap bs pa pl.length pcap w hb hne hx hH hd).mono ?_
    rintro e w' ⟨rfl, hbl⟩
    exact ⟨none, 0, rfl, World.ownsRow_nil _ _ _ _, hbl⟩
end Go.Proofs.YtffnfjkjlmlonaaGreatDoor
namespace Go.Proofs.YtffnfjkjlmlonaaGreatDoor
open Go.RowKit
/-- Of each pc its function, the pc within it. -/
def shP : List EntD → Nat → List (Int × Int)
  | [], _ => []
  | x :: r, f => ((List.range (unroll x.lines).length).map fun (j : Nat) => ((f : Int), (j : Int))) ++ shP r (f + 1)
theorem shP_app : ∀ (l : List EntD) (x : EntD) (f : Nat), shP (l ++ [x]) f = shP l f ++ ((List.range (unroll x.lines).length).map fun (j : Nat) => (((f + l.length : Nat) : Int), (j : Int)))
  | [], x, f => by simp [shP]
  | y :: l, x, f => by
    show _ ++ shP (l ++ [x]) (f + 1) = _
    rw [shP_app l x (f + 1), ← List.append_assoc]
    simp only [shP, List.length_cons]
    rw [show f + 1 + l.length = f + (l.length + 1) by omega]
theorem shP_take {L : List EntD} {k : Nat} {x : EntD} (h : L[k]? = some x) : shP (L.take (k + 1)) 0 = shP (L.take k) 0 ++ ((List.range (unroll x.lines).length).map fun (j : Nat) => ((k : Int), (j : Int))) := by
  obtain ⟨hlt, he⟩ := List.getElem?_eq_some_iff.1 h
  rw [List.take_succ_eq_append_getElem hlt, he, shP_app, List.length_take, Nat.min_eq_left (by omega), Nat.zero_add]
theorem shP_plc {n : Nat} : ∀ (r : List EntD) (fn : Nat) (acc : List PlcD), (∀ x ∈ r, EntG n x) → (plcF r fn acc).length = acc.length + (shP r fn).length ∧
    ∀ j p, (shP r fn)[j]? = some p → ∃ a, (plcF r fn acc)[acc.length + j]? = some a ∧ a.fn = p.1 ∧ ((acc.length + j : Nat) : Int) - a.first = p.2
  | [], fn, acc, _ => ⟨rfl, fun j p h => by simp [shP] at h⟩
  | x :: r, fn, acc, hg => by
    have hx := hg x (List.mem_cons_self ..)
    obtain ⟨i1, i2⟩ := shP_plc r (fn + 1) (acc ++ plcE fn acc.length x) (fun y hy => hg y (List.mem_cons_of_mem _ hy))
    have hl := plcE_len (fn := fn) (first := acc.length) hx
    rw [List.length_append, hl] at i1 i2
    refine ⟨?_, fun j p hp => ?_⟩
    · show (plcF r (fn + 1) _).length = _
      rw [i1]
      simp [shP]
      omega
    · show ∃ a, (plcF r (fn + 1) _)[_]? = some a ∧ _
      simp only [shP] at hp
      rcases Nat.lt_or_ge j (unroll x.lines).length with hj | hj
      · rw [List.getElem?_append_left (by simpa using hj)] at hp
        simp [hj] at hp
        subst hp
        have hpre : ∀ (r : List EntD) (fn : Nat) (acc : List PlcD) (i : Nat), i < acc.length → (plcF r fn acc)[i]? = acc[i]? := by
          intro r
          induction r with
          | nil => intro fn acc i _; rfl
          | cons y r ih =>
            intro fn acc i hi
            show (plcF r (fn + 1) _)[i]? = _
            rw [ih _ _ i (by rw [List.length_append]; omega), List.getElem?_append_left hi]
        refine ⟨⟨fn, acc.length, (unroll x.lines).getD j 0, (unroll x.index).getD j 0⟩, ?_, rfl, by simp only; omega⟩
        rw [hpre _ _ _ _ (by rw [List.length_append, hl]; omega), List.getElem?_append_right (by omega), Nat.add_sub_cancel_left]
        exact plcE_at hx hj
      · rw [List.getElem?_append_right (by simpa using hj)] at hp
        simp only [List.length_map, List.length_range] at hp
        obtain ⟨a, a1, a2, a3⟩ := i2 _ p hp
        have e : acc.length + (unroll x.lines).length + (j - (unroll x.lines).length) = acc.length + j := by omega
        rw [e] at a1 a3
        exact ⟨a, a1, a2, a3⟩
/-- The frames of pc x of a function's code. -/
def unfD (L : List EntD) (own : EntD) : Nat → Nat → List FrameD
  | 0, x => [⟨own.name, own.file, (unroll own.lines).getD x 0⟩]
  | f + 1, x => if (unroll own.index).getD x 0 = 0 then [⟨own.name, own.file, (unroll own.lines).getD x 0⟩] else
      ⟨(L.getD (own.tree.getD ((unroll own.index).getD x 0 - 1).toNat (0, 0)).1.toNat noE).name, (L.getD (own.tree.getD ((unroll own.index).getD x 0 - 1).toNat (0, 0)).1.toNat noE).file, (unroll own.lines).getD x 0⟩ ::
        unfD L own f (own.tree.getD ((unroll own.index).getD x 0 - 1).toNat (0, 0)).2.toNat
theorem inst_at {n : Nat} {x : EntD} (h : EntG n x) {j : Nat} (hj : j < (unroll x.lines).length) : 0 ≤ (unroll x.index).getD j 0 ∧ (unroll x.index).getD j 0 ≤ x.tree.length := by
  have hj2 : j < (unroll x.index).length := by rw [h.len]; exact hj
  have : (unroll x.index).getD j 0 = (unroll x.index)[j] := by simp [List.getD, hj2]
  rw [this]
  exact h.inst _ (List.getElem_mem hj2)
theorem getD_some {α : Type} {l : List α} {i : Nat} (d : α) (h : i < l.length) : l[i]? = some (l.getD i d) := by simp [List.getD, h]
theorem node_at {n : Nat} {x : EntD} (h : EntG n x) {j : Nat} (hj : j < (unroll x.lines).length) (h0 : (unroll x.index).getD j 0 ≠ 0) :
    x.tree[((unroll x.index).getD j 0 - 1).toNat]? = some (x.tree.getD ((unroll x.index).getD j 0 - 1).toNat (0, 0)) ∧
    (0 ≤ (x.tree.getD ((unroll x.index).getD j 0 - 1).toNat (0, 0)).1 ∧ (x.tree.getD ((unroll x.index).getD j 0 - 1).toNat (0, 0)).1 < n) ∧
    (0 ≤ (x.tree.getD ((unroll x.index).getD j 0 - 1).toNat (0, 0)).2 ∧ (x.tree.getD ((unroll x.index).getD j 0 - 1).toNat (0, 0)).2 < (unroll x.lines).length) ∧
    (unroll x.index).getD (x.tree.getD ((unroll x.index).getD j 0 - 1).toNat (0, 0)).2.toNat 0 < (unroll x.index).getD j 0 := by
  have hi := inst_at h hj
  have hlt : ((unroll x.index).getD j 0 - 1).toNat < x.tree.length := by omega
  have he : x.tree[((unroll x.index).getD j 0 - 1).toNat]? = some (x.tree.getD ((unroll x.index).getD j 0 - 1).toNat (0, 0)) := getD_some _ hlt
  obtain ⟨g1, g2, g3⟩ := h.node _ _ he
  exact ⟨he, g1, g2, by omega⟩
theorem frs_unf {n : Nat} {L : List EntD} {P : List PlcD} {own : EntD} (hg : EntG n own) {f s : Nat} (hP : ∀ j, j < (unroll own.lines).length → P[s + j]? = some ⟨f, s, (unroll own.lines).getD j 0, (unroll own.index).getD j 0⟩) :
    ∀ (fu x : Nat) (acc : List FrameD), x < (unroll own.lines).length → frs L P own fu (P.getD (s + x) noP) acc = acc ++ unfD L own fu x
  | 0, x, acc, hx => by
    have : P.getD (s + x) noP = ⟨f, s, (unroll own.lines).getD x 0, (unroll own.index).getD x 0⟩ := by simp [List.getD, hP x hx]
    rw [this]; rfl
  | fu + 1, x, acc, hx => by
    have hp : P.getD (s + x) noP = ⟨f, s, (unroll own.lines).getD x 0, (unroll own.index).getD x 0⟩ := by simp [List.getD, hP x hx]
    rw [hp]
    have hi := inst_at hg hx
    unfold frs unfD
    simp only
    by_cases h0 : (unroll own.index).getD x 0 = 0
    · rw [if_pos (by omega), if_pos h0]
    · rw [if_neg (by omega), if_neg h0]
      obtain ⟨-, -, g2, -⟩ := node_at hg hx h0
      obtain ⟨nd, hnd⟩ : ∃ v, v = own.tree.getD ((unroll own.index).getD x 0 - 1).toNat (0, 0) := ⟨_, rfl⟩
      rw [← hnd] at g2 ⊢
      have e : ((s : Int) + nd.2).toNat = s + nd.2.toNat := by omega
      rw [e, frs_unf hg hP fu nd.2.toNat _ (by omega)]
      simp
/-- The frames of a pc of an image, by its function and the pc within it. -/
theorem frsD_unf {L : List EntD} (hg : ∀ x ∈ L, EntG L.length x) {pc : Nat} {p : Int × Int} (h : (shP L 0)[pc]? = some p) :
    ∃ (f x : Nat) (own : EntD), p = ((f : Int), (x : Int)) ∧ L[f]? = some own ∧ x < (unroll own.lines).length ∧ frsD L (plcD L) pc = unfD L own ((unroll own.index).getD x 0).toNat x := by
  obtain ⟨a, a1, a2, a3⟩ := (shP_plc L 0 [] hg).2 pc p h
  rw [List.length_nil, Nat.zero_add] at a1 a3
  obtain ⟨f, s, own, b1, b2, b3, b4, b5, b6⟩ := plcD_ok hg pc a a1
  have hgo := hg own (List.mem_of_getElem? b3)
  have hfr := frs_unf (L := L) hgo b6
  refine ⟨f, pc - s, own, ?_, b3, by omega, ?_⟩
  · apply Prod.ext
    · simp only; omega
    · simp only; omega
  · have e1 : (plcD L).getD pc noP = a := by
      have : (plcD L)[pc]? = some a := a1
      simp [List.getD, this]
    have e2 : (plcD L).getD (s + (pc - s)) noP = a := by rw [show s + (pc - s) = pc by omega]; exact e1
    have e3 : a.inst = (unroll own.index).getD (pc - s) 0 := by
      have := b6 (pc - s) (by omega)
      rw [show s + (pc - s) = pc by omega, show plcD L = plcF L 0 [] from rfl, a1] at this
      cases this
      rfl
    unfold frsD
    rw [e1, b1]
    have e4 : L.getD (f : Int).toNat noE = own := by simp [List.getD, b3]
    rw [e4, ← e2, hfr _ _ _ (by omega), e2, e3]
    simp
theorem shP_len {L : List EntD} (hg : ∀ x ∈ L, EntG L.length x) : (shP L 0).length = (plcD L).length := by
  have := (shP_plc L 0 [] hg).1
  rw [List.length_nil, Nat.zero_add] at this
  exact this.symm
theorem unfD_len {L : List EntD} {own : EntD} : ∀ (f x : Nat), (unfD L own f x).length ≤ f + 1
  | 0, _ => by simp [unfD]
  | f + 1, x => by
    unfold unfD
    split
    · simp
    · have := unfD_len (L := L) (own := own) f (own.tree.getD ((unroll own.index).getD x 0 - 1).toNat (0, 0)).2.toNat
      rw [List.length_cons]
      omega
end Go.Proofs.YtffnfjkjlmlonaaGreatDoor
