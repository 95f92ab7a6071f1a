/- The developers' reader of images in memory with the texts that it has read, and the contract of its method file. The contract of the developers' table.Values: the Value of each pc, in a row of the call's own; nothing that was there is written. -/
import Derived.Test.YtffnfjkjlmlonaaGreatDoorZB7
import Derived.Deep.AppendLies
import Derived.Test.YtffnfjkjlmlonaaGreatDoorZB4
namespace Go.Proofs.YtffnfjkjlmlonaaGreatDoor
open Go.RowKit
def strs (l : List ByteArray) : List Value := l.map Value.string
def kT (t : TypeId) : Bool := t == 109 || (t == 112 || (t == 115 || t == 41))
/-- The blocks of spans, nodes, entries and images are as they were. -/
structure KeepT (w w' : World) : Prop where
  size : w.heap.size ≤ w'.heap.size
  block : ∀ (b : Nat) (cs : Array Value) (t : TypeId) (fz : Nat × Nat), w.heap[b]? = some (Obj.cells cs t fz) → kT t = true → w'.heap[b]? = some (Obj.cells cs t fz)
theorem KeepT.refl (w : World) : KeepT w w := ⟨Nat.le_refl _, fun _ _ _ _ h _ => h⟩
theorem KeepT.trans {a b c : World} (h : KeepT a b) (k : KeepT b c) : KeepT a c := ⟨Nat.le_trans h.size k.size, fun b cs t fz hb ht => k.block b cs t fz (h.block b cs t fz hb ht) ht⟩
theorem KeepT.below {w w' : World} (h : Below w.heap.size w w') : KeepT w w' := ⟨h.size, fun b _ _ _ hb _ => (h.block b (Array.getElem?_eq_some_iff.1 hb).1).trans hb⟩
theorem KeepT.only {rb : Nat} {w w' : World} {a : Array Value} {fz : Nat × Nat} (h : OnlyR rb w w') (hk : w.heap[rb]? = some (.cells a 206 fz)) : KeepT w w' :=
  ⟨h.size, fun b cs t fz' hb ht => (h.block b (Array.getElem?_eq_some_iff.1 hb).1 (fun e => by subst e; rw [hk] at hb; cases hb; revert ht; decide)).trans hb⟩
theorem KeepT.alloc {a w : World} (h : KeepT a w) (o : Obj) : KeepT a (w.alloc o) := h.trans (KeepT.below ((Below.refl _ _).alloc (Nat.le_refl _) o))
theorem KeepT.drew {a w : World} (h : KeepT a w) : KeepT a w.drew := ⟨h.size, h.block⟩
theorem KeepT.grown {a w w' : World} {v : Value} {base n size : Nat} {e : TypeId} {xs : List Value} (h : KeepT a w) (hg : w.grownBy w' v.ownBlock) (ho : w.ownsRow base e size v n xs) (he : kT e = false) : KeepT a w' :=
  h.trans ⟨hg.size, fun b cs t fz hb ht => (hg.block b (Array.getElem?_eq_some_iff.1 hb).1 (owns_other ho hb (by rintro rfl; rw [he] at ht; cases ht))).trans hb⟩
theorem KeepT.setCell {a w : World} {rb : Nat} {cs : Array Value} {fz : Nat × Nat} (h : KeepT a w) (hk : w.heap[rb]? = some (.cells cs 206 fz)) (j : Nat) (u : Value) : KeepT a (w.setCell ⟨rb, j, none⟩ u) :=
  h.trans (KeepT.only ((OnlyR.refl rb w).setCell j u) hk)
theorem ownsRow_block {w w' : World} {base : Nat} {e : TypeId} {size : Nat} {v : Value} {n : Nat} {xs : List Value} (h : w.ownsRow base e size v n xs) (hb : ∀ k, v.ownBlock = some k → k < w.heap.size → w'.heap[k]? = w.heap[k]?) : w'.ownsRow base e size v n xs := by
  refine ⟨h.1, ?_⟩
  rcases h.2 with hn | ⟨g, cap, cur, rfl, hg, hh, r⟩
  · exact .inl hn
  · exact .inr ⟨g, cap, cur, rfl, hg, (hb g rfl (Array.getElem?_eq_some_iff.1 hh).1).trans hh, r⟩
theorem rdT_of_owns {w : World} {base n : Nat} {v : Value} {l : List ByteArray} (h : w.ownsRow base 9 1 v n (strs l)) (hl : l.length = n) (hs : ∀ x ∈ l, x.size ≤ 20) : ∃ a cap, v = .slice a n cap ∧ RdT w a n cap l ∧ (∀ q, a = some q → v.ownBlock = some q.block) := by
  rcases h.2 with ⟨rfl, rfl⟩ | ⟨g, cap, cur, rfl, hg, hh, h1, h2, h3, h4⟩
  · exact ⟨none, 0, rfl, ⟨hl, Nat.le_refl _, by unfold maxLen; omega, fun i x hx => by have : l = [] := List.length_eq_zero_iff.1 hl; rw [this] at hx; simp at hx⟩, fun q hq => by cases hq⟩
  · refine ⟨some ⟨g, 0, none⟩, cap, rfl, ⟨hl, h1, h2, fun i x hx => ⟨g, 0, [.string x], rfl, rfl, fun j v hj => ?_, rfl, by have := hs x (List.mem_of_getElem? hx); unfold maxLen; omega⟩⟩, fun q hq => by cases hq; rfl⟩
    have hj0 : j = 0 := by
      cases j with
      | zero => rfl
      | succ j => simp at hj
    subst hj0
    simp at hj
    subst hj
    have hi : i < l.length := (List.getElem?_eq_some_iff.1 hx).1
    have hc := World.ownsRow.cellAt (w := w) ⟨h.1, .inr ⟨g, cap, cur, rfl, hg, hh, h1, h2, h3, h4⟩⟩ i (by omega)
    have e : 0 + i * 1 + 0 = i := by omega
    rw [e, hc]
    simp [strs, hx]
/-- The reader s over the bytes lies in the box rb. -/
def RdrAt (w0 : World) (b : Value) (rb : Nat) (w : World) (s : RsD) : Prop :=
  ∃ nv fv, w.heap[rb]? = some (.cells (rdA b s nv fv) 206 (0, 0)) ∧ Below w0.heap.size w0 w ∧ w0.heap.size ≤ rb ∧ w.ownsRow w0.heap.size 9 1 nv s.names.length (strs s.names) ∧ w.ownsRow w0.heap.size 9 1 fv s.files.length (strs s.files) ∧
    (∀ k, nv.ownBlock = some k → fv.ownBlock ≠ some k) ∧ (∀ x ∈ s.names, x.size ≤ 20) ∧ (∀ x ∈ s.files, x.size ≤ 20)
theorem owns_ne {w : World} {base rb : Nat} {v : Value} {n : Nat} {xs : List Value} {a : Array Value} {fz : Nat × Nat} (h : w.ownsRow base 9 1 v n xs) (hk : w.heap[rb]? = some (.cells a 206 fz)) : v.ownBlock ≠ some rb :=
  fun e => owns_other h hk (by decide) e.symm
theorem RdrAt.only {w0 : World} {b : Value} {rb : Nat} {w w' : World} {s s' : RsD} {nv fv : Value} (hk : w.heap[rb]? = some (.cells (rdA b s nv fv) 206 (0, 0))) (hb : Below w0.heap.size w0 w) (hrb : w0.heap.size ≤ rb) (hn : w.ownsRow w0.heap.size 9 1 nv s.names.length (strs s.names)) (hf : w.ownsRow w0.heap.size 9 1 fv s.files.length (strs s.files))
    (hd : ∀ k, nv.ownBlock = some k → fv.ownBlock ≠ some k) (hs1 : ∀ x ∈ s.names, x.size ≤ 20) (hs2 : ∀ x ∈ s.files, x.size ≤ 20) (ho : OnlyR rb w w') (hk' : w'.heap[rb]? = some (.cells (rdA b s' nv fv) 206 (0, 0))) (e1 : s'.names = s.names) (e2 : s'.files = s.files) : RdrAt w0 b rb w' s' := by
  have hlt := OnlyR.lt hk
  refine ⟨nv, fv, hk', hb.trans (ho.toBelow hrb hlt), hrb, ?_, ?_, hd, by rw [e1]; exact hs1, by rw [e2]; exact hs2⟩
  · rw [e1]; exact ownsRow_block hn (fun k hk1 hk2 => ho.block k hk2 (fun e => owns_ne hn hk (e ▸ hk1)))
  · rw [e2]; exact ownsRow_block hf (fun k hk1 hk2 => ho.block k hk2 (fun e => owns_ne hf hk (e ▸ hk1)))
theorem rTake_nf (s : RsD) (b : Bool) : (rTake s b).names = s.names ∧ (rTake s b).files = s.files ∧ (rTake s b).room = s.room := by
  unfold rTake; split <;> (try split) <;> exact ⟨rfl, rfl, rfl⟩
theorem rNum_nf (bs : List Int) (s : RsD) : (rNum bs s).2.names = s.names ∧ (rNum bs s).2.files = s.files ∧ (rNum bs s).2.room = s.room := by
  unfold rNum; split <;> exact ⟨rfl, rfl, rfl⟩
theorem rTab_nf (bs : List Int) (s : RsD) : (rTab bs s).2.names = s.names ∧ (rTab bs s).2.files = s.files ∧ (rTab bs s).2.room = s.room := by
  unfold rTab; split <;> exact ⟨rfl, rfl, rfl⟩
theorem rByt_nf (bs : List Int) (s : RsD) (n : Int) : (rByt bs s n).2.names = s.names ∧ (rByt bs s n).2.files = s.files ∧ (rByt bs s n).2.room = s.room := by
  unfold rByt; split <;> (try split) <;> exact ⟨rfl, rfl, rfl⟩
theorem rText_nf (bs : List Int) (s : RsD) (l : List ByteArray) : (rText bs s l).2.names = s.names ∧ (rText bs s l).2.files = s.files ∧ (rText bs s l).2.room = s.room := by
  unfold rText
  simp only
  refine ⟨?_, ?_, ?_⟩
  · rw [(rTake_nf _ _).1, (rByt_nf _ _ _).1, (rTake_nf _ _).1, (rNum_nf _ _).1]
  · rw [(rTake_nf _ _).2.1, (rByt_nf _ _ _).2.1, (rTake_nf _ _).2.1, (rNum_nf _ _).2.1]
  · rw [(rTake_nf _ _).2.2, (rByt_nf _ _ _).2.2, (rTake_nf _ _).2.2, (rNum_nf _ _).2.2]
theorem rText_size (bs : List Int) (s : RsD) (l : List ByteArray) : (rText bs s l).1.size ≤ 20 := by
  unfold rText
  exact rByt_size (fun h => of_decide_eq_true (rTake_ok h).2.1)
theorem Tryz.infoString : (Tryz.prog.info? 9).map (fun i => (i.zero, i.size, i.bytes)) = some (some (.string ⟨#[]⟩), 1, 16) := by kernel_rfl
set_option maxHeartbeats 2000000 in
set_option maxRecDepth 100000 in
theorem rfile_any (w0 : World) (ba : Option Addr) (blen bcap : Nat) (bs : List Int) (rb : Nat) (s : RsD) (w : World) (hR : RdrAt w0 (.slice ba blen bcap) rb w s) (hb0 : Rd .u8 w0 ba blen bcap bs) (hne : ∀ q, ba = some q → q.block < w0.heap.size) (hx : ∀ j, 0 ≤ bs.getD j 0 ∧ bs.getD j 0 ≤ 255) (hi : InvR bs s) (hfl : s.files.length ≤ 100) :
    Calls Tryz.prog 205 #[.pointer (some ⟨rb, 0, none⟩)] w fun e w' => e = .returned (.string (rFile bs s).1) ∧ RdrAt w0 (.slice ba blen bcap) rb w' (rFile bs s).2 ∧ KeepT w w' ∧ (rFile bs s).1.size ≤ 20 := by
  obtain ⟨nv, fv, hk, hb, hrb, hnv, hfv, hd, hs1, hs2⟩ := hR
  have hlt := OnlyR.lt hk
  have hbw : Rd .u8 w ba blen bcap bs := hb0.below hb (Nat.le_refl _)
  have hner : ∀ q, ba = some q → q.block ≠ rb := fun q hq => by have := hne q hq; omega
  obtain ⟨fa, fcap, hfe, hft, hfq⟩ := rdT_of_owns hfv rfl hs2
  have hfn : ∀ q, fa = some q → q.block ≠ rb := fun q hq e => owns_ne hfv hk (by rw [← e]; exact hfq q hq)
  have hn0 := (rNum_inv hx hi).2
  have hi2 : InvR bs (rTake (rNum bs s).2 (decide ((rNum bs s).1 ≤ (s.files.length : Int)))) := rTake_inv (rNum_inv hx hi).1 _
  have hnf2 : (rTake (rNum bs s).2 (decide ((rNum bs s).1 ≤ (s.files.length : Int)))).names = s.names ∧ (rTake (rNum bs s).2 (decide ((rNum bs s).1 ≤ (s.files.length : Int)))).files = s.files := by
    rw [(rTake_nf _ _).1, (rTake_nf _ _).2.1, (rNum_nf _ _).1, (rNum_nf _ _).2.1]; exact ⟨rfl, rfl⟩
  have HN := hid (rnumber_any rb ba blen bcap bs nv fv s w hk hbw hx)
  have HX : Hid (rFile bs s = _) := hid (show rFile bs s = if (rNum bs s).1 < (s.files.length : Int) then (s.files.getD (rNum bs s).1.toNat ByteArray.empty, rTake (rNum bs s).2 (decide ((rNum bs s).1 ≤ (s.files.length : Int)))) else ((rText bs (rTake (rNum bs s).2 (decide ((rNum bs s).1 ≤ (s.files.length : Int)))) s.files).1, { (rText bs (rTake (rNum bs s).2 (decide ((rNum bs s).1 ≤ (s.files.length : Int)))) s.files).2 with files := s.files ++ [(rText bs (rTake (rNum bs s).2 (decide ((rNum bs s).1 ≤ (s.files.length : Int)))) s.files).1] }) from rfl)
  obtain ⟨⟨n, s1⟩, hn⟩ : ∃ p, rNum bs s = p := ⟨_, rfl⟩
  rw [hn] at HN HX hn0 hi2 hnf2
  simp only at HN HX hn0 hi2 hnf2
  have HT := hid (fun (W : World) (h : W.heap[rb]? = some (.cells (rdA (.slice ba blen bcap) s1 nv fv) 206 (0, 0))) => take_any rb (.slice ba blen bcap) nv fv s1 (decide (n ≤ (s.files.length : Int))) W h)
  obtain ⟨s2, hs2e⟩ : ∃ p, rTake s1 (decide (n ≤ (s.files.length : Int))) = p := ⟨_, rfl⟩
  rw [hs2e] at HT HX hi2 hnf2
  have HONLY := hid (fun (W : World) (s' : RsD) (ho : OnlyR rb w W) (hk' : W.heap[rb]? = some (.cells (rdA (.slice ba blen bcap) s' nv fv) 206 (0, 0))) e1 e2 => RdrAt.only (s' := s') hk hb hrb hnv hfv hd hs1 hs2 ho hk' e1 e2)
  obtain ⟨fl, hfl'⟩ : ∃ v, v = s.files.length := ⟨_, rfl⟩
  have HFL := hid hfl'
  rw [← hfl'] at HT HX hft hfe hfl
  subst hfe
  have hfc := hft.2.1
  have hfm := hft.2.2.1
  unfold maxLen at hfm
  have HFT := hid hft
  have HK := hid hk
  have HBW := hid hbw
  have HNV := hid hnv
  have HFV := hid hfv
  have HD := hid hd
  have HB := hid hb
  by_cases hlt2 : n < (fl : Int)
  · have HF : Hid (rFile bs s = (s.files.getD n.toNat ByteArray.empty, s2)) := by show _ = _; rw [HX.out, if_pos hlt2]
    obtain ⟨N, rfl⟩ := Int.eq_ofNat_of_zero_le hn0
    have hNl : N < fl := by omega
    have hle : decide ((N : Int) ≤ (fl : Int)) = true := by simp; omega
    rw [hle] at HT
    clear hle
    have hle2 : N ≤ fl := by omega
    obtain ⟨y, hy⟩ : ∃ y, s.files[N]? = some y := ⟨_, List.getElem?_eq_getElem (by rw [← HFL.out]; exact hNl)⟩
    have hyd : s.files.getD ((N : Int)).toNat ByteArray.empty = y := by simp [List.getD, hy]
    have HY := hid hyd
    have hy20 : y.size ≤ 20 := hs2 y (List.mem_of_getElem? hy)
    obtain ⟨fb, foff, rfl, d0, _⟩ := hft.at N y hy
    have hfbr : fb ≠ rb := hfn _ rfl
    have HD0 := hid d0
    clear hk hb hnv hfv hd hft hfn hn hs2e hfl' hbw hy hyd d0 HX HBW HFT hn0 hi hi2 hs1 hs2
    go_enter Tryz.func205, Tryz.ntmps205
    go_wp2_with fail
    refine HN.out.mono ?_
    rintro e w1 ⟨rfl, o1, k1⟩
    have q1 : w1.cell? ⟨rb, 5, none⟩ = some (.slice (some ⟨fb, foff, none⟩) fl fcap) := by simp [World.cell?, k1, rdA]
    go_wp2_with fail
    refine (HT.out w1 k1).mono ?_
    rintro e w2 ⟨rfl, o2, k2⟩
    have q2 : w2.cell? ⟨rb, 5, none⟩ = some (.slice (some ⟨fb, foff, none⟩) fl fcap) := by simp [World.cell?, k2, rdA]
    have d2 : w2.cell? ⟨fb, foff + N, none⟩ = some (.string y) := (o1.trans o2).cell (q := ⟨fb, foff + N, none⟩) hfbr HD0.out
    go_wp2
    go_ret
    rw [HF.out]
    simp only
    rw [HY.out]
    exact ⟨rfl, HONLY.out w2 s2 (o1.trans o2) k2 hnf2.1 hnf2.2, KeepT.only (o1.trans o2) HK.out, hy20⟩
  · have hlt2' : decide (n < (fl : Int)) = false := by simpa using hlt2
    have HF0 := HX.out
    rw [if_neg hlt2] at HF0
    have hsz := rText_size bs s2 s.files
    have hnf := rText_nf bs s2 s.files
    obtain ⟨⟨str, s3⟩, hs3⟩ : ∃ p, rText bs s2 s.files = p := ⟨_, rfl⟩
    have HTX := hid (fun (W : World) (h : W.heap[rb]? = some (.cells (rdA (.slice ba blen bcap) s2 nv (.slice fa fl fcap)) 206 (0, 0))) (hb' : Rd .u8 W ba blen bcap bs) (ht' : RdT W fa fl fcap s.files) => rtext_any rb ba blen bcap bs nv (.slice fa fl fcap) s2 fa fl fcap s.files W h hb' hner hx hi2 ht' hfn)
    rw [hs3] at HTX HF0 hsz hnf
    simp only at HTX HF0 hsz hnf
    have HF := hid HF0
    have HNF := hid hnf
    obtain ⟨i0, hif, hz0, hz1, hz2⟩ := info_parts Tryz.infoString
    clear hk hb hnv hfv hd hft hn hs2e hfl' hbw hs3 HX HF0 hn0 hi hi2 hnf
    go_enter Tryz.func205, Tryz.ntmps205
    go_wp2_with fail
    refine HN.out.mono ?_
    rintro e w1 ⟨rfl, o1, k1⟩
    have q1 : w1.cell? ⟨rb, 5, none⟩ = some (.slice fa fl fcap) := by simp [World.cell?, k1, rdA]
    go_wp2_with fail
    refine (HT.out w1 k1).mono ?_
    rintro e w2 ⟨rfl, o2, k2⟩
    have q2 : w2.cell? ⟨rb, 5, none⟩ = some (.slice fa fl fcap) := by simp [World.cell?, k2, rdA]
    go_wp2_with fail
    refine (HTX.out w2 k2 (HBW.out.only (o1.trans o2) hner) (HFT.out.only (o1.trans o2) hfn)).mono ?_
    rintro e w3 ⟨rfl, o3, k3⟩
    have o13 := (o1.trans o2).trans o3
    have q3 : w3.cell? ⟨rb, 5, none⟩ = some (.slice fa fl fcap) := by simp [World.cell?, k3, rdA]
    have hr3 := OnlyR.lt k3
    have hfv3 : w3.ownsRow w0.heap.size 9 1 (.slice fa fl fcap) fl (strs s.files) := by
      rw [HFL.out] at HFV ⊢
      exact ownsRow_block HFV.out (fun k hk1 hk2 => o13.block k hk2 (fun e => owns_ne HFV.out HK.out (e ▸ hk1)))
    have hnv3 : w3.ownsRow w0.heap.size 9 1 nv s.names.length (strs s.names) := ownsRow_block HNV.out (fun k hk1 hk2 => o13.block k hk2 (fun e => owns_ne HNV.out HK.out (e ▸ hk1)))
    have HF3 := hid hfv3
    have HN3 := hid hnv3
    have hw03 : w0.heap.size ≤ w3.heap.size := Nat.le_trans HB.out.size o13.size
    clear hfv3 hnv3 q1 q2
    go_wp2_with (at_builtin; refine wpList_append_lies _ rfl (.tmp 40) (.tmp 42) 138 rfl w0.heap.size 9 i0 (.string ⟨#[]⟩) 1 16 Tryz.underlying138 hif hz0 hz1 hz2 rfl (by decide) _ _ _ rfl (HF3.out.alloc _) ⟨w3.heap.size, 0, none⟩ 1 1 [.string str] rfl rfl (cell_one_new _ _ _) (fun u hu => by rw [List.mem_singleton.1 hu]; rfl) (by decide) (by unfold maxLen; omega) (by omega) (by simp; omega) _ rfl ?_)
    intro g cap w5 hown5 hgrow5 hat5 hlt5
    have hner5 : (Value.slice fa fl fcap).ownBlock ≠ some rb := owns_ne HF3.out k3
    have k5 : w5.heap[rb]? = _ := (hgrow5.block rb (by simp; omega) (fun e => hner5 e.symm)).trans ((heap_alloc_old _ _ hr3).trans k3)
    have z5 : w5.cell? ⟨rb, 5, none⟩ = some (.slice fa fl fcap) := by simp [World.cell?, k5, rdA]
    have f5 : w5.frozen? ⟨rb, 5, none⟩ = false := by simp [World.frozen?, k5, rdA]
    have hgne : g ≠ rb := by
      rcases hat5 with h | h
      · intro e; subst e; exact hner5 h
      · intro e; have h2 : g = w3.heap.size + 1 := h.trans (by simp); omega
    have HFIN : Hid (RdrAt w0 (.slice ba blen bcap) rb (w5.setCell ⟨rb, 5, none⟩ (.slice (some ⟨g, 0, none⟩) (fl + 1) cap)) { s3 with files := s.files ++ [str] } ∧ KeepT w (w5.setCell ⟨rb, 5, none⟩ (.slice (some ⟨g, 0, none⟩) (fl + 1) cap))) := by
      have hb3 : Below w0.heap.size w0 w3 := HB.out.trans (o13.toBelow hrb hlt)
      have hb5 : Below w0.heap.size w0 w5 := (hb3.alloc (by omega) _).grown hgrow5 (by simp; omega) (fun k hk => (HF3.out.lt k hk).1)
      refine ⟨⟨nv, .slice (some ⟨g, 0, none⟩) (fl + 1) cap, ?_, hb5.setCell (p := ⟨rb, 5, none⟩) hrb _, hrb, ?_, ?_, ?_, ?_, ?_⟩, ?_⟩
      · rw [heap_setCell_same w5 rb 5 _ _ _ k5]; rfl
      · simp only
        rw [HNF.out.1, hnf2.1]
        refine ownsRow_setCell_other (ownsRow_block HN3.out (fun k hk1 hk2 => ?_)) (owns_ne HN3.out k3) _
        refine (hgrow5.block k (by simp; omega) (fun e => HD.out k hk1 e.symm)).trans (heap_alloc_old _ _ hk2)
      · simp only
        have e1 : (s.files ++ [str]).length = fl + 1 := by simp [HFL.out]
        have e2 : strs (s.files ++ [str]) = strs s.files ++ [.string str] := by simp [strs]
        rw [e1, e2]
        exact ownsRow_setCell_other hown5 (by simp [Value.ownBlock]; exact hgne) _
      · intro k hk1 hk2
        have hkg : k = g := by simp [Value.ownBlock] at hk2; exact hk2.symm
        subst hkg
        rcases hat5 with h | h
        · exact HD.out k hk1 h
        · have h2 : k = w3.heap.size + 1 := h.trans (by simp)
          have := (HN3.out.lt k hk1).2
          omega
      · simp only
        rw [HNF.out.1, hnf2.1]; exact hs1
      · simp only
        intro x hxm
        rcases List.mem_append.1 hxm with hm | hm
        · exact hs2 x hm
        · rw [List.mem_singleton.1 hm]; exact hsz
      · exact (KeepT.grown ((KeepT.only o13 HK.out).alloc _) hgrow5 (HF3.out.alloc _) (by decide)).setCell k5 5 _
    clear hown5 hgrow5 hat5 k5 HF3 HN3
    go_wp2
    go_ret
    rw [HF.out]
    exact ⟨rfl, HFIN.out.1, HFIN.out.2, hsz⟩
end Go.Proofs.YtffnfjkjlmlonaaGreatDoor
namespace Go.Proofs.YtffnfjkjlmlonaaGreatDoor
open Go.RowKit
def i64s (l : List Int) : List Value := l.map (Value.int .i64)
theorem i64s_snoc (l : List Int) (x : Int) : i64s (l ++ [x]) = i64s l ++ [.int .i64 x] := by simp [i64s]
theorem unroll_take {l : List (Int × Int)} {k : Nat} (h : k < l.length) : unroll (l.take (k + 1)) = unroll (l.take k) ++ List.replicate (l.getD k (0, 0)).2.toNat (l.getD k (0, 0)).1 := by
  rw [List.take_succ_eq_append_getElem h, unroll_snoc]
  simp [List.getD, h]
theorem unroll_len {l : List (Int × Int)} : ∀ (b r : Int) (k : Nat), wfS l b r = true → 0 ≤ r → k ≤ l.length → ((unroll (l.take k)).length : Int) = sumS (l.take k) := by
  intro b r k h hr
  induction k with
  | zero => intro _; simp [unroll, sumS]
  | succ k ih =>
    intro hk
    have g := sum_take (l := l) b r k h hr (by omega)
    rw [unroll_take (by omega), List.length_append, List.length_replicate, g.2.2.2.1]
    have := ih (by omega)
    omega
theorem Tryz.infoInt64 : (Tryz.prog.info? 3).map (fun i => (i.zero, i.size, i.bytes)) = some (some (.int .i64 0), 1, 8) := by kernel_rfl
theorem unroll_all_len {l : List (Int × Int)} (h : wfS l (-1) 1000 = true) : ((unroll l).length : Int) = sumS l ∧ sumS l ≤ 1000 := by
  have h1 := unroll_len (l := l) (-1) 1000 l.length h (by omega) (Nat.le_refl _)
  rw [List.take_length] at h1
  refine ⟨h1, ?_⟩
  cases hl : l.length with
  | zero => rw [List.length_eq_zero_iff.1 hl]; simp [sumS]
  | succ n =>
    have g := sum_take (l := l) (-1) 1000 n h (by omega) (by omega)
    have e : l.take (n + 1) = l := List.take_of_length_le (by omega)
    rw [e] at g
    omega
set_option maxHeartbeats 2000000 in
set_option maxRecDepth 100000 in
theorem values_any (a : Option Addr) (len cap : Nat) (l : List (Int × Int)) (w : World) (hr : RdS w a len cap l) (hwf : wfS l (-1) 1000 = true) :
    Calls Tryz.prog 210 #[.slice a len cap] w fun e w' => ∃ v, e = .returned v ∧ w'.ownsRow w.heap.size 3 1 v (unroll l).length (i64s (unroll l)) ∧ Below w.heap.size w w' := by
  have HL := hid hr.hlen
  have hmax := hr.hmax
  have hcap := hr.hcap
  unfold maxLen at hmax
  obtain ⟨i0, hif, hz0, hz1, hz2⟩ := info_parts Tryz.infoInt64
  go_enter Tryz.func210, Tryz.ntmps210
  go_wp2
  go_loopw [3, 9] (fun v i wr => ∃ k : Nat, i = .int .i64 k ∧ k ≤ len ∧ wr.ownsRow w.heap.size 3 1 v (unroll (l.take k)).length (i64s (unroll (l.take k))) ∧ Below w.heap.size w wr) (fun _ i _ => len - (intOf i).toNat)
  case atStart => exact ⟨0, rfl, by omega, by simpa [unroll, i64s] using World.ownsRow_nil _ _ _ _, Below.refl _ _⟩
  case round =>
    obtain ⟨k, rfl, hk, hown, hbel⟩ := hrel
    have hsz := hbel.size
    by_cases hlt : k < len
    · obtain ⟨b0, off, rfl, hc⟩ := (hr.below hbel (Nat.le_refl _)).open (by omega)
      obtain ⟨hc1, hc2⟩ := hc k hlt
      have hb0 := World.block_lt_of_cell? wr _ hc1
      have hkl : k < l.length := by rw [HL.out]; exact hlt
      obtain ⟨g1, g2, g3, g4, _⟩ := sum_take (l := l) (-1) 1000 k hwf (by omega) hkl
      have hul := unroll_len (l := l) (-1) 1000 k hwf (by omega) (by omega)
      have HU := hid (unroll_take (l := l) (k := k) hkl)
      obtain ⟨⟨v, n⟩, hp⟩ : ∃ p, l.getD k (0, 0) = p := ⟨_, rfl⟩
      rw [hp] at hc1 hc2 g2 g3 HU
      simp only at hc1 hc2 hb0 g2 g3 HU
      obtain ⟨N, rfl⟩ := Int.eq_ofNat_of_zero_le (show 0 ≤ n by omega)
      obtain ⟨U, hU⟩ : ∃ U, U = unroll (l.take k) := ⟨_, rfl⟩
      rw [← hU] at hown hul HU
      have hUl : U.length + N ≤ 1000 := by omega
      have HBEL := hid hbel
      have HOWN := hid hown
      have HHR := hid hr
      have hsz1 : w.heap.size < wr.heap.size + 1 := by omega
      clear hr hc hp hwf hul hU g1 g2 g3 g4 hown hbel
      generalize wr = w1 at *
      go_wp2
      go_loopw [3, 6] (fun vv i wr => ∃ j : Nat, i = .int .i64 j ∧ j ≤ N ∧ wr.ownsRow w.heap.size 3 1 vv (U.length + j) (i64s (U ++ List.replicate j v)) ∧ Below w.heap.size w wr ∧ wr.heap[w1.heap.size]? = some (.cells #[.int .i64 v, .int .i64 N] 109 (0, 0))) (fun _ i _ => N - (intOf i).toNat)
      case atStart => exact ⟨0, rfl, by omega, by simpa using HOWN.out.alloc _, HBEL.out.alloc hsz _, heap_alloc_new _ _⟩
      case round =>
        clear HOWN HBEL hc1 hc2
        obtain ⟨j, rfl, hj, hown, hbel, hsb⟩ := hrel
        have e0 : wr.cell? ⟨w1.heap.size, 0, none⟩ = some (.int .i64 v) := by simp [World.cell?, hsb]
        have e1 : wr.cell? ⟨w1.heap.size, 1, none⟩ = some (.int .i64 N) := by simp [World.cell?, hsb]
        obtain ⟨va, vcap, rfl, hv1, hv2⟩ := owns_form hown
        by_cases hjn : j < N
        · have hjn' : (j : Int) < (N : Int) := by omega
          have HOWN := hid hown
          have HBEL := hid hbel
          have HSB := hid hsb
          have hlt2 : w1.heap.size < wr.heap.size := (Array.getElem?_eq_some_iff.1 hsb).1
          clear hown hbel hsb
          go_wp2_with (at_builtin; refine wpList_append_lies _ rfl (.tmp 19) (.tmp 22) 35 rfl w.heap.size 3 i0 (.int .i64 0) 1 8 Tryz.underlying35 hif hz0 hz1 hz2 rfl (by decide) _ _ _ rfl (HOWN.out.alloc _) ⟨wr.heap.size, 0, none⟩ 1 1 [.int .i64 v] rfl rfl (cell_one_new _ _ _) (fun u hu => by rw [List.mem_singleton.1 hu]; rfl) (by decide) (by unfold maxLen; omega) (by omega) (by simp; omega) _ rfl ?_)
          intro g cap' w5 hown5 hgrow5 hat5 hlt5
          have hne5 : some w1.heap.size ≠ (Value.slice va (U.length + j) vcap).ownBlock := owns_other HOWN.out HSB.out (by decide)
          have HR5 : Hid (w5.ownsRow w.heap.size 3 1 (.slice (some ⟨g, 0, none⟩) (U.length + j + 1) cap') (U.length + (j + 1)) (i64s (U ++ List.replicate (j + 1) v)) ∧ Below w.heap.size w w5 ∧ w5.heap[w1.heap.size]? = some (.cells #[.int .i64 v, .int .i64 N] 109 (0, 0))) := by
            refine ⟨?_, (HBEL.out.alloc (by omega) _).grown hgrow5 (by simp; omega) (fun q hq => (HOWN.out.lt q hq).1), (hgrow5.block w1.heap.size (by simp; omega) hne5).trans ((heap_alloc_old _ _ hlt2).trans HSB.out)⟩
            have e3 : U ++ List.replicate (j + 1) v = (U ++ List.replicate j v) ++ [v] := by rw [List.replicate_succ', List.append_assoc]
            rw [e3, i64s_snoc]
            exact hown5
          clear hown5 hgrow5 hat5 hne5 HOWN HBEL HSB e0 e1
          go_wp2
          go_roundw
          case rel => exact ⟨j + 1, by go_num, by omega, HR5.out.1, HR5.out.2.1, HR5.out.2.2⟩
          case measure => simp [intOf]; omega
        · have hjn' : decide ((j : Int) < (N : Int)) = false := by simp; omega
          have hje : j = N := by omega
          have HREL : Hid (wr.ownsRow w.heap.size 3 1 (.slice va (U.length + j) vcap) (unroll (l.take (k + 1))).length (i64s (unroll (l.take (k + 1)))) ∧ Below w.heap.size w wr) := by
            refine ⟨?_, hbel⟩
            rw [HU.out]
            subst hje
            simpa using hown
          go_wp2
          go_roundw
          case rel => exact ⟨k + 1, by go_num, by omega, HREL.out.1, HREL.out.2⟩
          case measure => simp [intOf]; omega
    · have hk' : k = len := by omega
      subst hk'
      have htk : l.take k = l := List.take_of_length_le (by rw [HL.out]; omega)
      rw [htk] at hown
      go_wp2
      go_ret
      exact ⟨_, rfl, hown, hbel⟩
end Go.Proofs.YtffnfjkjlmlonaaGreatDoor
