/- The contract of the reference's Check: it gives the plain function chk; nothing that was there is written. -/
import Derived.Test.YtooinlilplecpaaGreatDoorC3
namespace Go.Proofs.YtooinlilplecpaaGreatDoor
open Go.RowKit

theorem chkB_at (p : List FnD) (x : FnD) (f s : Nat) (o : OpD) (h : x.body[s]? = some o) : chkB p x f (x.body.drop s) s = if opB p x s o = true then chkB p x f (x.body.drop (s + 1)) (s + 1) else some (7, (f : Int), (s : Int)) := by
  obtain ⟨hs, e⟩ := List.getElem?_eq_some_iff.1 h
  rw [List.drop_eq_getElem_cons hs, e]
  rfl
theorem chkF_at (p : List FnD) (f : Nat) (x : FnD) (h : p[f]? = some x) : chkF p (p.drop f) f = if headB p f x = true then (match chkB p x f x.body 0 with | some e => e | none => chkF p (p.drop (f + 1)) (f + 1)) else (6, (f : Int), 0) := by
  obtain ⟨hf, e⟩ := List.getElem?_eq_some_iff.1 h
  rw [List.drop_eq_getElem_cons hf, e]
  rfl

theorem ret_chk {q : Int × Int × Int} {a b c : Int} (h : q = (a, b, c)) : Ending.returned (.tuple #[.int .i64 a, .int .i64 b, .int .i64 c]) = .returned (.tuple #[.int .i64 q.1, .int .i64 q.2.1, .int .i64 q.2.2]) := by rw [h]

set_option maxHeartbeats 4000000 in
set_option maxRecDepth 100000 in
theorem refCheck_any (a : Option Addr) (len cap : Nat) (p : List FnD) (w : World) (hr : RdP w a len cap p) :
    Calls Tryz.prog 47 #[.agg #[.slice a len cap]] w fun e w' => e = .returned (.tuple #[.int .i64 (chk p).1, .int .i64 (chk p).2.1, .int .i64 (chk p).2.2]) ∧ Below w.heap.size w w' := by
  have HL := hid hr.len
  have hcap := hr.2.1
  have hmax := hr.2.2.1
  unfold maxLen at hmax
  by_cases h0 : len = 0
  · have HF : Hid (chk p = (5, 0, 0)) := by show _ = _; unfold chk; rw [if_pos (by rw [HL.out]; omega)]
    have h0' : ((len : Int) == 0) = true := by simp; omega
    go_enter Tryz.func47, Tryz.ntmps47
    go_wp2
    go_ret3
    exact ⟨ret_chk HF.out, (Below.refl _ _).alloc (Nat.le_refl _) _⟩
  · have h0' : ((len : Int) == 0) = false := by simp; omega
    by_cases h12 : 12 < len
    · have HF : Hid (chk p = (5, 0, 0)) := by show _ = _; unfold chk; rw [if_pos (by rw [HL.out]; omega)]
      have h12' : (12 : Int) < (len : Int) := by omega
      go_enter Tryz.func47, Tryz.ntmps47
      go_wp2
      go_ret3
      exact ⟨ret_chk HF.out, (Below.refl _ _).alloc (Nat.le_refl _) _⟩
    · have h12' : decide ((12 : Int) < (len : Int)) = false := by simp; omega
      have HC : Hid (chk p = chkF p (p.drop 0) 0) := by show _ = _; unfold chk; rw [if_neg (by rw [HL.out]; omega)]; rfl
      have HH := hid (fun (W : World) (f : Nat) (x : FnD) (hW : Below w.heap.size w W) (hx : p[f]? = some x) => goodHead_any a len cap p f x W (hr.below hW) hx)
      have HG := hid (fun (W : World) (f s : Nat) (x : FnD) (o : OpD) (hW : Below w.heap.size w W) (hx : p[f]? = some x) (ho : x.body[s]? = some o) => goodOp_any a len cap p f s x o W (hr.below hW) hx ho)
      go_enter Tryz.func47, Tryz.ntmps47
      go_wp2
      go_loopw [6, 7, 8] (fun i _ _ wr => ∃ f : Nat, i = .int .i64 f ∧ f ≤ len ∧ chk p = chkF p (p.drop f) f ∧ Below w.heap.size w wr) (fun i _ _ _ => len - (intOf i).toNat)
      case atStart => exact ⟨0, rfl, by omega, HC.out, (Below.refl _ _).alloc (Nat.le_refl _) _⟩
      case round =>
        clear HC
        obtain ⟨f, rfl, hf, hC, hbel⟩ := hrel
        have HC := hid hC
        clear hC
        by_cases hlt : f < len
        · obtain ⟨x, hx⟩ : ∃ x, p[f]? = some x := ⟨_, List.getElem?_eq_getElem (by rw [HL.out]; exact hlt)⟩
          have hstep := HC.out.trans (chkF_at p f x hx)
          have hhead := HH.out wr f x hbel hx
          cases hhb : headB p f x with
          | false =>
            rw [hhb] at hstep hhead
            have HF : Hid (chk p = (6, (f : Int), 0)) := by show _ = _; rw [hstep]; rfl
            have HHEAD := hid hhead
            clear hstep hhead hhb
            go_wp2_with (go_at_call 93; refine HHEAD.out.mono ?_; rintro e w1 ⟨rfl, hb1⟩)
            go_ret3
            exact ⟨ret_chk HF.out, hbel.trans (hb1.mono hbel.size)⟩
          | true =>
            rw [hhb] at hstep hhead
            rw [if_pos rfl] at hstep
            have HS := hid hstep
            have HHEAD := hid hhead
            clear hstep hhead hhb
            go_wp2_with (go_at_call 93; refine HHEAD.out.mono ?_; rintro e w1 ⟨rfl, hb1⟩)
            have hbel1 := hbel.trans (hb1.mono hbel.size)
            clear HHEAD hb1 hbel
            go_loopw [7, 8] (fun _ i wr => ∃ s : Nat, i = .int .i64 s ∧ s ≤ x.body.length ∧ chkB p x f x.body 0 = chkB p x f (x.body.drop s) s ∧ Below w.heap.size w wr) (fun _ i _ => x.body.length - (intOf i).toNat)
            case atStart => exact ⟨0, rfl, by omega, rfl, hbel1⟩
            case round =>
              clear hbel1
              obtain ⟨s, rfl, hs, hB, hbel⟩ := hrel
              have HB := hid hB
              clear hB
              obtain ⟨b, off, ba, bcap, rfl, _, _, _, _, _, c4, hrb, _, _⟩ := (hr.below hbel).at f x hx
              have hbl1 := hrb.2.1
              have hbl2 := hrb.2.2.1
              unfold maxLen at hbl2
              clear hrb
              obtain ⟨nb, hnb⟩ : ∃ nb, nb = x.body.length := ⟨_, rfl⟩
              rw [← hnb] at c4 hbl1 hs ⊢
              have HNB := hid hnb
              clear hnb
              by_cases hsl : s < nb
              · obtain ⟨o, ho⟩ : ∃ o, x.body[s]? = some o := ⟨_, List.getElem?_eq_getElem (by rw [← HNB.out]; exact hsl)⟩
                have hst := HB.out.trans (chkB_at p x f s o ho)
                have hop := HG.out wr f s x o hbel hx ho
                cases hob : opB p x s o with
                | true =>
                  rw [hob] at hst hop
                  rw [if_pos rfl] at hst
                  have HST := hid hst
                  have HOP := hid hop
                  clear hst hop hob HH HG
                  go_wp2_with (go_at_call 94; refine HOP.out.mono ?_; rintro e w2 ⟨rfl, hb2⟩)
                  go_roundw
                  case rel => exact ⟨s + 1, by go_num, by omega, HST.out, hbel.trans (hb2.mono hbel.size)⟩
                  case measure => simp [intOf]; omega
                | false =>
                  rw [hob] at hst hop
                  have HF : Hid (chk p = (7, (f : Int), (s : Int))) := by show _ = _; rw [HS.out, hst]; rfl
                  have HOP := hid hop
                  clear hst hop hob HH HG HS HB HC
                  go_wp2_with (go_at_call 94; refine HOP.out.mono ?_; rintro e w2 ⟨rfl, hb2⟩)
                  go_ret3
                  exact ⟨ret_chk HF.out, hbel.trans (hb2.mono hbel.size)⟩
              · have HF : Hid (chk p = chkF p (p.drop (f + 1)) (f + 1)) := by
                  show _ = _
                  have h1 : chkB p x f x.body 0 = none := by rw [HB.out, List.drop_of_length_le (by rw [← HNB.out]; omega)]; rfl
                  rw [HS.out, h1]
                clear HB HS HC HH HG
                go_wp2
                go_roundw
                case rel => exact ⟨f + 1, by go_num, by omega, HF.out, hbel⟩
                case measure => simp [intOf]; omega
        · have HF : Hid (chk p = (0, 0, 0)) := by show _ = _; rw [HC.out, List.drop_of_length_le (by rw [HL.out]; omega)]; rfl
          go_wp2
          go_ret3
          exact ⟨ret_chk HF.out, hbel⟩
end Go.Proofs.YtooinlilplecpaaGreatDoor
