import Derived.Test.YteldjmecomngeaaGreatTKit
import Derived.Deep.QuietTactic
namespace Go.Proofs.YteldjmecomngeaaGreat.T
open Go.RowKit
open Go.Proofs
open Go.Proofs.YteldjmecomngeaaGreat.M
set_option linter.unusedVariables false
set_option linter.unusedSimpArgs false
set_option maxHeartbeats 2000000
set_option maxRecDepth 100000
theorem dn {B : Nat} {W W' : World} (h : Below B W W') (q : Nat) : Below B W (W'.drewN q) := ⟨h.os, h.tape, h.output, h.size, h.block⟩
def pv (es : List Ef) : Nat -> Int
 | 0 => -1
 | k + 1 => (es.getD k (0, 0, 0)).1
theorem eff_false {p : Int} {x : Ef} {l : List Ef} (h : ¬ p < (x.1 : Int) \/ hgt x.2.1 = false \/ hgt x.2.2 = false) : effG p (x :: l) = false := by
 simp only [effG]
 rcases h with h | h | h
 ·simp [h]
 ·simp [h]
 ·simp [h]
theorem eff_true {p : Int} {x : Ef} {l : List Ef} (h1 : p < (x.1 : Int)) (h2 : hgt x.2.1 = true) (h3 : hgt x.2.2 = true) : effG p (x :: l) = effG x.1 l := by
 simp [effG, h1, h2, h3]
theorem effectsMay_any (p : Option Addr) (c : Nat) (es : List Ef) (hl : es.length <= room) (w : World) (h : EfS w p es) :
  Calls Tryz.prog 59 #[.slice p es.length c] w fun e w' => e = .returned (.bool (effsB es)) /\ Below w.heap.size w w' := by
 unfold room at hl
 by_cases h0 : es.length <= 8192
 case neg =>
  have hf : effsB es = false := by simp [effsB]; omega
  have i1 : (8192 : Int) < es.length := by omega
  rw [hf]
  go_enter Tryz.func59, Tryz.ntmps59; go_wp2; go_ret; exact ⟨rfl, Below.refl _ _⟩
 have he : effsB es = effG (-1) es := by simp [effsB, h0]
 have i0 : decide ((8192 : Int) < es.length) = false := by simp; omega
 rw [he]
 clear he
 go_enter Tryz.func59, Tryz.ntmps59
 go_wp2
 clear i0
 go_loopw [10] (fun i wr => ∃ (k : Nat), k <= es.length /\ i = .int .i64 (k : Int) /\ effG (-1) es = effG (pv es k) (es.drop k) /\ Below w.heap.size w wr) (fun i _ => es.length - (intOf i).toNat)
 case atStart => exact ⟨0, by omega, rfl, rfl, Below.refl _ _⟩
 case round =>
  obtain ⟨k, hk, rfl, hG0, hB⟩ := hrel; have hG := hid hG0; clear hG0
  by_cases hlt : k < es.length
  case neg =>
   obtain rfl : k = es.length := by omega
   have hf : effG (-1) es = true := by rw [hG.out, List.drop_length]; rfl
   clear hG; go_wp2; go_ret; exact ⟨by first | rfl | (rw [hf]; rfl), hB⟩
  have i1 : (k : Int) < es.length := by omega
  obtain ⟨b, ob, rfl, e1, e2, e3⟩ := h.below hB k es[k] (List.getElem?_eq_getElem hlt); have hd : es.drop k = es[k] :: es.drop (k + 1) := by rw [List.drop_eq_getElem_cons hlt]
  have hG := hG.out; rw [hd] at hG; have hP : pv es (k + 1) = (es[k]).1 := by simp [pv, List.getD, List.getElem?_eq_getElem hlt]
  have HF := hid (fun (x : ¬ pv es k < ((es[k]).1 : Int) \/ hgt (es[k]).2.1 = false \/ hgt (es[k]).2.2 = false) => hG.trans (eff_false x)); have HT : Hid (∀ (x1 : pv es k < ((es[k]).1 : Int)) (x2 : hgt (es[k]).2.1 = true) (x3 : hgt (es[k]).2.2 = true), effG (-1) es = effG (pv es (k + 1)) (es.drop (k + 1))) := hid (fun x1 x2 x3 => by rw [hP]; exact hG.trans (eff_true x1 x2 x3)); clear hG hd hP; have HB := hid (hB.alloc hB.size (Obj.cells #[.int .u16 ((es[k]).1 : Int), .int .i64 (es[k]).2.1, .int .i64 (es[k]).2.2] 190))
  have hprev : ∀ j, k = j + 1 -> ∃ a0 : Nat, pv es k = (a0 : Int) /\ wr.cell? ⟨b, ob + j * 3, none⟩ = some (.int .u16 (a0 : Int)) := by
   intro j hj; have hj2 : j < es.length := by omega
   obtain ⟨b', ob', q1, q2, _, _⟩ := h.below hB j es[j] (List.getElem?_eq_getElem hj2); have q1' : b = b' /\ ob = ob' := by simpa using q1
   obtain ⟨rfl, rfl⟩ := q1'; exact ⟨(es[j]).1, by subst hj; simp [pv, List.getD, List.getElem?_eq_getElem hj2], q2⟩
  clear h hB; generalize es[k] = t at *
  obtain ⟨a, i, o⟩ := t; simp only at *
  cases k with
  | zero =>
   clear hprev; simp only [Nat.zero_mul, Nat.add_zero, Nat.zero_add] at e1 e2 e3; have hq : pv es 0 < (a : Int) := by simp only [pv]; omega
   by_cases c2 : hgt i = true
   case neg =>
    have c2 : hgt i = false := by simpa using c2
    have hf : effG (-1) es = false := HF.out (.inr (.inl c2)); clear HF HT; go_wp2_with fail
    go_quiet (first | (go_at_call 94; exact Calls.quiet_of_same (heightMay_any _ _)))
    go_wp2; go_ret; exact ⟨by first | rfl | (rw [hf]; rfl), dn HB.out _⟩
   by_cases c3 : hgt o = true
   case neg =>
    have c3 : hgt o = false := by simpa using c3
    have hf : effG (-1) es = false := HF.out (.inr (.inr c3)); clear HF HT; go_wp2_with fail
    go_quiet (first | (go_at_call 94; exact Calls.quiet_of_same (heightMay_any _ _)))
    go_wp2; go_ret; exact ⟨by first | rfl | (rw [hf]; rfl), dn HB.out _⟩
   have HN := hid (HT.out hq c2 c3); clear HF HT hq; go_wp2_with fail
   go_quiet (first | (go_at_call 94; exact Calls.quiet_of_same (heightMay_any _ _)))
   go_wp2; go_roundw
   case rel =>
    first
     | exact ⟨0 + 1, by omega, by go_num, HN.out, dn HB.out _⟩
     | ((repeat apply Exists.intro); refine ⟨⟨0 + 1, by omega, ?_, HN.out, dn HB.out _⟩, rfl⟩; go_num)
   case measure => simp [intOf]; omega
  | succ j =>
   obtain ⟨a0, hp, e0⟩ := hprev j rfl; clear hprev; rw [hp] at HF HT; clear hp; have x1 : IntKind.i64.wrap (j : Int) = (j : Int) := by simp [IntKind.wrap, IntKind.bits, IntKind.signed]; omega
   have x2 : (j : Int) < es.length := by omega
   have e0' : (wr.alloc (Obj.cells #[.int .u16 (a : Int), .int .i64 i, .int .i64 o] 190)).cell? ⟨b, ob + j * 3, none⟩ = some (.int .u16 (a0 : Int)) := by rw [World.cell?_alloc_some _ _ _ (by rw [e0]; rfl)]; exact e0
   have i3 : (0 : Int) < ((j + 1 : Nat) : Int) := by omega
   by_cases hq : (a0 : Int) < (a : Int)
   case neg =>
    have d0 : decide (a <= a0) = true := by simp; omega
    have hf : effG (-1) es = false := HF.out (.inl hq); clear HF HT; go_wp2_with fail
    go_quiet (first | (go_at_call 94; exact Calls.quiet_of_same (heightMay_any _ _)))
    go_wp2; go_ret; exact ⟨by first | rfl | (rw [hf]; rfl), dn HB.out _⟩
   have d0 : decide (a <= a0) = false := by simp; omega
   by_cases c2 : hgt i = true
   case neg =>
    have c2 : hgt i = false := by simpa using c2
    have hf : effG (-1) es = false := HF.out (.inr (.inl c2)); clear HF HT; go_wp2_with fail
    go_quiet (first | (go_at_call 94; exact Calls.quiet_of_same (heightMay_any _ _)))
    go_wp2; go_ret; exact ⟨by first | rfl | (rw [hf]; rfl), dn HB.out _⟩
   by_cases c3 : hgt o = true
   case neg =>
    have c3 : hgt o = false := by simpa using c3
    have hf : effG (-1) es = false := HF.out (.inr (.inr c3)); clear HF HT; go_wp2_with fail
    go_quiet (first | (go_at_call 94; exact Calls.quiet_of_same (heightMay_any _ _)))
    go_wp2; go_ret; exact ⟨by first | rfl | (rw [hf]; rfl), dn HB.out _⟩
   have HN := hid (HT.out hq c2 c3); clear HF HT hq; go_wp2_with fail
   go_quiet (first | (go_at_call 94; exact Calls.quiet_of_same (heightMay_any _ _)))
   go_wp2; go_roundw
   case rel =>
    first
     | exact ⟨(j + 1) + 1, by omega, by go_num, HN.out, dn HB.out _⟩
     | ((repeat apply Exists.intro); refine ⟨⟨(j + 1) + 1, by omega, ?_, HN.out, dn HB.out _⟩, rfl⟩; go_num)
   case measure => simp [intOf]; omega
theorem check_any (v : Value) (c : Ct) (ep : Option Addr) (ec : Nat) (bp : Option Addr) (bc : Nat) (kv : Value) (w : World) (h : IsC w v c ep ec bp bc kv) :
  Calls Tryz.prog 28 #[v] w fun e w' => e = .returned (.int .i64 (if may c then 0 else 74)) /\ Below w.heap.size w w' := by
 obtain ⟨kp, kc, rfl, _⟩ := h.code.ex
 have hv := h.val
 subst hv
 unfold cv
 have hB0 : Below w.heap.size w (w.alloc (.cells #[.slice kp c.code.length kc, .int .u16 (c.entry : Int), .slice ep c.effs.length ec, .slice bp c.banks.length bc] 27)) := (Below.refl _ _).alloc (Nat.le_refl _) _
 have h1 := codeMay_any kp c.code.length kc c.code rfl h.clen (w.alloc (.cells #[.slice kp c.code.length kc, .int .u16 (c.entry : Int), .slice ep c.effs.length ec, .slice bp c.banks.length bc] 27))
 have hel := h.elen
 have hbl := h.blen
 have h2 := effectsMay_any ep ec c.effs (by unfold room at *; omega) _ (h.effs.below hB0)
 have h3 := fun W (hW : Below w.heap.size w W) => banksMay_any bp bc c.banks (by unfold room at *; omega) W (h.banks.below hW)
 have hN : (w.alloc (.cells #[.slice kp c.code.length kc, .int .u16 (c.entry : Int), .slice ep c.effs.length ec, .slice bp c.banks.length bc] 27)).heap[w.heap.size]? = some (.cells [.slice kp c.code.length kc, .int .u16 (c.entry : Int), .slice ep c.effs.length ec, .slice bp c.banks.length bc].toArray 27 (0, 0)) := heap_alloc_new w _
 have hm : may c = (codeB c.code && effsB c.effs && bankG (-1) c.banks) := rfl
 have HM := hid hm
 have HB := hid hB0
 have HN := hid hN
 clear hm hB0 hN h hel hbl
 by_cases c1 : codeB c.code = true
 case neg =>
  have c1 : codeB c.code = false := by simpa using c1
  have hf : may c = false := by rw [HM.out, c1]; rfl
  rw [c1] at h1; simp only [hf, Bool.false_eq_true, if_false]
  go_enter Tryz.func28, Tryz.ntmps28; go_wp2_with (first | (go_at_call 58; refine h1.mono ?_; rintro e w1 ⟨rfl, rfl⟩))
  go_ret; exact ⟨rfl, HB.out⟩
 rw [c1] at h1
 by_cases c2 : effsB c.effs = true
 case neg =>
  have c2 : effsB c.effs = false := by simpa using c2
  have hf : may c = false := by rw [HM.out, c1, c2]; rfl
  rw [c2] at h2; simp only [hf, Bool.false_eq_true, if_false]; clear c1 c2
  go_enter Tryz.func28, Tryz.ntmps28; go_wp2_with (first | (go_at_call 58; refine h1.mono ?_; rintro e w1 ⟨rfl, rfl⟩) | (go_at_call 59; refine h2.mono ?_; rintro e w1 ⟨rfl, hb⟩))
  go_ret; exact ⟨rfl, HB.out.trans (hb.mono HB.out.size)⟩
 rw [c2] at h2
 have hf : may c = bankG (-1) c.banks := by rw [HM.out, c1, c2]; rfl
 have HK := hid (fun w1 (hb : Below (w.alloc (.cells #[.slice kp c.code.length kc, .int .u16 (c.entry : Int), .slice ep c.effs.length ec, .slice bp c.banks.length bc] 27)).heap.size (w.alloc (.cells #[.slice kp c.code.length kc, .int .u16 (c.entry : Int), .slice ep c.effs.length ec, .slice bp c.banks.length bc] 27)) w1) =>
  And.intro (cell_of w1 w.heap.size 3 _ 27 _ ((hb.block w.heap.size (by simp)).trans HN.out) rfl) (HB.out.trans (hb.mono HB.out.size)))
 rw [hf]
 clear c1 c2 hf
 by_cases c3 : bankG (-1) c.banks = true
 ·rw [c3] at h3 ⊢
  clear c3
  go_enter Tryz.func28, Tryz.ntmps28; go_wp2_with (first | (go_at_call 58; refine h1.mono ?_; rintro e w1 ⟨rfl, rfl⟩) | (go_at_call 59; refine h2.mono ?_; rintro e w1 ⟨rfl, hb⟩; obtain ⟨k3, hb1⟩ := HK.out w1 hb; have h3' := h3 w1 hb1; have HB1 := hid hb1; clear hb hb1 h3 HK) | (go_at_call 60; refine h3'.mono ?_; rintro e w2 ⟨rfl, hb2⟩))
  go_ret; exact ⟨rfl, HB1.out.trans (hb2.mono HB1.out.size)⟩
 ·have c3 : bankG (-1) c.banks = false := by simpa using c3
  rw [c3] at h3 ⊢; clear c3
  go_enter Tryz.func28, Tryz.ntmps28; go_wp2_with (first | (go_at_call 58; refine h1.mono ?_; rintro e w1 ⟨rfl, rfl⟩) | (go_at_call 59; refine h2.mono ?_; rintro e w1 ⟨rfl, hb⟩; obtain ⟨k3, hb1⟩ := HK.out w1 hb; have h3' := h3 w1 hb1; have HB1 := hid hb1; clear hb hb1 h3 HK) | (go_at_call 60; refine h3'.mono ?_; rintro e w2 ⟨rfl, hb2⟩))
  go_ret; exact ⟨rfl, HB1.out.trans (hb2.mono HB1.out.size)⟩
end Go.Proofs.YteldjmecomngeaaGreat.T
