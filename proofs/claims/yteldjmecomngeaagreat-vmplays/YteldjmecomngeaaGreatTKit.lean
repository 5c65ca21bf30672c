import Derived.Test.YteldjmecomngeaaGreatMKit
import Derived.Laws.Rows
import Derived.ProofKit
import Derived.Laws.CopyRow
import Derived.Maps.RangeRun
import Derived.Deep.RegionHeld
namespace Go.Proofs.YteldjmecomngeaaGreat.T
open Go.RowKit
open Go.Proofs
open Go.Proofs.YteldjmecomngeaaGreat.M
set_option linter.unusedVariables false
set_option linter.unusedSimpArgs false
abbrev Ef := Nat × Int × Int
abbrev Bk := Int × List UInt8
structure Ct where
 code : List UInt8
 entry : Nat
 effs : List Ef
 banks : List Bk
def ct0 : Ct := ⟨[], 0, [], []⟩
def hgt (x : Int) : Bool := decide (0 <= x /\ x <= 256)
def effG : Int -> List Ef -> Bool
 | _, [] => true
 | p, x :: l => (decide (p < (x.1 : Int)) && hgt x.2.1 && hgt x.2.2) && effG x.1 l
def codeB (l : List UInt8) : Bool := decide (l.length % 2 = 0 /\ l.length <= 16384)
def effsB (l : List Ef) : Bool := decide (l.length <= 8192) && effG (-1) l
def datOk (l : List UInt8) : Bool := decide (l.length <= 16384)
def bankG : Int -> List Bk -> Bool
 | _, [] => true
 | p, x :: l => (decide (p < x.1 /\ x.1 < 16) && datOk x.2) && bankG x.1 l
def may (c : Ct) : Bool := codeB c.code && effsB c.effs && bankG (-1) c.banks
structure Fit (c : Ct) : Prop where
 entry : c.entry < 65536
 effs : ∀ x ∈ c.effs, x.1 < 65536
theorem hid {p : Prop} (h : p) : Hid p := h
def EfS (W : World) (p : Option Addr) (es : List Ef) : Prop := ∀ (i : Nat) (t : Ef), es[i]? = some t -> ∃ b o, p = some ⟨b, o, none⟩ /\ W.cell? ⟨b, o + i * 3, none⟩ = some (.int .u16 (t.1 : Int)) /\ W.cell? ⟨b, o + i * 3 + 1, none⟩ = some (.int .i64 t.2.1) /\ W.cell? ⟨b, o + i * 3 + 2, none⟩ = some (.int .i64 t.2.2)
theorem EfS.kept {W W' : World} {p : Option Addr} {es : List Ef} (h : EfS W p es) (k : ∀ a u, W.cell? a = some u -> W'.cell? a = some u) : EfS W' p es := by
 intro i t ht
 obtain ⟨b, o, e1, e2, e3, e4⟩ := h i t ht
 exact ⟨b, o, e1, k _ _ e2, k _ _ e3, k _ _ e4⟩
theorem below_cell {W W' : World} (b : Below W.heap.size W W') : ∀ a u, W.cell? a = some u -> W'.cell? a = some u := fun a u e => by rw [b.cell (World.block_lt_of_cell? W a e)]; exact e
theorem EfS.below {W W' : World} {p : Option Addr} {es : List Ef} (h : EfS W p es) (b : Below W.heap.size W W') : EfS W' p es := h.kept (below_cell b)
def cv (kv : Value) (entry : Int) (ep : Option Addr) (en ec : Nat) (bp : Option Addr) (bn bc : Nat) : Value := .agg #[kv, .int .u16 entry, .slice ep en ec, .slice bp bn bc]
structure IsC (W : World) (v : Value) (c : Ct) (ep : Option Addr) (ec : Nat) (bp : Option Addr) (bc : Nat) (kv : Value) : Prop where
 val : v = cv kv c.entry ep c.effs.length ec bp c.banks.length bc
 code : Sl W kv c.code
 clen : c.code.length <= room
 effs : EfS W ep c.effs
 elen : c.effs.length * 24 <= room
 banks : BnS W bp c.banks
 blen : c.banks.length * 32 <= room
 fit : Fit c
 ints : ∀ x ∈ c.effs, (Lit.int .i64 x.2.1).wf = true /\ (Lit.int .i64 x.2.2).wf = true
 nums : ∀ x ∈ c.banks, (Lit.int .i64 x.1).wf = true
theorem IsC.kept {W W' : World} {v : Value} {c : Ct} {ep : Option Addr} {ec : Nat} {bp : Option Addr} {bc : Nat} {kv : Value} (h : IsC W v c ep ec bp bc kv) (k : ∀ a u, W.cell? a = some u -> W'.cell? a = some u) : IsC W' v c ep ec bp bc kv :=
 ⟨h.val, h.code.kept fun a u e _ => k a u e, h.clen, h.effs.kept k, h.elen, h.banks.kept k, h.blen, h.fit, h.ints, h.nums⟩
theorem IsC.below {W W' : World} {v : Value} {c : Ct} {ep : Option Addr} {ec : Nat} {bp : Option Addr} {bc : Nat} {kv : Value} (h : IsC W v c ep ec bp bc kv) (b : Below W.heap.size W W') : IsC W' v c ep ec bp bc kv := h.kept (below_cell b)
set_option maxRecDepth 100000
abbrev V3 := Value × Value × Value
def t3 : List V3 -> List Value
 | [] => []
 | x :: l => x.1 :: x.2.1 :: x.2.2 :: t3 l
theorem t3_len : ∀ l : List V3, (t3 l).length = l.length * 3
 | [] => rfl
 | x :: l => by simp [t3, t3_len l]; omega
theorem t3_get : ∀ (l : List V3) (i : Nat) (x : V3), l[i]? = some x -> (t3 l)[i * 3]? = some x.1 /\ (t3 l)[i * 3 + 1]? = some x.2.1 /\ (t3 l)[i * 3 + 2]? = some x.2.2
 | y :: l, 0, x, h => by simp at h; subst h; exact ⟨rfl, rfl, rfl⟩
 | y :: l, i + 1, x, h => by
  have := t3_get l i x (by simpa using h); simp only [t3]; rw [show (i + 1) * 3 = i * 3 + 1 + 1 + 1 by omega]; exact this
def encE (x : Ef) : V3 := (.int .u16 (x.1 : Int), .int .i64 x.2.1, .int .i64 x.2.2)
theorem info80 : (Tryz.prog.info? 190).map (fun i => (i.zero, i.size, i.bytes)) = some (some (.agg #[.int .u16 0, .int .i64 0, .int .i64 0]), 3, 24) := by kernel_rfl
theorem info82 : (Tryz.prog.info? 81).map (fun i => (i.zero, i.size, i.bytes)) = some (some (.agg #[.int .i64 0, .slice none 0 0]), 2, 32) := by kernel_rfl
def bcs : List (Bk × Value) -> List Value
 | [] => []
 | x :: l => .int .i64 x.1.1 :: x.2 :: bcs l
theorem bcs_append : ∀ a b : List (Bk × Value), bcs (a ++ b) = bcs a ++ bcs b
 | [], b => rfl
 | x :: a, b => by simp [bcs, bcs_append a b]
theorem bcs_get : ∀ (l : List (Bk × Value)) (i : Nat) (x : Bk × Value), l[i]? = some x -> (bcs l)[i * 2]? = some (.int .i64 x.1.1) /\ (bcs l)[i * 2 + 1]? = some x.2
 | y :: l, 0, x, h => by simp at h; subst h; exact ⟨rfl, rfl⟩
 | y :: l, i + 1, x, h => by
  have := bcs_get l i x (by simpa using h); simp only [bcs]; rw [show (i + 1) * 2 = i * 2 + 1 + 1 by omega]; exact this
set_option maxHeartbeats 1000000
set_option maxRecDepth 100000
theorem codeMay_any (p : Option Addr) (n c : Nat) (l : List UInt8) (hn : l.length = n) (hl : n <= room) (w : World) :
  Calls Tryz.prog 58 #[.slice p n c] w fun e w' => e = .returned (.bool (codeB l)) /\ w' = w := by
 unfold room at hl
 have ht : (n : Int).tmod 2 = ((n % 2 : Nat) : Int) := (Int.ofNat_tmod n 2).symm
 by_cases h1 : n % 2 = 0
 ·by_cases h2 : n <= 16384
  ·have e : codeB l = true := by simp [codeB]; omega
   have i1 : ((n : Int).tmod 2 == 0) = true := by rw [ht, h1]; rfl
   have i2 : (n : Int) <= 16384 := by omega
   rw [e]; clear ht
   go_enter Tryz.func58, Tryz.ntmps58; go_wp2; go_ret; exact ⟨rfl, rfl⟩
  ·have e : codeB l = false := by simp [codeB]; omega
   have i1 : ((n : Int).tmod 2 == 0) = true := by rw [ht, h1]; rfl
   have i2 : decide ((n : Int) <= 16384) = false := by simp; omega
   rw [e]; clear ht
   go_enter Tryz.func58, Tryz.ntmps58; go_wp2; go_ret; exact ⟨rfl, rfl⟩
 ·have e : codeB l = false := by simp [codeB]; omega
  have i1 : ((n : Int).tmod 2 == 0) = false := by rw [ht]; simp; omega
  rw [e]; clear ht
  go_enter Tryz.func58, Tryz.ntmps58; go_wp2; go_ret; exact ⟨rfl, rfl⟩
theorem heightMay_any (x : Int) (w : World) :
  Calls Tryz.prog 94 #[.int .i64 x] w fun e w' => e = .returned (.bool (hgt x)) /\ w' = w := by
 by_cases h1 : 0 <= x
 ·by_cases h2 : x <= 256
  ·have e : hgt x = true := by simp [hgt]; omega
   rw [e]
   go_enter Tryz.func94, Tryz.ntmps94; go_wp2; go_ret; exact ⟨rfl, rfl⟩
  ·have e : hgt x = false := by simp [hgt]; omega
   have i2 : decide (x <= 256) = false := by simp; omega
   rw [e]
   go_enter Tryz.func94, Tryz.ntmps94; go_wp2; go_ret; exact ⟨rfl, rfl⟩
 ·have e : hgt x = false := by simp [hgt]; omega
  have i1 : decide (0 <= x) = false := by simp; omega
  rw [e]
  go_enter Tryz.func94, Tryz.ntmps94; go_wp2; go_ret; exact ⟨rfl, rfl⟩
theorem dataMay_any (p : Option Addr) (n c : Nat) (l : List UInt8) (hn : l.length = n) (w : World) :
  Calls Tryz.prog 95 #[.slice p n c] w fun e w' => e = .returned (.bool (datOk l)) /\ w' = w := by
 by_cases h2 : n <= 16384
 ·have e : datOk l = true := by simp [datOk]; omega
  have i2 : (n : Int) <= 16384 := by omega
  rw [e]
  go_enter Tryz.func95, Tryz.ntmps95; go_wp2; go_ret; exact ⟨rfl, rfl⟩
 ·have e : datOk l = false := by simp [datOk]; omega
  have i2 : decide ((n : Int) <= 16384) = false := by simp; omega
  rw [e]
  go_enter Tryz.func95, Tryz.ntmps95; go_wp2; go_ret; exact ⟨rfl, rfl⟩
theorem banksMay_any (p : Option Addr) (c : Nat) (bs : List Bk) (hl : bs.length <= room) (w : World) (h : BnS w p bs) :
  Calls Tryz.prog 60 #[.slice p bs.length c] w fun e w' => e = .returned (.bool (bankG (-1) bs)) /\ Below w.heap.size w w' := by
 unfold room at hl
 go_enter Tryz.func60, Tryz.ntmps60
 go_wp2
 go_loopw [3, 8] (fun a i wr => ∃ (k : Nat) (q : Int), k <= bs.length /\ a = .int .i64 q /\ i = .int .i64 (k : Int) /\ bankG (-1) bs = bankG q (bs.drop k) /\ Below w.heap.size w wr) (fun _ i _ => bs.length - (intOf i).toNat)
 case atStart => exact ⟨0, -1, by omega, rfl, rfl, rfl, Below.refl _ _⟩
 case round =>
  obtain ⟨k, q, hk, rfl, rfl, hG0, hB⟩ := hrel; have hG := hid hG0; clear hG0
  by_cases hlt : k < bs.length
  ·have i1 : (k : Int) < bs.length := by omega
   obtain ⟨b, o, dv, rfl, e1, e2, e3, e4⟩ := h.below hB k bs[k] (List.getElem?_eq_getElem hlt); have hd : bs.drop k = bs[k] :: bs.drop (k + 1) := by rw [List.drop_eq_getElem_cons hlt]
   have hG := hG.out; rw [hd] at hG; generalize bs[k] = t at *
   obtain ⟨n, l⟩ := t; simp only [bankG] at hG e1 e2 e3 e4; have hL : l.length <= room := e4; obtain ⟨dp, dc, rfl, _⟩ := e3.ex; unfold room at hL; have hdm := fun W => dataMay_any dp l.length dc l rfl W
   have HB : Hid _ := hB.alloc hB.size (Obj.cells #[.int .i64 n, .slice dp l.length dc] 81); have HG := hid hG; clear hG hd e3 hB e4 h
   by_cases c1 : n <= q
   ·have d1 : decide (n <= q) = true := by simpa using c1
    have hf : bankG (-1) bs = false := by rw [HG.out]; simp; intro h; omega
    go_wp2; go_ret; exact ⟨by first | rfl | (rw [hf]; rfl), HB.out⟩
   have d1 : decide (n <= q) = false := by simpa using c1
   by_cases c2 : 16 <= n
   ·have d2 : decide (16 <= n) = true := by simpa using c2
    have hf : bankG (-1) bs = false := by rw [HG.out]; simp; intro h; omega
    go_wp2; go_ret; exact ⟨by first | rfl | (rw [hf]; rfl), HB.out⟩
   have d2 : decide (16 <= n) = false := by simpa using c2
   by_cases c3 : datOk l = true
   ·have HN : Hid (bankG (-1) bs = bankG n (bs.drop (k + 1))) := by
     have : (decide (q < n /\ n < 16) && datOk l) = true := by rw [c3]; simp; omega
     have e := HG.out; rw [this] at e; exact hid (by simpa using e)
    rw [c3] at hdm; clear HG c3; go_wp2_with (first | (go_at_call 95; refine (hdm _).mono ?_; rintro e w1 ⟨rfl, rfl⟩))
    go_roundw
    case rel =>
     first
      | exact ⟨k + 1, n, by omega, rfl, by go_num, HN.out, HB.out⟩
      | ((repeat apply Exists.intro); refine ⟨⟨k + 1, n, by omega, rfl, ?_, HN.out, HB.out⟩, rfl⟩; go_num)
    case measure => simp [intOf]; omega
   ·have c3' : datOk l = false := by simpa using c3
    have hf : bankG (-1) bs = false := by rw [HG.out, c3']; simp
    rw [c3'] at hdm; clear HG c3 c3'; go_wp2_with (first | (go_at_call 95; refine (hdm _).mono ?_; rintro e w1 ⟨rfl, rfl⟩))
    go_ret; exact ⟨by first | rfl | (rw [hf]; rfl), HB.out⟩
  ·obtain rfl : k = bs.length := by omega
   have hf : bankG (-1) bs = true := by rw [hG.out, List.drop_length]; rfl
   clear hG; go_wp2; go_ret; exact ⟨by first | rfl | (rw [hf]; rfl), hB⟩
end Go.Proofs.YteldjmecomngeaaGreat.T
