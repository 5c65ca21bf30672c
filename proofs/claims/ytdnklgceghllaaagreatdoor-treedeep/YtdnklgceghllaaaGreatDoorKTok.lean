import Derived.Test.YtdnklgceghllaaaGreatDoorKWord
import Derived.Test.YtdnklgceghllaaaGreatDoorTParts
import Derived.Laws.ResultCell
import Derived.Laws.Rows
import Derived.Laws.CopyRow
namespace Go.Proofs.YtdnklgceghllaaaGreatDoor.K
open Go.RowKit
open Go.Proofs.YtdnklgceghllaaaGreatDoor
open Go.Proofs.YtdnklgceghllaaaGreatDoor.T (size_list numE numC)
set_option linter.unusedVariables false
def pc (p : Int × Int) : Array Value := #[.int .i64 p.1, .int .i64 p.2]
def pv (p : Int × Int) : Value := .agg (pc p)
def tc (k : Int) (t : ByteArray) (v : Int) (p : Int × Int) : Array Value := #[.int .i64 k, .string t, .int .u16 v, .int .i64 p.1, .int .i64 p.2]
def tv (k : Int) (t : ByteArray) (v : Int) (p : Int × Int) : Value := .agg (tc k t v p)
def zc : Array Value := #[.int .i64 0, .string { data := #[] }, .int .u16 0, .int .i64 0, .int .i64 0]
theorem sizeT : (Tryz.prog.info? 53).map (·.size) = some 5 := by kernel_rfl
theorem sizeP : (Tryz.prog.info? 28).map (·.size) = some 2 := by kernel_rfl
theorem Below.setRow {B : Nat} {a w : World} (h : Below B a w) (g : Nat) (hg : B <= g) (xs : Array Value) : Below B a (w.setRow g xs) :=
 ⟨h.os, h.tape, h.output, by show _ <= (w.heap.modify g _).size; rw [Array.size_modify]; exact h.size, fun k hk => (setRow_other w g k xs (by omega)).trans (h.block k hk)⟩
theorem lt_of {W : World} {i : Nat} {o : Obj} (e : W.heap[i]? = some o) : i < W.heap.size := (Array.getElem?_eq_some_iff.1 e).1
theorem trB {B : Nat} {w w1 w2 : World} (h : Below B w w1) (k : Below w1.heap.size w1 w2) (hs : B <= w1.heap.size) : Below B w w2 :=
 h.trans ⟨k.os, k.tape, k.output, k.size, fun i hi => k.block i (Nat.lt_of_lt_of_le hi hs)⟩
def kd (l : List UInt8) : Int := if numE l = 0 then 2 else 1
theorem numE_cases (l : List UInt8) : (numE l = 0) \/ (numE l = 21 /\ numC l = 0) \/ (numE l = 20 /\ numC l = 0) := by
 unfold numE numC T.errOf T.cellOf
 cases T.numI l with
 | none => right; right; exact ⟨rfl, rfl⟩
 | some n =>
  by_cases h : -32768 <= n /\ n <= 65535
  ·left; simp only [if_pos h]
  ·right; left; simp only [if_neg h]; exact ⟨trivial, trivial⟩
theorem tok_fin {w w1 : World} {c0 : Array Value} (hz : w1.heap[w.heap.size]? = some (.cells c0 53 (0, 0))) (hb : Below w.heap.size w w1) {a : Act} {k : Int} {t : ByteArray} {v : Int} {p : Int × Int} {x : Value} {q : Tmp} {u : Tmp} {fn : Func} (hr : fn.results = #[.cell q 53, .tmp u])
  (hp : a.tmps.getD q undef = .pointer (some ⟨w.heap.size, 0, none⟩)) (h3 : a.tmps.getD u undef = x) (hd : a.defers = []) :
  bodyPost Tryz.prog fn (fun e w' => e = .returned (.tuple #[tv k t v p, x]) /\ Below w.heap.size w w') .ret a (w1.setRow w.heap.size (tc k t v p)) := by
 have hfin := setRow_heap w1 w.heap.size _ (tc k t v p) _ _ hz
 have hbf := Below.setRow hb w.heap.size (Nat.le_refl _) (tc k t v p)
 refine bodyPost_ret (v := .tuple #[tv k t v p, x]) ?_ hd ⟨rfl, hbf⟩
 rw [results_cell_tmp hr, hp, h3]
 simp [asAddr, run_loadVar_row _ w.heap.size _ 53 _ _ _ hfin Tryz.underlying53 rfl sizeT, tv]
theorem tokenOf_wide (s : ByteArray) (hs : s.size <= maxLen) (h : 31 < s.size) (w : World) :
  Calls Tryz.prog 60 #[.string s] w fun e w' => e = .returned (.tuple #[tv 0 ⟨#[]⟩ 0 (0, 0), .int .i64 93]) /\ Below w.heap.size w w' := by
 have hs0 := hs
 unfold maxLen at hs
 obtain ⟨wA, hA⟩ : ∃ wA, w.alloc (.cells #[.int .i64 0, .string { data := #[] }, .int .u16 0, .int .i64 0, .int .i64 0] 53) = wA := ⟨_, rfl⟩
 have hb : Below w.heap.size w wA := by rw [<- hA]; exact (Below.refl _ w).alloc (Nat.le_refl _) _
 have hz : wA.heap[w.heap.size]? = some (.cells zc 53 (0, 0)) := by rw [<- hA]; exact heap_alloc_new w _
 go_enter Tryz.func60, Tryz.ntmps60
 go_wp2_with (refine wpList_store_row rfl 53 _ _ rfl w.heap.size _ rfl rfl 53 zc hz (by exact sizeT) (by rfl) (by simp [Value.oneCell']) ?_)
 exact tok_fin hz hb rfl rfl rfl rfl
theorem tokenOf_great (s : ByteArray) (hs : s.size <= maxLen) (h : s.size <= 31) (hn : numE s.data.toList = 21) (w : World) :
  Calls Tryz.prog 60 #[.string s] w fun e w' => e = .returned (.tuple #[tv 0 ⟨#[]⟩ 0 (0, 0), .int .i64 21]) /\ Below w.heap.size w w' := by
 have hs0 := hs
 unfold maxLen at hs
 obtain ⟨wA, hA⟩ : ∃ wA, w.alloc (.cells #[.int .i64 0, .string { data := #[] }, .int .u16 0, .int .i64 0, .int .i64 0] 53) = wA := ⟨_, rfl⟩
 have hb : Below w.heap.size w wA := by rw [<- hA]; exact (Below.refl _ w).alloc (Nat.le_refl _) _
 have hz : wA.heap[w.heap.size]? = some (.cells zc 53 (0, 0)) := by rw [<- hA]; exact heap_alloc_new w _
 go_enter Tryz.func60, Tryz.ntmps60
 go_wp2_with fail
 refine (T.numeral_any s hs0 _).mono ?_
 rintro e w1 ⟨rfl, h1⟩
 rw [hn]
 have hz1 : w1.heap[w.heap.size]? = some (.cells zc 53 (0, 0)) := (h1.block _ (lt_of hz)).trans hz
 have hb1 : Below w.heap.size w w1 := trB hb h1 hb.size
 go_wp2_with (refine wpList_store_row rfl 53 _ _ rfl w.heap.size _ rfl rfl 53 zc hz1 (by exact sizeT) (by rfl) (by simp [Value.oneCell']) ?_)
 exact tok_fin hz1 hb1 rfl rfl rfl rfl
theorem tokenOf_word (s : ByteArray) (hs : s.size <= maxLen) (h : s.size <= 31) (hn : numE s.data.toList = 20) (w : World) :
  Calls Tryz.prog 60 #[.string s] w fun e w' => e = .returned (.tuple #[tv 1 s 0 (0, 0), .int .i64 0]) /\ Below w.heap.size w w' := by
 have hs0 := hs
 unfold maxLen at hs
 obtain ⟨wA, hA⟩ : ∃ wA, w.alloc (.cells #[.int .i64 0, .string { data := #[] }, .int .u16 0, .int .i64 0, .int .i64 0] 53) = wA := ⟨_, rfl⟩
 have hb : Below w.heap.size w wA := by rw [<- hA]; exact (Below.refl _ w).alloc (Nat.le_refl _) _
 have hz : wA.heap[w.heap.size]? = some (.cells zc 53 (0, 0)) := by rw [<- hA]; exact heap_alloc_new w _
 go_enter Tryz.func60, Tryz.ntmps60
 go_wp2_with fail
 refine (T.numeral_any s hs0 _).mono ?_
 rintro e w1 ⟨rfl, h1⟩
 rw [hn]
 have hz1 : w1.heap[w.heap.size]? = some (.cells zc 53 (0, 0)) := (h1.block _ (lt_of hz)).trans hz
 have hb1 : Below w.heap.size w w1 := trB hb h1 hb.size
 go_wp2_with (refine wpList_store_row rfl 53 _ _ rfl w.heap.size _ rfl rfl 53 zc hz1 (by exact sizeT) (by rfl) (by simp [Value.oneCell']) ?_)
 exact tok_fin hz1 hb1 rfl rfl rfl rfl
theorem tokenOf_num (s : ByteArray) (hs : s.size <= maxLen) (h : s.size <= 31) (hn : numE s.data.toList = 0) (w : World) :
  Calls Tryz.prog 60 #[.string s] w fun e w' => e = .returned (.tuple #[tv 2 s (numC s.data.toList) (0, 0), .int .i64 0]) /\ Below w.heap.size w w' := by
 have hs0 := hs
 unfold maxLen at hs
 obtain ⟨wA, hA⟩ : ∃ wA, w.alloc (.cells #[.int .i64 0, .string { data := #[] }, .int .u16 0, .int .i64 0, .int .i64 0] 53) = wA := ⟨_, rfl⟩
 have hb : Below w.heap.size w wA := by rw [<- hA]; exact (Below.refl _ w).alloc (Nat.le_refl _) _
 have hz : wA.heap[w.heap.size]? = some (.cells zc 53 (0, 0)) := by rw [<- hA]; exact heap_alloc_new w _
 generalize hc : numC s.data.toList = v
 go_enter Tryz.func60, Tryz.ntmps60
 go_wp2_with fail
 refine (T.numeral_any s hs0 _).mono ?_
 rintro e w1 ⟨rfl, h1⟩
 rw [hn, hc]
 have hz1 : w1.heap[w.heap.size]? = some (.cells zc 53 (0, 0)) := (h1.block _ (lt_of hz)).trans hz
 have hb1 : Below w.heap.size w w1 := trB hb h1 hb.size
 go_wp2_with (refine wpList_store_row rfl 53 _ _ rfl w.heap.size _ rfl rfl 53 zc hz1 (by exact sizeT) (by rfl) (by simp [Value.oneCell']) ?_)
 exact tok_fin hz1 hb1 rfl rfl rfl rfl
theorem wd_one {l : List UInt8} {i j : Nat} {c : UInt8} (hj : j <= l.length) (hi : i < l.length) (h : wd l i j = [c]) : j = i + 1 /\ l[i] = c := by
 have h1 := wd_len l i j hj
 rw [h] at h1
 have h2 : j = i + 1 := by simp at h1; omega
 refine ⟨h2, ?_⟩
 subst h2
 unfold wd at h
 rw [drop_cons l i hi, Nat.add_sub_cancel_left, List.take_succ_cons] at h
 injection h
theorem nxt_skip {l : List UInt8} {i j : Nat} {c : UInt8} {d : Nat} (hj : j <= l.length) (hi : i < l.length) (h : wd l i j = [c]) (hd : ¬ c.toNat = d) : nxt d l i = nxt d l j := by
 obtain ⟨h1, h2⟩ := wd_one hj hi h
 rw [nxt_no d l i hi (by rw [h2]; exact hd), h1]
def SpC (l : List UInt8) (i : Nat) : Prop :=
 (wend l i = i /\ T.seen (l.getD i 0).toNat = false /\ bk (l.getD i 0).toNat = true /\ sp l i = .ok (.inl (i + 1))) \/
 (wend l i = i /\ T.seen (l.getD i 0).toNat = false /\ bk (l.getD i 0).toNat = false /\ sp l i = .error 91) \/
 (wend l i = i + 1 /\ wd l i (i + 1) = [92] /\ sp l i = .ok (.inl ((nxt 10 l i).getD l.length)) /\ nxt 10 l (i + 1) = nxt 10 l i) \/
 (wend l i = i + 1 /\ wd l i (i + 1) = [40] /\ nxt 41 l i = none /\ nxt 41 l (i + 1) = none /\ sp l i = .error 92) \/
 (∃ k, wend l i = i + 1 /\ wd l i (i + 1) = [40] /\ nxt 41 l i = some k /\ nxt 41 l (i + 1) = some k /\ sp l i = .ok (.inl k)) \/
 (∃ j, wend l i = j /\ i < j /\ wd l i j ≠ [92] /\ wd l i j ≠ [40] /\ 31 < j - i /\ sp l i = .error 93) \/
 (∃ j, wend l i = j /\ i < j /\ wd l i j ≠ [92] /\ wd l i j ≠ [40] /\ j - i <= 31 /\ numE (wd l i j) = 21 /\ sp l i = .error 21) \/
 (∃ j, wend l i = j /\ i < j /\ wd l i j ≠ [92] /\ wd l i j ≠ [40] /\ j - i <= 31 /\ numE (wd l i j) ≠ 21 /\ sp l i = .ok (.inr j))
theorem wend_seen (l : List UInt8) (i : Nat) (h : i < l.length) : (wend l i = i /\ T.seen (l.getD i 0).toNat = false) \/ (i < wend l i /\ T.seen (l.getD i 0).toNat = true) := by
 have hg : l.getD i 0 = l[i] := by rw [List.getD_eq_getElem?_getD, List.getElem?_eq_getElem h]; rfl
 rw [hg]
 cases hv : T.seen l[i].toNat with
 | true => right; have := wend_yes l i h hv; have h2 := wend_ge l (i + 1); exact ⟨by omega, rfl⟩
 | false => left; exact ⟨wend_no l i h hv, rfl⟩
theorem sp_cases (l : List UInt8) (i : Nat) (h : i < l.length) : SpC l i := by
 have hle := wend_le l i (Nat.le_of_lt h)
 rcases wend_seen l i h with ⟨h1, hs⟩ | ⟨h1, hs⟩
 ·cases hb : bk (l.getD i 0).toNat with
  | true => exact .inl ⟨h1, hs, hb, (by unfold sp; rw [if_pos h1, if_pos hb])⟩
  | false => exact .inr (.inl ⟨h1, hs, hb, (by unfold sp; rw [if_pos h1, if_neg (by rw [hb]; decide)])⟩)
 ·have hsp : sp l i = spW l i (wend l i) := by unfold sp; rw [if_neg (by omega)]
  by_cases h2 : wd l i (wend l i) = [92]
  ·have h3 := nxt_skip (d := 10) hle h h2 (by decide)
   have h4 := (wd_one hle h h2).1
   have h5 : sp l i = .ok (.inl ((nxt 10 l i).getD l.length)) := by rw [hsp, spW, if_pos h2, h3]
   rw [h4] at h2 h3
   exact .inr (.inr (.inl ⟨h4, h2, h5, h3.symm⟩))
  ·by_cases h3 : wd l i (wend l i) = [40]
   ·have h4 := nxt_skip (d := 41) hle h h3 (by decide)
    have h5 := (wd_one hle h h3).1
    cases hn : nxt 41 l (wend l i) with
    | none =>
     have h6 : sp l i = .error 92 := by rw [hsp, spW, if_neg h2, if_pos h3, hn]
     rw [hn] at h4
     rw [h5] at h3 hn
     exact .inr (.inr (.inr (.inl ⟨h5, h3, h4, hn, h6⟩)))
    | some k =>
     have h6 : sp l i = .ok (.inl k) := by rw [hsp, spW, if_neg h2, if_pos h3, hn]
     rw [hn] at h4
     rw [h5] at h3 hn
     exact .inr (.inr (.inr (.inr (.inl ⟨k, h5, h3, h4, hn, h6⟩))))
   ·by_cases h4 : 31 < wend l i - i
    ·exact .inr (.inr (.inr (.inr (.inr (.inl ⟨_, rfl, h1, h2, h3, h4, (by rw [hsp, spW, if_neg h2, if_neg h3, if_pos h4])⟩)))))
    ·by_cases h5 : numE (wd l i (wend l i)) = 21
     ·exact .inr (.inr (.inr (.inr (.inr (.inr (.inl ⟨_, rfl, h1, h2, h3, (by omega), h5, (by rw [hsp, spW, if_neg h2, if_neg h3, if_neg h4, if_pos h5])⟩))))))
     ·exact .inr (.inr (.inr (.inr (.inr (.inr (.inr (⟨_, rfl, h1, h2, h3, (by omega), h5, (by rw [hsp, spW, if_neg h2, if_neg h3, if_neg h4, if_neg h5])⟩)))))))
theorem list_is (s : ByteArray) (c : UInt8) (h : s.data.toList = [c]) : (s.toList == [c]) = true := by
 rw [ByteArray.toList_eq, h]; simp
theorem list_no (s : ByteArray) (c : UInt8) (h : s.data.toList ≠ [c]) : (s.toList == [c]) = false := by
 rw [ByteArray.toList_eq]; simpa using h
theorem list_emp (s : ByteArray) (h : s.data.toList = []) : s.toList.isEmpty = true := by
 rw [ByteArray.toList_eq, h]; rfl
theorem list_full (s : ByteArray) (h : s.data.toList ≠ []) : s.toList.isEmpty = false := by
 rw [ByteArray.toList_eq]; cases hl : s.data.toList with
 | nil => exact absurd hl h
 | cons a t => rfl
theorem wd_nil (l : List UInt8) (i : Nat) : wd l i i = [] := by unfold wd; simp
theorem wd_ne (l : List UInt8) (i j : Nat) (hj : j <= l.length) (h : i < j) : wd l i j ≠ [] := by
 intro e; have := wd_len l i j hj; rw [e] at this; simp at this; omega
theorem getD_byte (s : ByteArray) (i : Nat) (h : i < s.size) : s.data.toList.getD i 0 = s[i] := by
 rw [List.getD_eq_getElem?_getD, List.getElem?_eq_getElem (by rw [size_list]; exact h)]; rfl
theorem ext_size (s : ByteArray) (i j : Nat) (h : j <= s.size) : (s.extract i j).size = j - i := by
 rw [ByteArray.size_extract]; omega
end Go.Proofs.YtdnklgceghllaaaGreatDoor.K
