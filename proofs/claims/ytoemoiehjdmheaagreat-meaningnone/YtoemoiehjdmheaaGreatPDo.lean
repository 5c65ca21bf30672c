import Derived.Test.YtoemoiehjdmheaaGreatPTake
import Derived.Great.BuildSlice
namespace Go.Proofs.YtoemoiehjdmheaaGreat.P
open Go.RowKit
open Go.Proofs
set_option linter.unusedVariables false
set_option linter.unusedSimpArgs false
set_option maxHeartbeats 2000000
set_option maxRecDepth 100000
def EB (W : World) (g : Nat) (op : Int) (name : ByteArray) (i o c : Int) (b : Bool) (k bl s : Int) (f : Value) : Prop := W.heap[g]? = some (.cells #[.int .i64 op, .string name, .int .i64 i, .int .i64 o, .int .i64 c, .bool b, .int .i64 k, .int .i64 bl, .int .i64 s, f] 160 (0, 0))
theorem ent_block (w1 : World) (op : Int) (name : ByteArray) (i o c : Int) (b : Bool) (k bl s : Int) (f : Value) : ∃ w2, (w1.alloc (.cells #[.int .i64 0, .string { data := #[] }, .int .i64 0, .int .i64 0, .int .i64 0, .bool false, .int .i64 0, .int .i64 0, .int .i64 0, .nilFunc] 160)).setRow w1.heap.size #[.int .i64 op, .string name, .int .i64 i, .int .i64 o, .int .i64 c, .bool b, .int .i64 k, .int .i64 bl, .int .i64 s, f] = w2 /\ EB w2 w1.heap.size op name i o c b k bl s f /\ Below w1.heap.size w1 w2 :=
 ⟨_, rfl, setRow_heap _ _ _ _ _ _ (heap_alloc_new w1 _), Below.setRow (bel_alloc w1 _) _ (Nat.le_refl _) _⟩
theorem eqF (W : World) (f : Fn) (a b : Array Value) : (binOp .eql 158 (.func f a b) .nilFunc).run Tryz.prog W = .ok (.bool false) W := by
 have h : ∀ d : Nat, (Op.equalIn (d + 1) 158 (.func f a b) .nilFunc).run Tryz.prog W = .ok false W := fun d => by
  simp [Op.equalIn, run_underlying Tryz.underlying158]
 have h2 : (Op.equal 158 (.func f a b) .nilFunc).run Tryz.prog W = .ok false W := h 9999
 simp [binOp, h2]
theorem do_need (op : Int) (name : ByteArray) (i o c : Int) (b : Bool) (k bl s : Int) (g : Nat)
  (hE : ∀ w, Calls Tryz.prog 58 #[.int .i64 op] w fun e w' => e = .returned (entV op name i o c b k bl s (.func (.func g) #[] #[])) /\ Below w.heap.size w w')
  (bd br bm : Nat) (F : Nat -> Prop) (D : List Int) (R : List (Int × Int)) (m : M.MS) (W : World) (h : PS W bd br bm F D R m) (v : Int) (hn : S.need D.length i o = v) (hv : (v != 0) = true) :
  Calls Tryz.prog 72 #[.int .i64 op, .pointer (some ⟨bd, 0, none⟩), .pointer (some ⟨br, 0, none⟩), .pointer (some ⟨bm, 0, none⟩)] W fun e W' => e = .returned (.int .i64 v) /\ Below W.heap.size W W' := by
 have qF := eqF
 go_enter Tryz.func72, Tryz.ntmps72
 go_wp2_with fail
 refine (hE _).mono ?_
 rintro e w1 ⟨rfl, h1⟩
 unfold entV
 obtain ⟨w2, hw2, hB2, h2⟩ := ent_block w1 op name i o c b k bl s (.func (.func g) #[] #[])
 have hb : Below W.heap.size W w2 := h1.trans ⟨h2.os, h2.tape, h2.output, h2.size, fun k hk => h2.block k (Nat.lt_of_lt_of_le hk h1.size)⟩
 have hP := h.below hb
 have hN := S.dneed bd D i o w2 hP.d
 rw [hn] at hN
 have c2 := S.cell_of w2 w1.heap.size 2 _ 160 _ hB2 rfl
 have c3 := S.cell_of w2 w1.heap.size 3 _ 160 _ hB2 rfl
 have c9 := S.cell_of w2 w1.heap.size 9 _ 160 _ hB2 rfl
 have hg1 : W.heap.size <= w1.heap.size := h1.size
 have H := S.hid h
 have HP := S.hid hP
 have HB := S.hid hb
 clear h hP hb h1 h2
 go_wp2_with (refine wpList_store_row rfl 160 _ _ rfl w1.heap.size _ rfl rfl 160 zE (heap_alloc_new w1 _) (by exact sizeE) (by rfl) (by simp [Value.oneCell']) ?_)
 refine hN.mono ?_
 rintro e w3 ⟨rfl, hw3⟩
 obtain rfl := hw3.symm
 go_wp2
 go_ret
 exact ⟨rfl, HB.out⟩
theorem do_look (op : Int) (name : ByteArray) (i o c : Int) (b : Bool) (k bl s : Int) (g : Nat)
  (hE : ∀ w, Calls Tryz.prog 58 #[.int .i64 op] w fun e w' => e = .returned (entV op name i o c b k bl s (.func (.func g) #[] #[])) /\ Below w.heap.size w w')
  (bd br bm : Nat) (F : Nat -> Prop) (D : List Int) (R : List (Int × Int)) (m : M.MS) (W : World) (h : PS W bd br bm F D R m) (hn : S.need D.length i o = 0) (u v : Int) (hv : (v != 0) = true)
  (hL : ∀ w, S.HasR w br R -> Calls Tryz.prog 92 #[.agg #[.int .i64 op, .string name, .int .i64 i, .int .i64 o, .int .i64 c, .bool b, .int .i64 k, .int .i64 bl, .int .i64 s, .func (.func g) #[] #[]], .pointer (some ⟨br, 0, none⟩)] w fun e w' => e = .returned (.tuple #[.int .u16 u, .int .i64 v]) /\ Below w.heap.size w w') :
  Calls Tryz.prog 72 #[.int .i64 op, .pointer (some ⟨bd, 0, none⟩), .pointer (some ⟨br, 0, none⟩), .pointer (some ⟨bm, 0, none⟩)] W fun e W' => e = .returned (.int .i64 v) /\ Below W.heap.size W W' := by
 have qF := eqF
 go_enter Tryz.func72, Tryz.ntmps72
 go_wp2_with fail
 refine (hE _).mono ?_
 rintro e w1 ⟨rfl, h1⟩
 unfold entV
 obtain ⟨w2, hw2, hB2, h2⟩ := ent_block w1 op name i o c b k bl s (.func (.func g) #[] #[])
 have hb : Below W.heap.size W w2 := h1.trans ⟨h2.os, h2.tape, h2.output, h2.size, fun k hk => h2.block k (Nat.lt_of_lt_of_le hk h1.size)⟩
 have hP := h.below hb
 have hN := S.dneed bd D i o w2 hP.d
 rw [hn] at hN
 have c2 := S.cell_of w2 w1.heap.size 2 _ 160 _ hB2 rfl
 have c3 := S.cell_of w2 w1.heap.size 3 _ 160 _ hB2 rfl
 have c9 := S.cell_of w2 w1.heap.size 9 _ 160 _ hB2 rfl
 have hg1 : W.heap.size <= w1.heap.size := h1.size
 have H := S.hid h
 have HP := S.hid hP
 have HB := S.hid hb
 clear h hP hb h1 h2
 go_wp2_with (refine wpList_store_row rfl 160 _ _ rfl w1.heap.size _ rfl rfl 160 zE (heap_alloc_new w1 _) (by exact sizeE) (by rfl) (by simp [Value.oneCell']) ?_)
 refine hN.mono ?_
 rintro e w3 ⟨rfl, hw3⟩
 obtain rfl := hw3.symm
 have hLk := hL w2 HP.out.r
 go_wp2_with (refine wpList_load_row rfl 160 _ rfl w1.heap.size rfl 160 _ (0, 0) _ hB2 Tryz.underlying160 rfl (by exact sizeE) ?_)
 refine hLk.mono ?_
 rintro e w3 ⟨rfl, h3⟩
 have hb3 : Below W.heap.size W w3 := HB.out.trans ⟨h3.os, h3.tape, h3.output, h3.size, fun k hk => h3.block k (Nat.lt_of_lt_of_le hk HB.out.size)⟩
 clear h3
 go_wp2
 go_ret
 exact ⟨rfl, hb3⟩
theorem do_rover (op : Int) (name : ByteArray) (i o c : Int) (b : Bool) (k bl s : Int) (g : Nat)
  (hE : ∀ w, Calls Tryz.prog 58 #[.int .i64 op] w fun e w' => e = .returned (entV op name i o c b k bl s (.func (.func g) #[] #[])) /\ Below w.heap.size w w')
  (bd br bm : Nat) (F : Nat -> Prop) (D : List Int) (R : List (Int × Int)) (m : M.MS) (W : World) (h : PS W bd br bm F D R m) (hn : S.need D.length i o = 0) (u : Int) (hs0 : 0 <= s) (hs1 : s <= 2) (hr : 128 - s < (R.length : Int))
  (hL : ∀ w, S.HasR w br R -> Calls Tryz.prog 92 #[.agg #[.int .i64 op, .string name, .int .i64 i, .int .i64 o, .int .i64 c, .bool b, .int .i64 k, .int .i64 bl, .int .i64 s, .func (.func g) #[] #[]], .pointer (some ⟨br, 0, none⟩)] w fun e w' => e = .returned (.tuple #[.int .u16 u, .int .i64 0]) /\ Below w.heap.size w w') :
  Calls Tryz.prog 72 #[.int .i64 op, .pointer (some ⟨bd, 0, none⟩), .pointer (some ⟨br, 0, none⟩), .pointer (some ⟨bm, 0, none⟩)] W fun e W' => e = .returned (.int .i64 4) /\ Below W.heap.size W W' := by
 have qF := eqF
 go_enter Tryz.func72, Tryz.ntmps72
 go_wp2_with fail
 refine (hE _).mono ?_
 rintro e w1 ⟨rfl, h1⟩
 unfold entV
 obtain ⟨w2, hw2, hB2, h2⟩ := ent_block w1 op name i o c b k bl s (.func (.func g) #[] #[])
 have hb : Below W.heap.size W w2 := h1.trans ⟨h2.os, h2.tape, h2.output, h2.size, fun k hk => h2.block k (Nat.lt_of_lt_of_le hk h1.size)⟩
 have hP := h.below hb
 have hN := S.dneed bd D i o w2 hP.d
 rw [hn] at hN
 have c2 := S.cell_of w2 w1.heap.size 2 _ 160 _ hB2 rfl
 have c3 := S.cell_of w2 w1.heap.size 3 _ 160 _ hB2 rfl
 have c9 := S.cell_of w2 w1.heap.size 9 _ 160 _ hB2 rfl
 have hg1 : W.heap.size <= w1.heap.size := h1.size
 have H := S.hid h
 have HP := S.hid hP
 have HB := S.hid hb
 clear h hP hb h1 h2
 go_wp2_with (refine wpList_store_row rfl 160 _ _ rfl w1.heap.size _ rfl rfl 160 zE (heap_alloc_new w1 _) (by exact sizeE) (by rfl) (by simp [Value.oneCell']) ?_)
 refine hN.mono ?_
 rintro e w3 ⟨rfl, hw3⟩
 obtain rfl := hw3.symm
 have hLk := hL w2 HP.out.r
 go_wp2_with (refine wpList_load_row rfl 160 _ rfl w1.heap.size rfl 160 _ (0, 0) _ hB2 Tryz.underlying160 rfl (by exact sizeE) ?_)
 refine hLk.mono ?_
 rintro e w3 ⟨rfl, h3⟩
 have hB3 : EB w3 w1.heap.size op name i o c b k bl s (.func (.func g) #[] #[]) := (h3.block _ (S.lt_of hB2)).trans hB2
 have hb3 : Below W.heap.size W w3 := HB.out.trans ⟨h3.os, h3.tape, h3.output, h3.size, fun k hk => h3.block k (Nat.lt_of_lt_of_le hk HB.out.size)⟩
 have hP3 := H.out.below hb3
 have c8 := S.cell_of w3 w1.heap.size 8 _ 160 _ hB3 rfl
 have hR3 := hP3.r
 have e1 : IntKind.i64.wrap (128 - s) = 128 - s := S.i64_id _ (by omega) (by omega)
 have HP3 := S.hid hP3
 have HB3 := S.hid hb3
 have HE3 := S.hid hB3
 clear hP3 hb3 hB3 c2 c3 c9 hw2 hN hLk hB2
 go_wp2_with fail
 go_quiet (first | (go_at_call 30; refine Calls.quiet_of_same (S.rlen br R _ ?_); exact hR3.kept rfl))
 have HX := S.hid h3
 clear h3
 go_wp2
 go_ret
 have hb3 := HB3.out
 exact ⟨rfl, hb3.os, hb3.tape, hb3.output, hb3.size, hb3.block⟩
theorem do_ok (op : Int) (name : ByteArray) (i o c : Int) (b : Bool) (k bl s : Int) (g : Nat)
  (hE : ∀ w, Calls Tryz.prog 58 #[.int .i64 op] w fun e w' => e = .returned (entV op name i o c b k bl s (.func (.func g) #[] #[])) /\ Below w.heap.size w w')
  (bd br bm : Nat) (F : Nat -> Prop) (D : List Int) (R : List (Int × Int)) (m : M.MS) (W : World) (h : PS W bd br bm F D R m) (hn : S.need D.length i o = 0) (u : Int) (hs0 : 0 <= s) (hs1 : s <= 2) (hr : ¬ 128 - s < (R.length : Int))
  (hL : ∀ w, S.HasR w br R -> Calls Tryz.prog 92 #[.agg #[.int .i64 op, .string name, .int .i64 i, .int .i64 o, .int .i64 c, .bool b, .int .i64 k, .int .i64 bl, .int .i64 s, .func (.func g) #[] #[]], .pointer (some ⟨br, 0, none⟩)] w fun e w' => e = .returned (.tuple #[.int .u16 u, .int .i64 0]) /\ Below w.heap.size w w')
  (hcl : ∀ (args : Array Value) (w : World), (callFunc g args).run Tryz.prog w = .ok (.enter g args) w)
  (D0 : List Int) (x y z : Int)
  (hT : ∀ w, S.HasD w bd D -> Calls Tryz.prog 93 #[.pointer (some ⟨bd, 0, none⟩), .int .i64 i] w fun e w' => e = .returned (.agg #[.int .u16 x, .int .u16 y, .int .u16 z]) /\ S.HasD w' bd D0 /\ S.At bd w w')
  (D2 : List Int) (R2 : List (Int × Int)) (m2 : M.MS)
  (hG : ∀ (G : Nat -> Prop) (w : World), PS w bd br bm G D0 R m -> Calls Tryz.prog g #[.agg #[.int .i64 op, .int .u16 x, .int .u16 y, .int .u16 z, .int .u16 u, .pointer (some ⟨bd, 0, none⟩), .pointer (some ⟨br, 0, none⟩), .pointer (some ⟨bm, 0, none⟩)]] w fun e w' => e = .returned (.tuple #[]) /\ PD w w' bd br bm G D2 R2 m2) :
  Calls Tryz.prog 72 #[.int .i64 op, .pointer (some ⟨bd, 0, none⟩), .pointer (some ⟨br, 0, none⟩), .pointer (some ⟨bm, 0, none⟩)] W fun e W' => e = .returned (.int .i64 0) /\ PD W W' bd br bm F D2 R2 m2 := by
 have qF := eqF
 go_enter Tryz.func72, Tryz.ntmps72
 go_wp2_with fail
 refine (hE _).mono ?_
 rintro e w1 ⟨rfl, h1⟩
 unfold entV
 obtain ⟨w2, hw2, hB2, h2⟩ := ent_block w1 op name i o c b k bl s (.func (.func g) #[] #[])
 have hb : Below W.heap.size W w2 := h1.trans ⟨h2.os, h2.tape, h2.output, h2.size, fun k hk => h2.block k (Nat.lt_of_lt_of_le hk h1.size)⟩
 have hP := h.below hb
 have hN := S.dneed bd D i o w2 hP.d
 rw [hn] at hN
 have c2 := S.cell_of w2 w1.heap.size 2 _ 160 _ hB2 rfl
 have c3 := S.cell_of w2 w1.heap.size 3 _ 160 _ hB2 rfl
 have c9 := S.cell_of w2 w1.heap.size 9 _ 160 _ hB2 rfl
 have hg1 : W.heap.size <= w1.heap.size := h1.size
 have H := S.hid h
 have HP := S.hid hP
 have HB := S.hid hb
 clear h hP hb h1 h2
 go_wp2_with (refine wpList_store_row rfl 160 _ _ rfl w1.heap.size _ rfl rfl 160 zE (heap_alloc_new w1 _) (by exact sizeE) (by rfl) (by simp [Value.oneCell']) ?_)
 refine hN.mono ?_
 rintro e w3 ⟨rfl, hw3⟩
 obtain rfl := hw3.symm
 have hLk := hL w2 HP.out.r
 go_wp2_with (refine wpList_load_row rfl 160 _ rfl w1.heap.size rfl 160 _ (0, 0) _ hB2 Tryz.underlying160 rfl (by exact sizeE) ?_)
 refine hLk.mono ?_
 rintro e w3 ⟨rfl, h3⟩
 have hB3 : EB w3 w1.heap.size op name i o c b k bl s (.func (.func g) #[] #[]) := (h3.block _ (S.lt_of hB2)).trans hB2
 have hb3 : Below W.heap.size W w3 := HB.out.trans ⟨h3.os, h3.tape, h3.output, h3.size, fun k hk => h3.block k (Nat.lt_of_lt_of_le hk HB.out.size)⟩
 have hP3 := H.out.below hb3
 have c8 := S.cell_of w3 w1.heap.size 8 _ 160 _ hB3 rfl
 have hR3 := hP3.r
 have e1 : IntKind.i64.wrap (128 - s) = 128 - s := S.i64_id _ (by omega) (by omega)
 have HP3 := S.hid hP3
 have HB3 := S.hid hb3
 have HE3 := S.hid hB3
 clear hP3 hb3 hB3 c2 c3 c9 hw2 hN hLk hB2
 go_wp2_with fail
 go_quiet (first | (go_at_call 30; refine Calls.quiet_of_same (S.rlen br R _ ?_); exact hR3.kept rfl))
 obtain ⟨w4, hw4⟩ : ∃ w4, w3.drewN nq = w4 := ⟨_, rfl⟩
 have hB4 : EB w4 w1.heap.size op name i o c b k bl s (.func (.func g) #[] #[]) := by rw [<- hw4]; exact HE3.out
 have hb4 : Below W.heap.size W w4 := by rw [<- hw4]; have q := HB3.out; exact ⟨q.os, q.tape, q.output, q.size, q.block⟩
 have hP4 := H.out.below hb4
 have hTk := hT w4 hP4.d
 have c2 := S.cell_of w4 w1.heap.size 2 _ 160 _ hB4 rfl
 have HP4 := S.hid hP4
 have HB4 := S.hid hb4
 have HE4 := S.hid hB4
 clear hP4 hb4 hB4 c8 hR3 h3 HP3 HB3 HE3 HP
 rw [hw4]
 clear hw4
 go_wp2_with fail
 refine hTk.mono ?_
 rintro e w5 ⟨rfl, h5, t5⟩
 have hP5 := HP4.out.put h5 t5
 have hne : w1.heap.size ≠ bd := by have := S.lt_of H.out.d.1; omega
 have hB5 : EB w5 w1.heap.size op name i o c b k bl s (.func (.func g) #[] #[]) := (t5.block _ (S.lt_of HE4.out) hne).trans HE4.out
 obtain ⟨w6, hw6⟩ : ∃ w6, w5.alloc (.cells #[.int .u16 x, .int .u16 y, .int .u16 z] 205) = w6 := ⟨_, rfl⟩
 have b6 : Below w5.heap.size w5 w6 := by rw [<- hw6]; exact bel_alloc w5 _
 have a6 : w6.heap[w5.heap.size]? = some (.cells [.int .u16 x, .int .u16 y, .int .u16 z].toArray 205 (0, 0)) := by rw [<- hw6]; exact heap_alloc_new w5 _
 have hB6 : EB w6 w1.heap.size op name i o c b k bl s (.func (.func g) #[] #[]) := (b6.block _ (S.lt_of hB5)).trans hB5
 have c9 := S.cell_of w6 w1.heap.size 9 _ 160 _ hB6 rfl
 have d0 := S.cell_of w6 w5.heap.size 0 _ 205 _ a6 rfl
 have d1 := S.cell_of w6 w5.heap.size 1 _ 205 _ a6 rfl
 have d2 := S.cell_of w6 w5.heap.size 2 _ 205 _ a6 rfl
 have hGk := hG _ w6 (hP5.s.below b6)
 have HX := S.hid (And.intro hP5 b6)
 clear hP5 b6 a6 hB5 hB6 t5 h5 c2 hTk
 go_wp2_with fail
 refine hGk.mono ?_
 rintro e w7 ⟨rfl, h7⟩
 go_wp2
 go_ret
 have hx := HX.out.1
 exact ⟨rfl, PD.ahead (S.lt_of H.out.d.1) (S.lt_of H.out.r.1) HB4.out (hx.trans (PD.ahead (S.lt_of hx.s.d.1) (S.lt_of hx.s.r.1) HX.out.2 h7))⟩
set_option maxHeartbeats 2000000
set_option maxRecDepth 100000
def tops (D : List Int) (i : Nat) : List Int := D.drop (D.length - i)
def rest (D : List Int) (i : Nat) : List Int := D.take (D.length - i)
def xAt (D : List Int) (i j : Nat) : Int := ((tops D i)[j]?).getD 0
theorem tops_len (D : List Int) (i : Nat) (h : i <= D.length) : (tops D i).length = i := by rw [tops, List.length_drop]; omega
theorem rest_len (D : List Int) (i : Nat) : (rest D i).length = D.length - i := by rw [rest, List.length_take]; omega
theorem parts (D : List Int) (i : Nat) : D = rest D i ++ tops D i := (List.take_append_drop _ _).symm
theorem list1 : ∀ l : List Int, l.length = 1 -> l = [(l[0]?).getD 0]
 | [a], _ => rfl
theorem list2 : ∀ l : List Int, l.length = 2 -> l = [(l[0]?).getD 0, (l[1]?).getD 0]
 | [a, b], _ => rfl
theorem list3 : ∀ l : List Int, l.length = 3 -> l = [(l[0]?).getD 0, (l[1]?).getD 0, (l[2]?).getD 0]
 | [a, b, c], _ => rfl
theorem xAt_hi (D : List Int) (i j : Nat) (hd : i <= D.length) (h : i <= j) : xAt D i j = 0 := by
 rw [xAt, List.getElem?_eq_none (by rw [tops_len D i hd]; exact h)]; rfl
def lk (k : Int) (bl : Nat) (R : List (Int × Int)) : Int × Int :=
 if k = 0 then (0, 0) else if R.length <= bl then (0, 3) else if ((R[R.length - 1 - bl]?).getD (0, 0)).1 = k then (((R[R.length - 1 - bl]?).getD (0, 0)).2, 0) else (0, 5)
def flt (i o : Nat) (k : Int) (bl s : Nat) (D : List Int) (R : List (Int × Int)) : Int :=
 if S.need D.length i o ≠ 0 then S.need D.length i o else if (lk k bl R).2 ≠ 0 then (lk k bl R).2 else if 128 < R.length + s then 4 else 0
theorem take_any (i : Nat) (hi : i <= 3) (bd : Nat) (D : List Int) (hD : i <= D.length) (W : World) (h : S.HasD W bd D) :
  Calls Tryz.prog 93 #[.pointer (some ⟨bd, 0, none⟩), .int .i64 (i : Int)] W fun e W' => e = .returned (.agg #[.int .u16 (xAt D i 0), .int .u16 (xAt D i 1), .int .u16 (xAt D i 2)]) /\ S.HasD W' bd (rest D i) /\ S.At bd W W' := by
 have hl := tops_len D i hD
 have hp := parts D i
 have e0 := xAt_hi D i 0 hD
 have e1 := xAt_hi D i 1 hD
 have e2 := xAt_hi D i 2 hD
 rcases (show i = 0 \/ i = 1 \/ i = 2 \/ i = 3 by omega) with rfl | rfl | rfl | rfl
 ·rw [e0 (by omega), e1 (by omega), e2 (by omega)]
  have : rest D 0 = D := by simp [rest]
  rw [this]
  exact take_0 bd D W h
 ·rw [e1 (by omega), e2 (by omega)]
  refine take_1 bd (rest D 1) (xAt D 1 0) W ?_
  rw [xAt, <- list1 _ hl, <- hp]; exact h
 ·rw [e2 (by omega)]
  refine take_2 bd (rest D 2) (xAt D 2 0) (xAt D 2 1) W ?_
  rw [xAt, xAt, <- list2 _ hl, <- hp]; exact h
 ·refine take_3 bd (rest D 3) (xAt D 3 0) (xAt D 3 1) (xAt D 3 2) W ?_
  rw [xAt, xAt, xAt, <- list3 _ hl, <- hp]; exact h
theorem look_any (op : Int) (name : ByteArray) (i o c : Int) (b : Bool) (k : Int) (bl : Nat) (s : Int) (g : Nat) (br : Nat) (R : List (Int × Int)) (W : World) (h : S.HasR W br R) :
  Calls Tryz.prog 92 #[.agg #[.int .i64 op, .string name, .int .i64 i, .int .i64 o, .int .i64 c, .bool b, .int .i64 k, .int .i64 (bl : Int), .int .i64 s, .func (.func g) #[] #[]], .pointer (some ⟨br, 0, none⟩)] W fun e W' => e = .returned (.tuple #[.int .u16 (lk k bl R).1, .int .i64 (lk k bl R).2]) /\ Below W.heap.size W W' := by
 by_cases a0 : k = 0
 ·subst a0
  rw [lk, if_pos rfl]
  exact look_none op name i o c b bl s _ rfl _ W
 have hk : (k == 0) = false := by simpa using a0
 have hb := bel_alloc W (.cells #[.int .i64 op, .string name, .int .i64 i, .int .i64 o, .int .i64 c, .bool b, .int .i64 k, .int .i64 (bl : Int), .int .i64 s, .func (.func g) #[] #[]] 160)
 have h' := h.below hb
 rw [lk, if_neg a0]
 by_cases a1 : R.length <= bl
 ·rw [if_pos a1]
  exact look_at op name i o c b k bl s hk _ _ 0 3 W ((S.rat_under br R bl k (.inr (by omega)) _ h').mono fun e w' ⟨x, y⟩ => ⟨x, 0, y⟩)
 rw [if_neg a1]
 have hj : R.length - 1 - bl < R.length := by omega
 have hg : R[R.length - 1 - bl]? = some ((R[R.length - 1 - bl]?).getD (0, 0)) := by rw [List.getElem?_eq_getElem hj]; rfl
 generalize (R[R.length - 1 - bl]?).getD (0, 0) = q at *
 obtain ⟨q1, q2⟩ := q
 by_cases a2 : q1 = k
 ·subst a2
  rw [if_pos rfl]
  exact look_at op name i o c b q1 bl s hk _ _ q2 0 W (S.rat_ok br R (R.length - 1 - bl) bl (by omega) q1 q2 hg _ h')
 ·rw [if_neg a2]
  exact look_at op name i o c b k bl s hk _ _ 0 5 W (S.rat_kind br R (R.length - 1 - bl) bl (by omega) q1 q2 hg k a2 _ h')
theorem do_row (op : Int) (name : ByteArray) (i o : Nat) (c : Int) (b : Bool) (k : Int) (bl s : Nat) (g : Nat) (hi : i <= 3) (hs : s <= 2)
  (hE : ∀ w, Calls Tryz.prog 58 #[.int .i64 op] w fun e w' => e = .returned (entV op name i o c b k bl s (.func (.func g) #[] #[])) /\ Below w.heap.size w w')
  (hcl : ∀ (args : Array Value) (w : World), (callFunc g args).run Tryz.prog w = .ok (.enter g args) w)
  (bd br bm : Nat) (F : Nat -> Prop) (D : List Int) (R : List (Int × Int)) (m : M.MS) (W : World) (h : PS W bd br bm F D R m)
  (P : List Int) (Q : List (Int × Int)) (m2 : M.MS)
  (hG : flt i o k bl s D R = 0 -> ∀ (G : Nat -> Prop) (w : World), PS w bd br bm G (rest D i) R m -> Calls Tryz.prog g #[.agg #[.int .i64 op, .int .u16 (xAt D i 0), .int .u16 (xAt D i 1), .int .u16 (xAt D i 2), .int .u16 (lk k bl R).1, .pointer (some ⟨bd, 0, none⟩), .pointer (some ⟨br, 0, none⟩), .pointer (some ⟨bm, 0, none⟩)]] w fun e w' => e = .returned (.tuple #[]) /\ PD w w' bd br bm G (rest D i ++ P) Q m2) :
  Calls Tryz.prog 72 #[.int .i64 op, .pointer (some ⟨bd, 0, none⟩), .pointer (some ⟨br, 0, none⟩), .pointer (some ⟨bm, 0, none⟩)] W fun e W' => e = .returned (.int .i64 (flt i o k bl s D R)) /\ (flt i o k bl s D R ≠ 0 -> Below W.heap.size W W') /\ (flt i o k bl s D R = 0 -> PD W W' bd br bm F (rest D i ++ P) Q m2) := by
 by_cases a0 : S.need D.length i o = 0
 ·by_cases a1 : (lk k bl R).2 = 0
  ·by_cases a2 : 128 < R.length + s
   ·have hf : flt i o k bl s D R = 4 := by rw [flt, if_neg (by simpa using a0), if_neg (by simpa using a1), if_pos a2]
    refine (do_rover op name i o c b k bl s g hE bd br bm F D R m W h a0 (lk k bl R).1 (by omega) (by omega) (by omega) (fun w hw => ?_)).mono fun e W' ⟨x, y⟩ => ⟨by rw [hf]; exact x, fun _ => y, fun q => by rw [hf] at q; cases q⟩
    have := look_any op name i o c b k bl s g br R w hw
    rw [a1] at this; exact this
   ·have hf : flt i o k bl s D R = 0 := by rw [flt, if_neg (by simpa using a0), if_neg (by simpa using a1), if_neg a2]
    have hD : i <= D.length := by
     by_cases c : i <= D.length
     ·exact c
     ·have : S.need D.length i o = 1 := by rw [S.need, if_pos (by omega)]
      omega
    refine (do_ok op name i o c b k bl s g hE bd br bm F D R m W h a0 (lk k bl R).1 (by omega) (by omega) (by omega) (fun w hw => ?_) hcl (rest D i) _ _ _ (fun w hw => take_any i hi bd D hD w hw) _ _ _ (hG hf)).mono fun e W' ⟨x, y⟩ => ⟨by rw [hf]; exact x, fun q => absurd hf q, fun _ => y⟩
    have := look_any op name i o c b k bl s g br R w hw
    rw [a1] at this; exact this
  ·have hf : flt i o k bl s D R = (lk k bl R).2 := by rw [flt, if_neg (by simpa using a0), if_pos a1]
   refine (do_look op name i o c b k bl s g hE bd br bm F D R m W h a0 (lk k bl R).1 (lk k bl R).2 (by simpa using a1) (fun w hw => look_any op name i o c b k bl s g br R w hw)).mono fun e W' ⟨x, y⟩ => ⟨by rw [hf]; exact x, fun _ => y, fun q => by rw [hf] at q; exact absurd q a1⟩
 ·have hf : flt i o k bl s D R = S.need D.length i o := by rw [flt, if_pos a0]
  exact (do_need op name i o c b k bl s g hE bd br bm F D R m W h _ rfl (by simpa using a0)).mono fun e W' ⟨x, y⟩ => ⟨by rw [hf]; exact x, fun _ => y, fun q => by rw [hf] at q; exact absurd q a0⟩
end Go.Proofs.YtoemoiehjdmheaaGreat.P
