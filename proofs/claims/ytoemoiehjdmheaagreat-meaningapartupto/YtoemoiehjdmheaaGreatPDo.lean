import Derived.Test.YtoemoiehjdmheaaGreatPDoes
import Derived.Great.BuildSlice
namespace Go.Proofs.YtoemoiehjdmheaaGreat.P
open Go.RowKit
open Go.Proofs
set_option linter.unusedVariables false
set_option linter.unusedSimpArgs false
set_option maxHeartbeats 2000000
set_option maxRecDepth 100000
def EB (W : World) (g : Nat) (op : Int) (name : ByteArray) (i o c : Int) (b : Bool) (k bl s : Int) (f : Value) : Prop := W.heap[g]? = some (.cells #[.int .i64 op, .string name, .int .i64 i, .int .i64 o, .int .i64 c, .bool b, .int .i64 k, .int .i64 bl, .int .i64 s, f] 160 (0, 0))
theorem ent_block (w1 : World) (op : Int) (name : ByteArray) (i o c : Int) (b : Bool) (k bl s : Int) (f : Value) : ∃ w2, (w1.alloc (.cells #[.int .i64 0, .string { data := #[] }, .int .i64 0, .int .i64 0, .int .i64 0, .bool false, .int .i64 0, .int .i64 0, .int .i64 0, .nilFunc] 160)).setRow w1.heap.size #[.int .i64 op, .string name, .int .i64 i, .int .i64 o, .int .i64 c, .bool b, .int .i64 k, .int .i64 bl, .int .i64 s, f] = w2 /\ EB w2 w1.heap.size op name i o c b k bl s f /\ Below w1.heap.size w1 w2 :=
 ⟨_, rfl, setRow_heap _ _ _ _ _ _ (heap_alloc_new w1 _), Below.setRow (bel_alloc w1 _) _ (Nat.le_refl _) _⟩
theorem eqF (W : World) (f : Fn) (a b : Array Value) : (binOp .eql 158 (.func f a b) .nilFunc).run Tryz.prog W = .ok (.bool false) W := by
 have h : ∀ d : Nat, (Op.equalIn (d + 1) 158 (.func f a b) .nilFunc).run Tryz.prog W = .ok false W := fun d => by
  simp [Op.equalIn, run_underlying Tryz.underlying158]
 have h2 : (Op.equal 158 (.func f a b) .nilFunc).run Tryz.prog W = .ok false W := h 9999
 simp [binOp, h2]
theorem do_need (op : Int) (name : ByteArray) (i o c : Int) (b : Bool) (k bl s : Int) (g : Nat)
  (hE : ∀ w, Calls Tryz.prog 58 #[.int .i64 op] w fun e w' => e = .returned (entV op name i o c b k bl s (.func (.func g) #[] #[])) /\ Below w.heap.size w w')
  (bd br bm : Nat) (F : Nat -> Prop) (D : List Int) (R : List (Int × Int)) (m : M.MS) (W : World) (h : PS W bd br bm F D R m) (v : Int) (hn : S.need D.length i o = v) (hv : (v != 0) = true) :
  Calls Tryz.prog 72 #[.int .i64 op, .pointer (some ⟨bd, 0, none⟩), .pointer (some ⟨br, 0, none⟩), .pointer (some ⟨bm, 0, none⟩)] W fun e W' => e = .returned (.int .i64 v) /\ Below W.heap.size W W' := by
 have qF := eqF
 go_enter Tryz.func72, Tryz.ntmps72
 go_wp2_with fail
 refine (hE _).mono ?_
 rintro e w1 ⟨rfl, h1⟩
 unfold entV
 obtain ⟨w2, hw2, hB2, h2⟩ := ent_block w1 op name i o c b k bl s (.func (.func g) #[] #[])
 have hb : Below W.heap.size W w2 := h1.trans ⟨h2.os, h2.tape, h2.output, h2.size, fun k hk => h2.block k (Nat.lt_of_lt_of_le hk h1.size)⟩
 have hP := h.below hb
 have hN := S.dneed bd D i o w2 hP.d
 rw [hn] at hN
 have c2 := S.cell_of w2 w1.heap.size 2 _ 160 _ hB2 rfl
 have c3 := S.cell_of w2 w1.heap.size 3 _ 160 _ hB2 rfl
 have c9 := S.cell_of w2 w1.heap.size 9 _ 160 _ hB2 rfl
 have hg1 : W.heap.size <= w1.heap.size := h1.size
 have H := S.hid h
 have HP := S.hid hP
 have HB := S.hid hb
 clear h hP hb h1 h2
 go_wp2_with (refine wpList_store_row rfl 160 _ _ rfl w1.heap.size _ rfl rfl 160 zE (heap_alloc_new w1 _) (by exact sizeE) (by rfl) (by simp [Value.oneCell']) ?_)
 refine hN.mono ?_
 rintro e w3 ⟨rfl, hw3⟩
 obtain rfl := hw3.symm
 go_wp2
 go_ret
 exact ⟨rfl, HB.out⟩
theorem do_look (op : Int) (name : ByteArray) (i o c : Int) (b : Bool) (k bl s : Int) (g : Nat)
  (hE : ∀ w, Calls Tryz.prog 58 #[.int .i64 op] w fun e w' => e = .returned (entV op name i o c b k bl s (.func (.func g) #[] #[])) /\ Below w.heap.size w w')
  (bd br bm : Nat) (F : Nat -> Prop) (D : List Int) (R : List (Int × Int)) (m : M.MS) (W : World) (h : PS W bd br bm F D R m) (hn : S.need D.length i o = 0) (u v : Int) (hv : (v != 0) = true)
  (hL : ∀ w, S.HasR w br R -> Calls Tryz.prog 92 #[.agg #[.int .i64 op, .string name, .int .i64 i, .int .i64 o, .int .i64 c, .bool b, .int .i64 k, .int .i64 bl, .int .i64 s, .func (.func g) #[] #[]], .pointer (some ⟨br, 0, none⟩)] w fun e w' => e = .returned (.tuple #[.int .u16 u, .int .i64 v]) /\ Below w.heap.size w w') :
  Calls Tryz.prog 72 #[.int .i64 op, .pointer (some ⟨bd, 0, none⟩), .pointer (some ⟨br, 0, none⟩), .pointer (some ⟨bm, 0, none⟩)] W fun e W' => e = .returned (.int .i64 v) /\ Below W.heap.size W W' := by
 have qF := eqF
 go_enter Tryz.func72, Tryz.ntmps72
 go_wp2_with fail
 refine (hE _).mono ?_
 rintro e w1 ⟨rfl, h1⟩
 unfold entV
 obtain ⟨w2, hw2, hB2, h2⟩ := ent_block w1 op name i o c b k bl s (.func (.func g) #[] #[])
 have hb : Below W.heap.size W w2 := h1.trans ⟨h2.os, h2.tape, h2.output, h2.size, fun k hk => h2.block k (Nat.lt_of_lt_of_le hk h1.size)⟩
 have hP := h.below hb
 have hN := S.dneed bd D i o w2 hP.d
 rw [hn] at hN
 have c2 := S.cell_of w2 w1.heap.size 2 _ 160 _ hB2 rfl
 have c3 := S.cell_of w2 w1.heap.size 3 _ 160 _ hB2 rfl
 have c9 := S.cell_of w2 w1.heap.size 9 _ 160 _ hB2 rfl
 have hg1 : W.heap.size <= w1.heap.size := h1.size
 have H := S.hid h
 have HP := S.hid hP
 have HB := S.hid hb
 clear h hP hb h1 h2
 go_wp2_with (refine wpList_store_row rfl 160 _ _ rfl w1.heap.size _ rfl rfl 160 zE (heap_alloc_new w1 _) (by exact sizeE) (by rfl) (by simp [Value.oneCell']) ?_)
 refine hN.mono ?_
 rintro e w3 ⟨rfl, hw3⟩
 obtain rfl := hw3.symm
 have hLk := hL w2 HP.out.r
 go_wp2_with (refine wpList_load_row rfl 160 _ rfl w1.heap.size rfl 160 _ (0, 0) _ hB2 Tryz.underlying160 rfl (by exact sizeE) ?_)
 refine hLk.mono ?_
 rintro e w3 ⟨rfl, h3⟩
 have hb3 : Below W.heap.size W w3 := HB.out.trans ⟨h3.os, h3.tape, h3.output, h3.size, fun k hk => h3.block k (Nat.lt_of_lt_of_le hk HB.out.size)⟩
 clear h3
 go_wp2
 go_ret
 exact ⟨rfl, hb3⟩
theorem do_rover (op : Int) (name : ByteArray) (i o c : Int) (b : Bool) (k bl s : Int) (g : Nat)
  (hE : ∀ w, Calls Tryz.prog 58 #[.int .i64 op] w fun e w' => e = .returned (entV op name i o c b k bl s (.func (.func g) #[] #[])) /\ Below w.heap.size w w')
  (bd br bm : Nat) (F : Nat -> Prop) (D : List Int) (R : List (Int × Int)) (m : M.MS) (W : World) (h : PS W bd br bm F D R m) (hn : S.need D.length i o = 0) (u : Int) (hs0 : 0 <= s) (hs1 : s <= 2) (hr : 128 - s < (R.length : Int))
  (hL : ∀ w, S.HasR w br R -> Calls Tryz.prog 92 #[.agg #[.int .i64 op, .string name, .int .i64 i, .int .i64 o, .int .i64 c, .bool b, .int .i64 k, .int .i64 bl, .int .i64 s, .func (.func g) #[] #[]], .pointer (some ⟨br, 0, none⟩)] w fun e w' => e = .returned (.tuple #[.int .u16 u, .int .i64 0]) /\ Below w.heap.size w w') :
  Calls Tryz.prog 72 #[.int .i64 op, .pointer (some ⟨bd, 0, none⟩), .pointer (some ⟨br, 0, none⟩), .pointer (some ⟨bm, 0, none⟩)] W fun e W' => e = .returned (.int .i64 4) /\ Below W.heap.size W W' := by
 have qF := eqF
 go_enter Tryz.func72, Tryz.ntmps72
 go_wp2_with fail
 refine (hE _).mono ?_
 rintro e w1 ⟨rfl, h1⟩
 unfold entV
 obtain ⟨w2, hw2, hB2, h2⟩ := ent_block w1 op name i o c b k bl s (.func (.func g) #[] #[])
 have hb : Below W.heap.size W w2 := h1.trans ⟨h2.os, h2.tape, h2.output, h2.size, fun k hk => h2.block k (Nat.lt_of_lt_of_le hk h1.size)⟩
 have hP := h.below hb
 have hN := S.dneed bd D i o w2 hP.d
 rw [hn] at hN
 have c2 := S.cell_of w2 w1.heap.size 2 _ 160 _ hB2 rfl
 have c3 := S.cell_of w2 w1.heap.size 3 _ 160 _ hB2 rfl
 have c9 := S.cell_of w2 w1.heap.size 9 _ 160 _ hB2 rfl
 have hg1 : W.heap.size <= w1.heap.size := h1.size
 have H := S.hid h
 have HP := S.hid hP
 have HB := S.hid hb
 clear h hP hb h1 h2
 go_wp2_with (refine wpList_store_row rfl 160 _ _ rfl w1.heap.size _ rfl rfl 160 zE (heap_alloc_new w1 _) (by exact sizeE) (by rfl) (by simp [Value.oneCell']) ?_)
 refine hN.mono ?_
 rintro e w3 ⟨rfl, hw3⟩
 obtain rfl := hw3.symm
 have hLk := hL w2 HP.out.r
 go_wp2_with (refine wpList_load_row rfl 160 _ rfl w1.heap.size rfl 160 _ (0, 0) _ hB2 Tryz.underlying160 rfl (by exact sizeE) ?_)
 refine hLk.mono ?_
 rintro e w3 ⟨rfl, h3⟩
 have hB3 : EB w3 w1.heap.size op name i o c b k bl s (.func (.func g) #[] #[]) := (h3.block _ (S.lt_of hB2)).trans hB2
 have hb3 : Below W.heap.size W w3 := HB.out.trans ⟨h3.os, h3.tape, h3.output, h3.size, fun k hk => h3.block k (Nat.lt_of_lt_of_le hk HB.out.size)⟩
 have hP3 := H.out.below hb3
 have c8 := S.cell_of w3 w1.heap.size 8 _ 160 _ hB3 rfl
 have hR3 := hP3.r
 have e1 : IntKind.i64.wrap (128 - s) = 128 - s := S.i64_id _ (by omega) (by omega)
 have HP3 := S.hid hP3
 have HB3 := S.hid hb3
 have HE3 := S.hid hB3
 clear hP3 hb3 hB3 c2 c3 c9 hw2 hN hLk hB2
 go_wp2_with fail
 go_quiet (first | (go_at_call 30; refine Calls.quiet_of_same (S.rlen br R _ ?_); exact hR3.kept rfl))
 have HX := S.hid h3
 clear h3
 go_wp2
 go_ret
 have hb3 := HB3.out
 exact ⟨rfl, hb3.os, hb3.tape, hb3.output, hb3.size, hb3.block⟩
theorem do_ok (op : Int) (name : ByteArray) (i o c : Int) (b : Bool) (k bl s : Int) (g : Nat)
  (hE : ∀ w, Calls Tryz.prog 58 #[.int .i64 op] w fun e w' => e = .returned (entV op name i o c b k bl s (.func (.func g) #[] #[])) /\ Below w.heap.size w w')
  (bd br bm : Nat) (F : Nat -> Prop) (D : List Int) (R : List (Int × Int)) (m : M.MS) (W : World) (h : PS W bd br bm F D R m) (hn : S.need D.length i o = 0) (u : Int) (hs0 : 0 <= s) (hs1 : s <= 2) (hr : ¬ 128 - s < (R.length : Int))
  (hL : ∀ w, S.HasR w br R -> Calls Tryz.prog 92 #[.agg #[.int .i64 op, .string name, .int .i64 i, .int .i64 o, .int .i64 c, .bool b, .int .i64 k, .int .i64 bl, .int .i64 s, .func (.func g) #[] #[]], .pointer (some ⟨br, 0, none⟩)] w fun e w' => e = .returned (.tuple #[.int .u16 u, .int .i64 0]) /\ Below w.heap.size w w')
  (hcl : ∀ (args : Array Value) (w : World), (callFunc g args).run Tryz.prog w = .ok (.enter g args) w)
  (D0 : List Int) (x y z : Int)
  (hT : ∀ w, S.HasD w bd D -> Calls Tryz.prog 93 #[.pointer (some ⟨bd, 0, none⟩), .int .i64 i] w fun e w' => e = .returned (.agg #[.int .u16 x, .int .u16 y, .int .u16 z]) /\ S.HasD w' bd D0 /\ S.At bd w w')
  (D2 : List Int) (R2 : List (Int × Int)) (m2 : M.MS)
  (hG : ∀ (G : Nat -> Prop) (w : World), PS w bd br bm G D0 R m -> Calls Tryz.prog g #[.agg #[.int .i64 op, .int .u16 x, .int .u16 y, .int .u16 z, .int .u16 u, .pointer (some ⟨bd, 0, none⟩), .pointer (some ⟨br, 0, none⟩), .pointer (some ⟨bm, 0, none⟩)]] w fun e w' => e = .returned (.tuple #[]) /\ PD w w' bd br bm G D2 R2 m2) :
  Calls Tryz.prog 72 #[.int .i64 op, .pointer (some ⟨bd, 0, none⟩), .pointer (some ⟨br, 0, none⟩), .pointer (some ⟨bm, 0, none⟩)] W fun e W' => e = .returned (.int .i64 0) /\ PD W W' bd br bm F D2 R2 m2 := by
 have qF := eqF
 go_enter Tryz.func72, Tryz.ntmps72
 go_wp2_with fail
 refine (hE _).mono ?_
 rintro e w1 ⟨rfl, h1⟩
 unfold entV
 obtain ⟨w2, hw2, hB2, h2⟩ := ent_block w1 op name i o c b k bl s (.func (.func g) #[] #[])
 have hb : Below W.heap.size W w2 := h1.trans ⟨h2.os, h2.tape, h2.output, h2.size, fun k hk => h2.block k (Nat.lt_of_lt_of_le hk h1.size)⟩
 have hP := h.below hb
 have hN := S.dneed bd D i o w2 hP.d
 rw [hn] at hN
 have c2 := S.cell_of w2 w1.heap.size 2 _ 160 _ hB2 rfl
 have c3 := S.cell_of w2 w1.heap.size 3 _ 160 _ hB2 rfl
 have c9 := S.cell_of w2 w1.heap.size 9 _ 160 _ hB2 rfl
 have hg1 : W.heap.size <= w1.heap.size := h1.size
 have H := S.hid h
 have HP := S.hid hP
 have HB := S.hid hb
 clear h hP hb h1 h2
 go_wp2_with (refine wpList_store_row rfl 160 _ _ rfl w1.heap.size _ rfl rfl 160 zE (heap_alloc_new w1 _) (by exact sizeE) (by rfl) (by simp [Value.oneCell']) ?_)
 refine hN.mono ?_
 rintro e w3 ⟨rfl, hw3⟩
 obtain rfl := hw3.symm
 have hLk := hL w2 HP.out.r
 go_wp2_with (refine wpList_load_row rfl 160 _ rfl w1.heap.size rfl 160 _ (0, 0) _ hB2 Tryz.underlying160 rfl (by exact sizeE) ?_)
 refine hLk.mono ?_
 rintro e w3 ⟨rfl, h3⟩
 have hB3 : EB w3 w1.heap.size op name i o c b k bl s (.func (.func g) #[] #[]) := (h3.block _ (S.lt_of hB2)).trans hB2
 have hb3 : Below W.heap.size W w3 := HB.out.trans ⟨h3.os, h3.tape, h3.output, h3.size, fun k hk => h3.block k (Nat.lt_of_lt_of_le hk HB.out.size)⟩
 have hP3 := H.out.below hb3
 have c8 := S.cell_of w3 w1.heap.size 8 _ 160 _ hB3 rfl
 have hR3 := hP3.r
 have e1 : IntKind.i64.wrap (128 - s) = 128 - s := S.i64_id _ (by omega) (by omega)
 have HP3 := S.hid hP3
 have HB3 := S.hid hb3
 have HE3 := S.hid hB3
 clear hP3 hb3 hB3 c2 c3 c9 hw2 hN hLk hB2
 go_wp2_with fail
 go_quiet (first | (go_at_call 30; refine Calls.quiet_of_same (S.rlen br R _ ?_); exact hR3.kept rfl))
 obtain ⟨w4, hw4⟩ : ∃ w4, w3.drewN nq = w4 := ⟨_, rfl⟩
 have hB4 : EB w4 w1.heap.size op name i o c b k bl s (.func (.func g) #[] #[]) := by rw [<- hw4]; exact HE3.out
 have hb4 : Below W.heap.size W w4 := by rw [<- hw4]; have q := HB3.out; exact ⟨q.os, q.tape, q.output, q.size, q.block⟩
 have hP4 := H.out.below hb4
 have hTk := hT w4 hP4.d
 have c2 := S.cell_of w4 w1.heap.size 2 _ 160 _ hB4 rfl
 have HP4 := S.hid hP4
 have HB4 := S.hid hb4
 have HE4 := S.hid hB4
 clear hP4 hb4 hB4 c8 hR3 h3 HP3 HB3 HE3 HP
 rw [hw4]
 clear hw4
 go_wp2_with fail
 refine hTk.mono ?_
 rintro e w5 ⟨rfl, h5, t5⟩
 have hP5 := HP4.out.put h5 t5
 have hne : w1.heap.size ≠ bd := by have := S.lt_of H.out.d.1; omega
 have hB5 : EB w5 w1.heap.size op name i o c b k bl s (.func (.func g) #[] #[]) := (t5.block _ (S.lt_of HE4.out) hne).trans HE4.out
 obtain ⟨w6, hw6⟩ : ∃ w6, w5.alloc (.cells #[.int .u16 x, .int .u16 y, .int .u16 z] 205) = w6 := ⟨_, rfl⟩
 have b6 : Below w5.heap.size w5 w6 := by rw [<- hw6]; exact bel_alloc w5 _
 have a6 : w6.heap[w5.heap.size]? = some (.cells [.int .u16 x, .int .u16 y, .int .u16 z].toArray 205 (0, 0)) := by rw [<- hw6]; exact heap_alloc_new w5 _
 have hB6 : EB w6 w1.heap.size op name i o c b k bl s (.func (.func g) #[] #[]) := (b6.block _ (S.lt_of hB5)).trans hB5
 have c9 := S.cell_of w6 w1.heap.size 9 _ 160 _ hB6 rfl
 have d0 := S.cell_of w6 w5.heap.size 0 _ 205 _ a6 rfl
 have d1 := S.cell_of w6 w5.heap.size 1 _ 205 _ a6 rfl
 have d2 := S.cell_of w6 w5.heap.size 2 _ 205 _ a6 rfl
 have hGk := hG _ w6 (hP5.s.below b6)
 have HX := S.hid (And.intro hP5 b6)
 clear hP5 b6 a6 hB5 hB6 t5 h5 c2 hTk
 go_wp2_with fail
 refine hGk.mono ?_
 rintro e w7 ⟨rfl, h7⟩
 go_wp2
 go_ret
 have hx := HX.out.1
 exact ⟨rfl, PD.ahead (S.lt_of H.out.d.1) (S.lt_of H.out.r.1) HB4.out (hx.trans (PD.ahead (S.lt_of hx.s.d.1) (S.lt_of hx.s.r.1) HX.out.2 h7))⟩
set_option maxHeartbeats 2000000
set_option maxRecDepth 100000
def tops (D : List Int) (i : Nat) : List Int := D.drop (D.length - i)
def rest (D : List Int) (i : Nat) : List Int := D.take (D.length - i)
def xAt (D : List Int) (i j : Nat) : Int := ((tops D i)[j]?).getD 0
theorem tops_len (D : List Int) (i : Nat) (h : i <= D.length) : (tops D i).length = i := by rw [tops, List.length_drop]; omega
theorem rest_len (D : List Int) (i : Nat) : (rest D i).length = D.length - i := by rw [rest, List.length_take]; omega
theorem parts (D : List Int) (i : Nat) : D = rest D i ++ tops D i := (List.take_append_drop _ _).symm
theorem list1 : ∀ l : List Int, l.length = 1 -> l = [(l[0]?).getD 0]
 | [a], _ => rfl
theorem list2 : ∀ l : List Int, l.length = 2 -> l = [(l[0]?).getD 0, (l[1]?).getD 0]
 | [a, b], _ => rfl
theorem list3 : ∀ l : List Int, l.length = 3 -> l = [(l[0]?).getD 0, (l[1]?).getD 0, (l[2]?).getD 0]
 | [a, b, c], _ => rfl
theorem xAt_hi (D : List Int) (i j : Nat) (hd : i <= D.length) (h : i <= j) : xAt D i j = 0 := by
 rw [xAt, List.getElem?_eq_none (by rw [tops_len D i hd]; exact h)]; rfl
def lk (k : Int) (bl : Nat) (R : List (Int × Int)) : Int × Int :=
 if k = 0 then (0, 0) else if R.length <= bl then (0, 3) else if ((R[R.length - 1 - bl]?).getD (0, 0)).1 = k then (((R[R.length - 1 - bl]?).getD (0, 0)).2, 0) else (0, 5)
def flt (i o : Nat) (k : Int) (bl s : Nat) (D : List Int) (R : List (Int × Int)) : Int :=
 if S.need D.length i o ≠ 0 then S.need D.length i o else if (lk k bl R).2 ≠ 0 then (lk k bl R).2 else if 128 < R.length + s then 4 else 0
theorem take_any (i : Nat) (hi : i <= 3) (bd : Nat) (D : List Int) (hD : i <= D.length) (W : World) (h : S.HasD W bd D) :
  Calls Tryz.prog 93 #[.pointer (some ⟨bd, 0, none⟩), .int .i64 (i : Int)] W fun e W' => e = .returned (.agg #[.int .u16 (xAt D i 0), .int .u16 (xAt D i 1), .int .u16 (xAt D i 2)]) /\ S.HasD W' bd (rest D i) /\ S.At bd W W' := by
 have hl := tops_len D i hD
 have hp := parts D i
 have e0 := xAt_hi D i 0 hD
 have e1 := xAt_hi D i 1 hD
 have e2 := xAt_hi D i 2 hD
 rcases (show i = 0 \/ i = 1 \/ i = 2 \/ i = 3 by omega) with rfl | rfl | rfl | rfl
 ·rw [e0 (by omega), e1 (by omega), e2 (by omega)]
  have : rest D 0 = D := by simp [rest]
  rw [this]
  exact take_0 bd D W h
 ·rw [e1 (by omega), e2 (by omega)]
  refine take_1 bd (rest D 1) (xAt D 1 0) W ?_
  rw [xAt, <- list1 _ hl, <- hp]; exact h
 ·rw [e2 (by omega)]
  refine take_2 bd (rest D 2) (xAt D 2 0) (xAt D 2 1) W ?_
  rw [xAt, xAt, <- list2 _ hl, <- hp]; exact h
 ·refine take_3 bd (rest D 3) (xAt D 3 0) (xAt D 3 1) (xAt D 3 2) W ?_
  rw [xAt, xAt, xAt, <- list3 _ hl, <- hp]; exact h
theorem look_any (op : Int) (name : ByteArray) (i o c : Int) (b : Bool) (k : Int) (bl : Nat) (s : Int) (g : Nat) (br : Nat) (R : List (Int × Int)) (W : World) (h : S.HasR W br R) :
  Calls Tryz.prog 92 #[.agg #[.int .i64 op, .string name, .int .i64 i, .int .i64 o, .int .i64 c, .bool b, .int .i64 k, .int .i64 (bl : Int), .int .i64 s, .func (.func g) #[] #[]], .pointer (some ⟨br, 0, none⟩)] W fun e W' => e = .returned (.tuple #[.int .u16 (lk k bl R).1, .int .i64 (lk k bl R).2]) /\ Below W.heap.size W W' := by
 by_cases a0 : k = 0
 ·subst a0
  rw [lk, if_pos rfl]
  exact look_none op name i o c b bl s _ rfl _ W
 have hk : (k == 0) = false := by simpa using a0
 have hb := bel_alloc W (.cells #[.int .i64 op, .string name, .int .i64 i, .int .i64 o, .int .i64 c, .bool b, .int .i64 k, .int .i64 (bl : Int), .int .i64 s, .func (.func g) #[] #[]] 160)
 have h' := h.below hb
 rw [lk, if_neg a0]
 by_cases a1 : R.length <= bl
 ·rw [if_pos a1]
  exact look_at op name i o c b k bl s hk _ _ 0 3 W ((S.rat_under br R bl k (.inr (by omega)) _ h').mono fun e w' ⟨x, y⟩ => ⟨x, 0, y⟩)
 rw [if_neg a1]
 have hj : R.length - 1 - bl < R.length := by omega
 have hg : R[R.length - 1 - bl]? = some ((R[R.length - 1 - bl]?).getD (0, 0)) := by rw [List.getElem?_eq_getElem hj]; rfl
 generalize (R[R.length - 1 - bl]?).getD (0, 0) = q at *
 obtain ⟨q1, q2⟩ := q
 by_cases a2 : q1 = k
 ·subst a2
  rw [if_pos rfl]
  exact look_at op name i o c b q1 bl s hk _ _ q2 0 W (S.rat_ok br R (R.length - 1 - bl) bl (by omega) q1 q2 hg _ h')
 ·rw [if_neg a2]
  exact look_at op name i o c b k bl s hk _ _ 0 5 W (S.rat_kind br R (R.length - 1 - bl) bl (by omega) q1 q2 hg k a2 _ h')
theorem do_row (op : Int) (name : ByteArray) (i o : Nat) (c : Int) (b : Bool) (k : Int) (bl s : Nat) (g : Nat) (hi : i <= 3) (hs : s <= 2)
  (hE : ∀ w, Calls Tryz.prog 58 #[.int .i64 op] w fun e w' => e = .returned (entV op name i o c b k bl s (.func (.func g) #[] #[])) /\ Below w.heap.size w w')
  (hcl : ∀ (args : Array Value) (w : World), (callFunc g args).run Tryz.prog w = .ok (.enter g args) w)
  (bd br bm : Nat) (F : Nat -> Prop) (D : List Int) (R : List (Int × Int)) (m : M.MS) (W : World) (h : PS W bd br bm F D R m)
  (P : List Int) (Q : List (Int × Int)) (m2 : M.MS)
  (hG : flt i o k bl s D R = 0 -> ∀ (G : Nat -> Prop) (w : World), PS w bd br bm G (rest D i) R m -> Calls Tryz.prog g #[.agg #[.int .i64 op, .int .u16 (xAt D i 0), .int .u16 (xAt D i 1), .int .u16 (xAt D i 2), .int .u16 (lk k bl R).1, .pointer (some ⟨bd, 0, none⟩), .pointer (some ⟨br, 0, none⟩), .pointer (some ⟨bm, 0, none⟩)]] w fun e w' => e = .returned (.tuple #[]) /\ PD w w' bd br bm G (rest D i ++ P) Q m2) :
  Calls Tryz.prog 72 #[.int .i64 op, .pointer (some ⟨bd, 0, none⟩), .pointer (some ⟨br, 0, none⟩), .pointer (some ⟨bm, 0, none⟩)] W fun e W' => e = .returned (.int .i64 (flt i o k bl s D R)) /\ (flt i o k bl s D R ≠ 0 -> Below W.heap.size W W') /\ (flt i o k bl s D R = 0 -> PD W W' bd br bm F (rest D i ++ P) Q m2) := by
 by_cases a0 : S.need D.length i o = 0
 ·by_cases a1 : (lk k bl R).2 = 0
  ·by_cases a2 : 128 < R.length + s
   ·have hf : flt i o k bl s D R = 4 := by rw [flt, if_neg (by simpa using a0), if_neg (by simpa using a1), if_pos a2]
    refine (do_rover op name i o c b k bl s g hE bd br bm F D R m W h a0 (lk k bl R).1 (by omega) (by omega) (by omega) (fun w hw => ?_)).mono fun e W' ⟨x, y⟩ => ⟨by rw [hf]; exact x, fun _ => y, fun q => by rw [hf] at q; cases q⟩
    have := look_any op name i o c b k bl s g br R w hw
    rw [a1] at this; exact this
   ·have hf : flt i o k bl s D R = 0 := by rw [flt, if_neg (by simpa using a0), if_neg (by simpa using a1), if_neg a2]
    have hD : i <= D.length := by
     by_cases c : i <= D.length
     ·exact c
     ·have : S.need D.length i o = 1 := by rw [S.need, if_pos (by omega)]
      omega
    refine (do_ok op name i o c b k bl s g hE bd br bm F D R m W h a0 (lk k bl R).1 (by omega) (by omega) (by omega) (fun w hw => ?_) hcl (rest D i) _ _ _ (fun w hw => take_any i hi bd D hD w hw) _ _ _ (hG hf)).mono fun e W' ⟨x, y⟩ => ⟨by rw [hf]; exact x, fun q => absurd hf q, fun _ => y⟩
    have := look_any op name i o c b k bl s g br R w hw
    rw [a1] at this; exact this
  ·have hf : flt i o k bl s D R = (lk k bl R).2 := by rw [flt, if_neg (by simpa using a0), if_pos a1]
   refine (do_look op name i o c b k bl s g hE bd br bm F D R m W h a0 (lk k bl R).1 (lk k bl R).2 (by simpa using a1) (fun w hw => look_any op name i o c b k bl s g br R w hw)).mono fun e W' ⟨x, y⟩ => ⟨by rw [hf]; exact x, fun _ => y, fun q => by rw [hf] at q; exact absurd q a1⟩
 ·have hf : flt i o k bl s D R = S.need D.length i o := by rw [flt, if_pos a0]
  exact (do_need op name i o c b k bl s g hE bd br bm F D R m W h _ rfl (by simpa using a0)).mono fun e W' ⟨x, y⟩ => ⟨by rw [hf]; exact x, fun _ => y, fun q => by rw [hf] at q; exact absurd q a0⟩
set_option maxHeartbeats 2000000
set_option maxRecDepth 100000
structure RW where
 i : Nat
 o : Nat
 k : Int
 bl : Nat
 s : Nat
def rw_ (op : Int) : RW := match op with
 | 6 => ⟨2, 0, 0, 0, 2⟩
 | 9 => ⟨0, 0, 0, 0, 0⟩
 | 12 => ⟨1, 2, 0, 0, 0⟩
 | 13 => ⟨1, 0, 0, 0, 0⟩
 | 14 => ⟨2, 2, 0, 0, 0⟩
 | 15 => ⟨2, 3, 0, 0, 0⟩
 | 16 => ⟨3, 3, 0, 0, 0⟩
 | 17 => ⟨2, 1, 0, 0, 0⟩
 | 18 => ⟨2, 3, 0, 0, 0⟩
 | 19 => ⟨2, 4, 0, 0, 0⟩
 | 20 => ⟨2, 0, 0, 0, 0⟩
 | 50 => ⟨1, 1, 0, 0, 0⟩
 | 51 => ⟨2, 0, 0, 0, 0⟩
 | 52 => ⟨1, 1, 0, 0, 0⟩
 | 53 => ⟨2, 0, 0, 0, 0⟩
 | 54 => ⟨2, 0, 0, 0, 0⟩
 | 55 => ⟨1, 0, 0, 0, 1⟩
 | 56 => ⟨0, 1, 4, 0, 0⟩
 | 57 => ⟨0, 1, 4, 0, 0⟩
 | 58 => ⟨0, 1, 3, 0, 0⟩
 | 59 => ⟨0, 1, 3, 2, 0⟩
 | 60 => ⟨3, 0, 0, 0, 0⟩
 | 61 => ⟨0, 1, 0, 0, 0⟩
 | 62 => ⟨2, 0, 0, 0, 0⟩
 | 63 => ⟨1, 0, 0, 0, 0⟩
 | op => if C.isUn op then ⟨1, 1, 0, 0, 0⟩ else ⟨2, 1, 0, 0, 0⟩
def putN (op x y z s : Int) (m : M.MS) : List Int := match op with
 | 12 => [x, x]
 | 14 => [y, x]
 | 15 => [x, y, x]
 | 16 => [y, z, x]
 | 17 => [y]
 | 18 => [y, x, y]
 | 19 => [x, y, x, y]
 | 50 => [M.cl m x]
 | 52 => [M.ld m x]
 | 56 => [s]
 | 57 => [s]
 | 58 => [s]
 | 59 => [s]
 | 61 => [m.pad]
 | op => if C.isUn op then [C.un op x] else if C.isBi op then [C.bi op x y] else []
def retN (op x y : Int) (R : List (Int × Int)) : List (Int × Int) := match op with
 | 6 => R ++ [(2, x), (3, y)]
 | 55 => R ++ [(4, x)]
 | 56 => R.take (R.length - 1)
 | _ => R
def memN (op x y z : Int) (m : M.MS) : M.MS := match op with
 | 51 => M.sc m y x
 | 53 => M.st m y (M.b8 x)
 | 54 => M.sc m y ((M.cl m y + x) % 65536)
 | 60 => M.plt m x y z
 | 62 => M.st (M.sc m 65284 x) 65286 (M.b8 y)
 | 63 => M.st m 65280 (M.b8 x)
 | _ => m
def plain (op : Int) : Bool := op == 6 || op == 9 || (decide (12 <= op) && decide (op <= 63))
def fl (op : Int) (D : List Int) (R : List (Int × Int)) : Int := flt (rw_ op).i (rw_ op).o (rw_ op).k (rw_ op).bl (rw_ op).s D R
def nD (op : Int) (D : List Int) (R : List (Int × Int)) (m : M.MS) : List Int := rest D (rw_ op).i ++ putN op (xAt D (rw_ op).i 0) (xAt D (rw_ op).i 1) (xAt D (rw_ op).i 2) (lk (rw_ op).k (rw_ op).bl R).1 m
def nR (op : Int) (D : List Int) (R : List (Int × Int)) : List (Int × Int) := retN op (xAt D (rw_ op).i 0) (xAt D (rw_ op).i 1) R
def nM (op : Int) (D : List Int) (m : M.MS) : M.MS := memN op (xAt D (rw_ op).i 0) (xAt D (rw_ op).i 1) (xAt D (rw_ op).i 2) m
theorem flt0 {i o : Nat} {k : Int} {bl s : Nat} {D : List Int} {R : List (Int × Int)} (h : flt i o k bl s D R = 0) : i <= D.length /\ (rest D i).length + o <= 256 /\ (lk k bl R).2 = 0 /\ R.length + s <= 128 := by
 unfold flt at h
 by_cases a0 : S.need D.length i o = 0
 ·rw [if_neg (by simpa using a0)] at h
  by_cases a1 : (lk k bl R).2 = 0
  ·rw [if_neg (by simpa using a1)] at h
   by_cases a2 : 128 < R.length + s
   ·rw [if_pos a2] at h; cases h
   ·unfold S.need at a0
    split at a0
    ·cases a0
    split at a0
    ·cases a0
    rw [rest_len]
    exact ⟨by omega, by omega, a1, by omega⟩
  ·rw [if_pos a1] at h; exact absurd h a1
 ·rw [if_pos a0] at h; exact absurd h a0
theorem C_xAt (D : List Int) (h : ∀ x ∈ D, C.C x) (i j : Nat) : C.C (xAt D i j) := by
 unfold xAt
 cases e : (tops D i)[j]? with
 | none => exact ⟨by simp, by simp⟩
 | some a => exact h a (List.mem_of_mem_drop (List.mem_of_getElem? e))
theorem lk_saved {R : List (Int × Int)} (h : (lk 4 0 R).2 = 0) : R = R.take (R.length - 1) ++ [(4, (lk 4 0 R).1)] := by
 unfold lk at h ⊢
 simp only [Nat.sub_zero] at h ⊢
 rw [if_neg (by decide)] at h ⊢
 by_cases a : R.length <= 0
 ·rw [if_pos a] at h; cases h
 rw [if_neg a] at h ⊢
 by_cases b : ((R[R.length - 1]?).getD (0, 0)).1 = 4
 ·rw [if_pos b]
  have hj : R.length - 1 < R.length := by omega
  have e : R[R.length - 1]? = some R[R.length - 1] := List.getElem?_eq_getElem hj
  rw [e] at b ⊢
  simp only [Option.getD_some] at b ⊢
  have e2 : R.drop (R.length - 1) = [R[R.length - 1]] := by rw [List.drop_eq_getElem_cons hj, List.drop_of_length_le (by omega)]
  have e3 : R[R.length - 1] = (4, (R[R.length - 1]).2) := Prod.ext b rfl
  rw [<- e3, <- e2, List.take_append_drop]
 ·rw [if_neg b] at h; cases h
def AtD (op : Int) : Prop := ∀ (bd br bm : Nat) (F : Nat -> Prop) (D : List Int) (R : List (Int × Int)) (m : M.MS), (∀ x ∈ D, C.C x) -> m.tones.length <= 999000 -> ∀ W : World, PS W bd br bm F D R m -> Calls Tryz.prog 72 #[.int .i64 op, .pointer (some ⟨bd, 0, none⟩), .pointer (some ⟨br, 0, none⟩), .pointer (some ⟨bm, 0, none⟩)] W fun e W' => e = .returned (.int .i64 (fl op D R)) /\ (fl op D R ≠ 0 -> Below W.heap.size W W') /\ (fl op D R = 0 -> PD W W' bd br bm F (nD op D R m) (nR op D R) (nM op D m))
theorem at_6 : AtD 6 := fun bd br bm F D R m hD ht W h =>
 do_row 6 ⟨#[]⟩ 2 0 3 false 0 0 2 96 (by decide) (by decide) (fun w => (fun w => (entA w).2.2.2.2.2.1) w) Tryz.call96 bd br bm F D R m W h ([]) (nR 6 D R) (nM 6 D m) (fun hf G w hw => by
  rw [List.append_nil]
  exact do_do 6 _ _ _ _ bd br bm G _ R m w hw (flt0 hf).2.2.2)
theorem at_9 : AtD 9 := fun bd br bm F D R m hD ht W h =>
 do_row 9 ⟨#[110, 111, 112]⟩ 0 0 1 false 0 0 0 98 (by decide) (by decide) (fun w => (fun w => (entA w).2.2.2.2.2.2.2.2.1) w) Tryz.call98 bd br bm F D R m W h ([]) (nR 9 D R) (nM 9 D m) (fun hf G w hw => by
  rw [List.append_nil]
  exact do_nop 9 _ _ _ _ bd br bm G _ R m w hw)
theorem at_12 : AtD 12 := fun bd br bm F D R m hD ht W h =>
 do_row 12 ⟨#[100, 117, 112]⟩ 1 2 1 false 0 0 0 99 (by decide) (by decide) (fun w => (fun w => (entA w).2.2.2.2.2.2.2.2.2.2.2.1) w) Tryz.call99 bd br bm F D R m W h ([(xAt D 1 0), (xAt D 1 0)]) (nR 12 D R) (nM 12 D m) (fun hf G w hw => do_dup 12 _ _ _ _ bd br bm G _ R m w hw (flt0 hf).2.1)
theorem at_13 : AtD 13 := fun bd br bm F D R m hD ht W h =>
 do_row 13 ⟨#[100, 114, 111, 112]⟩ 1 0 1 false 0 0 0 101 (by decide) (by decide) (fun w => (fun w => (entA w).2.2.2.2.2.2.2.2.2.2.2.2.1) w) Tryz.call101 bd br bm F D R m W h ([]) (nR 13 D R) (nM 13 D m) (fun hf G w hw => by
  rw [List.append_nil]
  exact do_drop 13 _ _ _ _ bd br bm G _ R m w hw)
theorem at_14 : AtD 14 := fun bd br bm F D R m hD ht W h =>
 do_row 14 ⟨#[115, 119, 97, 112]⟩ 2 2 1 false 0 0 0 102 (by decide) (by decide) (fun w => (fun w => (entA w).2.2.2.2.2.2.2.2.2.2.2.2.2.1) w) Tryz.call102 bd br bm F D R m W h ([(xAt D 2 1), (xAt D 2 0)]) (nR 14 D R) (nM 14 D m) (fun hf G w hw => do_swap 14 _ _ _ _ bd br bm G _ R m w hw (flt0 hf).2.1)
theorem at_15 : AtD 15 := fun bd br bm F D R m hD ht W h =>
 do_row 15 ⟨#[111, 118, 101, 114]⟩ 2 3 1 false 0 0 0 103 (by decide) (by decide) (fun w => (fun w => (entA w).2.2.2.2.2.2.2.2.2.2.2.2.2.2.1) w) Tryz.call103 bd br bm F D R m W h ([(xAt D 2 0), (xAt D 2 1), (xAt D 2 0)]) (nR 15 D R) (nM 15 D m) (fun hf G w hw => do_over 15 _ _ _ _ bd br bm G _ R m w hw (flt0 hf).2.1)
theorem at_16 : AtD 16 := fun bd br bm F D R m hD ht W h =>
 do_row 16 ⟨#[114, 111, 116]⟩ 3 3 1 false 0 0 0 104 (by decide) (by decide) (fun w => (fun w => (entA w).2.2.2.2.2.2.2.2.2.2.2.2.2.2.2) w) Tryz.call104 bd br bm F D R m W h ([(xAt D 3 1), (xAt D 3 2), (xAt D 3 0)]) (nR 16 D R) (nM 16 D m) (fun hf G w hw => do_rot 16 _ _ _ _ bd br bm G _ R m w hw (flt0 hf).2.1)
theorem at_17 : AtD 17 := fun bd br bm F D R m hD ht W h =>
 do_row 17 ⟨#[110, 105, 112]⟩ 2 1 1 false 0 0 0 105 (by decide) (by decide) (fun w => (fun w => (entB w).1) w) Tryz.call105 bd br bm F D R m W h ([(xAt D 2 1)]) (nR 17 D R) (nM 17 D m) (fun hf G w hw => do_nip 17 _ _ _ _ bd br bm G _ R m w hw (flt0 hf).2.1)
theorem at_18 : AtD 18 := fun bd br bm F D R m hD ht W h =>
 do_row 18 ⟨#[116, 117, 99, 107]⟩ 2 3 1 false 0 0 0 106 (by decide) (by decide) (fun w => (fun w => (entB w).2.1) w) Tryz.call106 bd br bm F D R m W h ([(xAt D 2 1), (xAt D 2 0), (xAt D 2 1)]) (nR 18 D R) (nM 18 D m) (fun hf G w hw => do_tuck 18 _ _ _ _ bd br bm G _ R m w hw (flt0 hf).2.1)
theorem at_19 : AtD 19 := fun bd br bm F D R m hD ht W h =>
 do_row 19 ⟨#[50, 100, 117, 112]⟩ 2 4 2 false 0 0 0 107 (by decide) (by decide) (fun w => (fun w => (entB w).2.2.1) w) Tryz.call107 bd br bm F D R m W h ([(xAt D 2 0), (xAt D 2 1), (xAt D 2 0), (xAt D 2 1)]) (nR 19 D R) (nM 19 D m) (fun hf G w hw => do_dup2 19 _ _ _ _ bd br bm G _ R m w hw (flt0 hf).2.1)
theorem at_20 : AtD 20 := fun bd br bm F D R m hD ht W h =>
 do_row 20 ⟨#[50, 100, 114, 111, 112]⟩ 2 0 1 false 0 0 0 108 (by decide) (by decide) (fun w => (fun w => (entB w).2.2.2.1) w) Tryz.call108 bd br bm F D R m W h ([]) (nR 20 D R) (nM 20 D m) (fun hf G w hw => by
  rw [List.append_nil]
  exact do_drop2 20 _ _ _ _ bd br bm G _ R m w hw)
theorem at_21 : AtD 21 := fun bd br bm F D R m hD ht W h =>
 do_row 21 ⟨#[43]⟩ 2 1 1 false 0 0 0 137 (by decide) (by decide) (fun w => (fun w => (entB w).2.2.2.2.1) w) Tryz.call137 bd br bm F D R m W h ([C.bi 21 (xAt D 2 0) (xAt D 2 1)]) (nR 21 D R) (nM 21 D m) (fun hf G w hw => do_bin 21 _ _ _ _ bd br bm G _ R m w hw (C_xAt D hD 2 0) (C_xAt D hD 2 1) (flt0 hf).2.1)
theorem at_22 : AtD 22 := fun bd br bm F D R m hD ht W h =>
 do_row 22 ⟨#[45]⟩ 2 1 1 false 0 0 0 137 (by decide) (by decide) (fun w => (fun w => (entB w).2.2.2.2.2.1) w) Tryz.call137 bd br bm F D R m W h ([C.bi 22 (xAt D 2 0) (xAt D 2 1)]) (nR 22 D R) (nM 22 D m) (fun hf G w hw => do_bin 22 _ _ _ _ bd br bm G _ R m w hw (C_xAt D hD 2 0) (C_xAt D hD 2 1) (flt0 hf).2.1)
theorem at_23 : AtD 23 := fun bd br bm F D R m hD ht W h =>
 do_row 23 ⟨#[42]⟩ 2 1 3 false 0 0 0 137 (by decide) (by decide) (fun w => (fun w => (entB w).2.2.2.2.2.2.1) w) Tryz.call137 bd br bm F D R m W h ([C.bi 23 (xAt D 2 0) (xAt D 2 1)]) (nR 23 D R) (nM 23 D m) (fun hf G w hw => do_bin 23 _ _ _ _ bd br bm G _ R m w hw (C_xAt D hD 2 0) (C_xAt D hD 2 1) (flt0 hf).2.1)
theorem at_24 : AtD 24 := fun bd br bm F D R m hD ht W h =>
 do_row 24 ⟨#[47]⟩ 2 1 4 false 0 0 0 137 (by decide) (by decide) (fun w => (fun w => (entB w).2.2.2.2.2.2.2.1) w) Tryz.call137 bd br bm F D R m W h ([C.bi 24 (xAt D 2 0) (xAt D 2 1)]) (nR 24 D R) (nM 24 D m) (fun hf G w hw => do_bin 24 _ _ _ _ bd br bm G _ R m w hw (C_xAt D hD 2 0) (C_xAt D hD 2 1) (flt0 hf).2.1)
theorem at_25 : AtD 25 := fun bd br bm F D R m hD ht W h =>
 do_row 25 ⟨#[109, 111, 100]⟩ 2 1 4 false 0 0 0 137 (by decide) (by decide) (fun w => (fun w => (entB w).2.2.2.2.2.2.2.2.1) w) Tryz.call137 bd br bm F D R m W h ([C.bi 25 (xAt D 2 0) (xAt D 2 1)]) (nR 25 D R) (nM 25 D m) (fun hf G w hw => do_bin 25 _ _ _ _ bd br bm G _ R m w hw (C_xAt D hD 2 0) (C_xAt D hD 2 1) (flt0 hf).2.1)
theorem at_26 : AtD 26 := fun bd br bm F D R m hD ht W h =>
 do_row 26 ⟨#[117, 47]⟩ 2 1 4 false 0 0 0 137 (by decide) (by decide) (fun w => (fun w => (entB w).2.2.2.2.2.2.2.2.2.1) w) Tryz.call137 bd br bm F D R m W h ([C.bi 26 (xAt D 2 0) (xAt D 2 1)]) (nR 26 D R) (nM 26 D m) (fun hf G w hw => do_bin 26 _ _ _ _ bd br bm G _ R m w hw (C_xAt D hD 2 0) (C_xAt D hD 2 1) (flt0 hf).2.1)
theorem at_27 : AtD 27 := fun bd br bm F D R m hD ht W h =>
 do_row 27 ⟨#[117, 109, 111, 100]⟩ 2 1 4 false 0 0 0 137 (by decide) (by decide) (fun w => (fun w => (entB w).2.2.2.2.2.2.2.2.2.2.1) w) Tryz.call137 bd br bm F D R m W h ([C.bi 27 (xAt D 2 0) (xAt D 2 1)]) (nR 27 D R) (nM 27 D m) (fun hf G w hw => do_bin 27 _ _ _ _ bd br bm G _ R m w hw (C_xAt D hD 2 0) (C_xAt D hD 2 1) (flt0 hf).2.1)
theorem at_28 : AtD 28 := fun bd br bm F D R m hD ht W h =>
 do_row 28 ⟨#[110, 101, 103, 97, 116, 101]⟩ 1 1 1 false 0 0 0 139 (by decide) (by decide) (fun w => (fun w => (entB w).2.2.2.2.2.2.2.2.2.2.2.1) w) Tryz.call139 bd br bm F D R m W h ([C.un 28 (xAt D 1 0)]) (nR 28 D R) (nM 28 D m) (fun hf G w hw => do_un 28 _ _ _ _ bd br bm G _ R m w hw (C_xAt D hD 1 0) (flt0 hf).2.1)
theorem at_29 : AtD 29 := fun bd br bm F D R m hD ht W h =>
 do_row 29 ⟨#[97, 98, 115]⟩ 1 1 1 false 0 0 0 139 (by decide) (by decide) (fun w => (fun w => (entB w).2.2.2.2.2.2.2.2.2.2.2.2.1) w) Tryz.call139 bd br bm F D R m W h ([C.un 29 (xAt D 1 0)]) (nR 29 D R) (nM 29 D m) (fun hf G w hw => do_un 29 _ _ _ _ bd br bm G _ R m w hw (C_xAt D hD 1 0) (flt0 hf).2.1)
theorem at_30 : AtD 30 := fun bd br bm F D R m hD ht W h =>
 do_row 30 ⟨#[109, 105, 110]⟩ 2 1 1 false 0 0 0 137 (by decide) (by decide) (fun w => (fun w => (entB w).2.2.2.2.2.2.2.2.2.2.2.2.2.1) w) Tryz.call137 bd br bm F D R m W h ([C.bi 30 (xAt D 2 0) (xAt D 2 1)]) (nR 30 D R) (nM 30 D m) (fun hf G w hw => do_bin 30 _ _ _ _ bd br bm G _ R m w hw (C_xAt D hD 2 0) (C_xAt D hD 2 1) (flt0 hf).2.1)
theorem at_31 : AtD 31 := fun bd br bm F D R m hD ht W h =>
 do_row 31 ⟨#[109, 97, 120]⟩ 2 1 1 false 0 0 0 137 (by decide) (by decide) (fun w => (fun w => (entB w).2.2.2.2.2.2.2.2.2.2.2.2.2.2.1) w) Tryz.call137 bd br bm F D R m W h ([C.bi 31 (xAt D 2 0) (xAt D 2 1)]) (nR 31 D R) (nM 31 D m) (fun hf G w hw => do_bin 31 _ _ _ _ bd br bm G _ R m w hw (C_xAt D hD 2 0) (C_xAt D hD 2 1) (flt0 hf).2.1)
theorem at_32 : AtD 32 := fun bd br bm F D R m hD ht W h =>
 do_row 32 ⟨#[49, 43]⟩ 1 1 1 false 0 0 0 139 (by decide) (by decide) (fun w => (fun w => (entB w).2.2.2.2.2.2.2.2.2.2.2.2.2.2.2) w) Tryz.call139 bd br bm F D R m W h ([C.un 32 (xAt D 1 0)]) (nR 32 D R) (nM 32 D m) (fun hf G w hw => do_un 32 _ _ _ _ bd br bm G _ R m w hw (C_xAt D hD 1 0) (flt0 hf).2.1)
theorem at_33 : AtD 33 := fun bd br bm F D R m hD ht W h =>
 do_row 33 ⟨#[49, 45]⟩ 1 1 1 false 0 0 0 139 (by decide) (by decide) (fun w => (fun w => (entC w).1) w) Tryz.call139 bd br bm F D R m W h ([C.un 33 (xAt D 1 0)]) (nR 33 D R) (nM 33 D m) (fun hf G w hw => do_un 33 _ _ _ _ bd br bm G _ R m w hw (C_xAt D hD 1 0) (flt0 hf).2.1)
theorem at_34 : AtD 34 := fun bd br bm F D R m hD ht W h =>
 do_row 34 ⟨#[50, 42]⟩ 1 1 1 false 0 0 0 139 (by decide) (by decide) (fun w => (fun w => (entC w).2.1) w) Tryz.call139 bd br bm F D R m W h ([C.un 34 (xAt D 1 0)]) (nR 34 D R) (nM 34 D m) (fun hf G w hw => do_un 34 _ _ _ _ bd br bm G _ R m w hw (C_xAt D hD 1 0) (flt0 hf).2.1)
theorem at_35 : AtD 35 := fun bd br bm F D R m hD ht W h =>
 do_row 35 ⟨#[50, 47]⟩ 1 1 1 false 0 0 0 139 (by decide) (by decide) (fun w => (fun w => (entC w).2.2.1) w) Tryz.call139 bd br bm F D R m W h ([C.un 35 (xAt D 1 0)]) (nR 35 D R) (nM 35 D m) (fun hf G w hw => do_un 35 _ _ _ _ bd br bm G _ R m w hw (C_xAt D hD 1 0) (flt0 hf).2.1)
theorem at_36 : AtD 36 := fun bd br bm F D R m hD ht W h =>
 do_row 36 ⟨#[97, 110, 100]⟩ 2 1 1 false 0 0 0 137 (by decide) (by decide) (fun w => (fun w => (entC w).2.2.2.1) w) Tryz.call137 bd br bm F D R m W h ([C.bi 36 (xAt D 2 0) (xAt D 2 1)]) (nR 36 D R) (nM 36 D m) (fun hf G w hw => do_bin 36 _ _ _ _ bd br bm G _ R m w hw (C_xAt D hD 2 0) (C_xAt D hD 2 1) (flt0 hf).2.1)
theorem at_37 : AtD 37 := fun bd br bm F D R m hD ht W h =>
 do_row 37 ⟨#[111, 114]⟩ 2 1 1 false 0 0 0 137 (by decide) (by decide) (fun w => (fun w => (entC w).2.2.2.2.1) w) Tryz.call137 bd br bm F D R m W h ([C.bi 37 (xAt D 2 0) (xAt D 2 1)]) (nR 37 D R) (nM 37 D m) (fun hf G w hw => do_bin 37 _ _ _ _ bd br bm G _ R m w hw (C_xAt D hD 2 0) (C_xAt D hD 2 1) (flt0 hf).2.1)
theorem at_38 : AtD 38 := fun bd br bm F D R m hD ht W h =>
 do_row 38 ⟨#[120, 111, 114]⟩ 2 1 1 false 0 0 0 137 (by decide) (by decide) (fun w => (fun w => (entC w).2.2.2.2.2.1) w) Tryz.call137 bd br bm F D R m W h ([C.bi 38 (xAt D 2 0) (xAt D 2 1)]) (nR 38 D R) (nM 38 D m) (fun hf G w hw => do_bin 38 _ _ _ _ bd br bm G _ R m w hw (C_xAt D hD 2 0) (C_xAt D hD 2 1) (flt0 hf).2.1)
theorem at_39 : AtD 39 := fun bd br bm F D R m hD ht W h =>
 do_row 39 ⟨#[105, 110, 118, 101, 114, 116]⟩ 1 1 1 false 0 0 0 139 (by decide) (by decide) (fun w => (fun w => (entC w).2.2.2.2.2.2.1) w) Tryz.call139 bd br bm F D R m W h ([C.un 39 (xAt D 1 0)]) (nR 39 D R) (nM 39 D m) (fun hf G w hw => do_un 39 _ _ _ _ bd br bm G _ R m w hw (C_xAt D hD 1 0) (flt0 hf).2.1)
theorem at_40 : AtD 40 := fun bd br bm F D R m hD ht W h =>
 do_row 40 ⟨#[108, 115, 104, 105, 102, 116]⟩ 2 1 1 false 0 0 0 137 (by decide) (by decide) (fun w => (fun w => (entC w).2.2.2.2.2.2.2.1) w) Tryz.call137 bd br bm F D R m W h ([C.bi 40 (xAt D 2 0) (xAt D 2 1)]) (nR 40 D R) (nM 40 D m) (fun hf G w hw => do_bin 40 _ _ _ _ bd br bm G _ R m w hw (C_xAt D hD 2 0) (C_xAt D hD 2 1) (flt0 hf).2.1)
theorem at_41 : AtD 41 := fun bd br bm F D R m hD ht W h =>
 do_row 41 ⟨#[114, 115, 104, 105, 102, 116]⟩ 2 1 1 false 0 0 0 137 (by decide) (by decide) (fun w => (fun w => (entC w).2.2.2.2.2.2.2.2.1) w) Tryz.call137 bd br bm F D R m W h ([C.bi 41 (xAt D 2 0) (xAt D 2 1)]) (nR 41 D R) (nM 41 D m) (fun hf G w hw => do_bin 41 _ _ _ _ bd br bm G _ R m w hw (C_xAt D hD 2 0) (C_xAt D hD 2 1) (flt0 hf).2.1)
theorem at_42 : AtD 42 := fun bd br bm F D R m hD ht W h =>
 do_row 42 ⟨#[61]⟩ 2 1 1 false 0 0 0 137 (by decide) (by decide) (fun w => (fun w => (entC w).2.2.2.2.2.2.2.2.2.1) w) Tryz.call137 bd br bm F D R m W h ([C.bi 42 (xAt D 2 0) (xAt D 2 1)]) (nR 42 D R) (nM 42 D m) (fun hf G w hw => do_bin 42 _ _ _ _ bd br bm G _ R m w hw (C_xAt D hD 2 0) (C_xAt D hD 2 1) (flt0 hf).2.1)
theorem at_43 : AtD 43 := fun bd br bm F D R m hD ht W h =>
 do_row 43 ⟨#[60, 62]⟩ 2 1 1 false 0 0 0 137 (by decide) (by decide) (fun w => (fun w => (entC w).2.2.2.2.2.2.2.2.2.2.1) w) Tryz.call137 bd br bm F D R m W h ([C.bi 43 (xAt D 2 0) (xAt D 2 1)]) (nR 43 D R) (nM 43 D m) (fun hf G w hw => do_bin 43 _ _ _ _ bd br bm G _ R m w hw (C_xAt D hD 2 0) (C_xAt D hD 2 1) (flt0 hf).2.1)
theorem at_44 : AtD 44 := fun bd br bm F D R m hD ht W h =>
 do_row 44 ⟨#[60]⟩ 2 1 1 false 0 0 0 137 (by decide) (by decide) (fun w => (fun w => (entC w).2.2.2.2.2.2.2.2.2.2.2.1) w) Tryz.call137 bd br bm F D R m W h ([C.bi 44 (xAt D 2 0) (xAt D 2 1)]) (nR 44 D R) (nM 44 D m) (fun hf G w hw => do_bin 44 _ _ _ _ bd br bm G _ R m w hw (C_xAt D hD 2 0) (C_xAt D hD 2 1) (flt0 hf).2.1)
theorem at_45 : AtD 45 := fun bd br bm F D R m hD ht W h =>
 do_row 45 ⟨#[62]⟩ 2 1 1 false 0 0 0 137 (by decide) (by decide) (fun w => (fun w => (entC w).2.2.2.2.2.2.2.2.2.2.2.2.1) w) Tryz.call137 bd br bm F D R m W h ([C.bi 45 (xAt D 2 0) (xAt D 2 1)]) (nR 45 D R) (nM 45 D m) (fun hf G w hw => do_bin 45 _ _ _ _ bd br bm G _ R m w hw (C_xAt D hD 2 0) (C_xAt D hD 2 1) (flt0 hf).2.1)
theorem at_46 : AtD 46 := fun bd br bm F D R m hD ht W h =>
 do_row 46 ⟨#[117, 60]⟩ 2 1 1 false 0 0 0 137 (by decide) (by decide) (fun w => (fun w => (entC w).2.2.2.2.2.2.2.2.2.2.2.2.2.1) w) Tryz.call137 bd br bm F D R m W h ([C.bi 46 (xAt D 2 0) (xAt D 2 1)]) (nR 46 D R) (nM 46 D m) (fun hf G w hw => do_bin 46 _ _ _ _ bd br bm G _ R m w hw (C_xAt D hD 2 0) (C_xAt D hD 2 1) (flt0 hf).2.1)
theorem at_47 : AtD 47 := fun bd br bm F D R m hD ht W h =>
 do_row 47 ⟨#[117, 62]⟩ 2 1 1 false 0 0 0 137 (by decide) (by decide) (fun w => (fun w => (entC w).2.2.2.2.2.2.2.2.2.2.2.2.2.2.1) w) Tryz.call137 bd br bm F D R m W h ([C.bi 47 (xAt D 2 0) (xAt D 2 1)]) (nR 47 D R) (nM 47 D m) (fun hf G w hw => do_bin 47 _ _ _ _ bd br bm G _ R m w hw (C_xAt D hD 2 0) (C_xAt D hD 2 1) (flt0 hf).2.1)
theorem at_48 : AtD 48 := fun bd br bm F D R m hD ht W h =>
 do_row 48 ⟨#[48, 61]⟩ 1 1 1 false 0 0 0 139 (by decide) (by decide) (fun w => (fun w => (entC w).2.2.2.2.2.2.2.2.2.2.2.2.2.2.2) w) Tryz.call139 bd br bm F D R m W h ([C.un 48 (xAt D 1 0)]) (nR 48 D R) (nM 48 D m) (fun hf G w hw => do_un 48 _ _ _ _ bd br bm G _ R m w hw (C_xAt D hD 1 0) (flt0 hf).2.1)
theorem at_49 : AtD 49 := fun bd br bm F D R m hD ht W h =>
 do_row 49 ⟨#[48, 60]⟩ 1 1 1 false 0 0 0 139 (by decide) (by decide) (fun w => (fun w => (entD w).1) w) Tryz.call139 bd br bm F D R m W h ([C.un 49 (xAt D 1 0)]) (nR 49 D R) (nM 49 D m) (fun hf G w hw => do_un 49 _ _ _ _ bd br bm G _ R m w hw (C_xAt D hD 1 0) (flt0 hf).2.1)
theorem at_50 : AtD 50 := fun bd br bm F D R m hD ht W h =>
 do_row 50 ⟨#[64]⟩ 1 1 2 false 0 0 0 111 (by decide) (by decide) (fun w => (fun w => (entD w).2.1) w) Tryz.call111 bd br bm F D R m W h ([M.cl m (xAt D 1 0)]) (nR 50 D R) (nM 50 D m) (fun hf G w hw => do_fetch 50 _ _ _ _ bd br bm G _ R m w hw (C_xAt D hD 1 0) (flt0 hf).2.1)
theorem at_51 : AtD 51 := fun bd br bm F D R m hD ht W h =>
 do_row 51 ⟨#[33]⟩ 2 0 2 false 0 0 0 113 (by decide) (by decide) (fun w => (fun w => (entD w).2.2.1) w) Tryz.call113 bd br bm F D R m W h ([]) (nR 51 D R) (nM 51 D m) (fun hf G w hw => by
  rw [List.append_nil]
  exact do_store 51 _ _ _ _ bd br bm G _ R m w hw (C_xAt D hD 2 0) (C_xAt D hD 2 1) ht)
theorem at_52 : AtD 52 := fun bd br bm F D R m hD ht W h =>
 do_row 52 ⟨#[99, 64]⟩ 1 1 2 false 0 0 0 115 (by decide) (by decide) (fun w => (fun w => (entD w).2.2.2.1) w) Tryz.call115 bd br bm F D R m W h ([M.ld m (xAt D 1 0)]) (nR 52 D R) (nM 52 D m) (fun hf G w hw => do_cfetch 52 _ _ _ _ bd br bm G _ R m w hw (C_xAt D hD 1 0) (flt0 hf).2.1)
theorem at_53 : AtD 53 := fun bd br bm F D R m hD ht W h =>
 do_row 53 ⟨#[99, 33]⟩ 2 0 2 false 0 0 0 117 (by decide) (by decide) (fun w => (fun w => (entD w).2.2.2.2.1) w) Tryz.call117 bd br bm F D R m W h ([]) (nR 53 D R) (nM 53 D m) (fun hf G w hw => by
  rw [List.append_nil]
  exact do_cstore 53 _ _ _ _ bd br bm G _ R m w hw (C_xAt D hD 2 0) (C_xAt D hD 2 1) ht)
theorem at_54 : AtD 54 := fun bd br bm F D R m hD ht W h =>
 do_row 54 ⟨#[43, 33]⟩ 2 0 3 false 0 0 0 119 (by decide) (by decide) (fun w => (fun w => (entD w).2.2.2.2.2.1) w) Tryz.call119 bd br bm F D R m W h ([]) (nR 54 D R) (nM 54 D m) (fun hf G w hw => by
  rw [List.append_nil]
  exact do_plus 54 _ _ _ _ bd br bm G _ R m w hw (C_xAt D hD 2 0) (C_xAt D hD 2 1) ht)
theorem at_55 : AtD 55 := fun bd br bm F D R m hD ht W h =>
 do_row 55 ⟨#[62, 114]⟩ 1 0 1 false 0 0 1 120 (by decide) (by decide) (fun w => (fun w => (entD w).2.2.2.2.2.2.1) w) Tryz.call120 bd br bm F D R m W h ([]) (nR 55 D R) (nM 55 D m) (fun hf G w hw => by
  rw [List.append_nil]
  exact do_toR 55 _ _ _ _ bd br bm G _ R m w hw (flt0 hf).2.2.2)
theorem at_56 : AtD 56 := fun bd br bm F D R m hD ht W h =>
 do_row 56 ⟨#[114, 62]⟩ 0 1 1 false 4 0 0 121 (by decide) (by decide) (fun w => (fun w => (entD w).2.2.2.2.2.2.2.1) w) Tryz.call121 bd br bm F D R m W h ([(lk 4 0 R).1]) (nR 56 D R) (nM 56 D m) (fun hf G w hw => do_fromR 56 _ _ _ _ bd br bm G _ R m w hw _ _ (lk_saved (flt0 hf).2.2.1) (flt0 hf).2.1)
theorem at_57 : AtD 57 := fun bd br bm F D R m hD ht W h =>
 do_row 57 ⟨#[114, 64]⟩ 0 1 1 false 4 0 0 144 (by decide) (by decide) (fun w => (fun w => (entD w).2.2.2.2.2.2.2.2.1) w) Tryz.call144 bd br bm F D R m W h ([(lk 4 0 R).1]) (nR 57 D R) (nM 57 D m) (fun hf G w hw => do_peek 57 _ _ _ _ bd br bm G _ R m w hw (flt0 hf).2.1)
theorem at_58 : AtD 58 := fun bd br bm F D R m hD ht W h =>
 do_row 58 ⟨#[105]⟩ 0 1 1 false 3 0 0 144 (by decide) (by decide) (fun w => (fun w => (entD w).2.2.2.2.2.2.2.2.2.1) w) Tryz.call144 bd br bm F D R m W h ([(lk 3 0 R).1]) (nR 58 D R) (nM 58 D m) (fun hf G w hw => do_peek 58 _ _ _ _ bd br bm G _ R m w hw (flt0 hf).2.1)
theorem at_59 : AtD 59 := fun bd br bm F D R m hD ht W h =>
 do_row 59 ⟨#[106]⟩ 0 1 1 false 3 2 0 144 (by decide) (by decide) (fun w => (fun w => (entD w).2.2.2.2.2.2.2.2.2.2.1) w) Tryz.call144 bd br bm F D R m W h ([(lk 3 2 R).1]) (nR 59 D R) (nM 59 D m) (fun hf G w hw => do_peek 59 _ _ _ _ bd br bm G _ R m w hw (flt0 hf).2.1)
theorem at_60 : AtD 60 := fun bd br bm F D R m hD ht W h =>
 do_row 60 ⟨#[112, 108, 111, 116]⟩ 3 0 3 false 0 0 0 123 (by decide) (by decide) (fun w => (fun w => (entD w).2.2.2.2.2.2.2.2.2.2.2.1) w) Tryz.call123 bd br bm F D R m W h ([]) (nR 60 D R) (nM 60 D m) (fun hf G w hw => by
  rw [List.append_nil]
  exact do_plot 60 _ _ _ _ bd br bm G _ R m w hw (C_xAt D hD 3 0) (C_xAt D hD 3 1) ht)
theorem at_61 : AtD 61 := fun bd br bm F D R m hD ht W h =>
 do_row 61 ⟨#[112, 97, 100]⟩ 0 1 1 false 0 0 0 125 (by decide) (by decide) (fun w => (fun w => (entD w).2.2.2.2.2.2.2.2.2.2.2.2.1) w) Tryz.call125 bd br bm F D R m W h ([m.pad]) (nR 61 D R) (nM 61 D m) (fun hf G w hw => do_pad 61 _ _ _ _ bd br bm G _ R m w hw (flt0 hf).2.1)
theorem at_62 : AtD 62 := fun bd br bm F D R m hD ht W h =>
 do_row 62 ⟨#[116, 111, 110, 101]⟩ 2 0 2 false 0 0 0 127 (by decide) (by decide) (fun w => (fun w => (entD w).2.2.2.2.2.2.2.2.2.2.2.2.2.1) w) Tryz.call127 bd br bm F D R m W h ([]) (nR 62 D R) (nM 62 D m) (fun hf G w hw => by
  rw [List.append_nil]
  exact do_tone 62 _ _ _ _ bd br bm G _ R m w hw (C_xAt D hD 2 0) (C_xAt D hD 2 1) ht)
theorem at_63 : AtD 63 := fun bd br bm F D R m hD ht W h =>
 do_row 63 ⟨#[98, 97, 110, 107]⟩ 1 0 1 false 0 0 0 129 (by decide) (by decide) (fun w => (fun w => (entD w).2.2.2.2.2.2.2.2.2.2.2.2.2.2) w) Tryz.call129 bd br bm F D R m W h ([]) (nR 63 D R) (nM 63 D m) (fun hf G w hw => by
  rw [List.append_nil]
  exact do_bank 63 _ _ _ _ bd br bm G _ R m w hw (C_xAt D hD 1 0) (C_xAt D hD 1 1) ht)
theorem plain_cases (op : Int) (h : plain op = true) : op = 6 \/ op = 9 \/ op = 12 \/ op = 13 \/ op = 14 \/ op = 15 \/ op = 16 \/ op = 17 \/ op = 18 \/ op = 19 \/ op = 20 \/ op = 21 \/ op = 22 \/ op = 23 \/ op = 24 \/ op = 25 \/ op = 26 \/ op = 27 \/ op = 28 \/ op = 29 \/ op = 30 \/ op = 31 \/ op = 32 \/ op = 33 \/ op = 34 \/ op = 35 \/ op = 36 \/ op = 37 \/ op = 38 \/ op = 39 \/ op = 40 \/ op = 41 \/ op = 42 \/ op = 43 \/ op = 44 \/ op = 45 \/ op = 46 \/ op = 47 \/ op = 48 \/ op = 49 \/ op = 50 \/ op = 51 \/ op = 52 \/ op = 53 \/ op = 54 \/ op = 55 \/ op = 56 \/ op = 57 \/ op = 58 \/ op = 59 \/ op = 60 \/ op = 61 \/ op = 62 \/ op = 63 := by
 unfold plain at h
 simp only [Bool.or_eq_true, Bool.and_eq_true, beq_iff_eq, decide_eq_true_eq] at h
 omega
theorem do_any (op : Int) (hp : plain op = true) (bd br bm : Nat) (F : Nat -> Prop) (D : List Int) (R : List (Int × Int)) (m : M.MS) (hD : ∀ x ∈ D, C.C x) (ht : m.tones.length <= 999000) (W : World) (h : PS W bd br bm F D R m) : Calls Tryz.prog 72 #[.int .i64 op, .pointer (some ⟨bd, 0, none⟩), .pointer (some ⟨br, 0, none⟩), .pointer (some ⟨bm, 0, none⟩)] W fun e W' => e = .returned (.int .i64 (fl op D R)) /\ (fl op D R ≠ 0 -> Below W.heap.size W W') /\ (fl op D R = 0 -> PD W W' bd br bm F (nD op D R m) (nR op D R) (nM op D m)) := by
 rcases plain_cases op hp with rfl | rfl | rfl | rfl | rfl | rfl | rfl | rfl | rfl | rfl | rfl | rfl | rfl | rfl | rfl | rfl | rfl | rfl | rfl | rfl | rfl | rfl | rfl | rfl | rfl | rfl | rfl | rfl | rfl | rfl | rfl | rfl | rfl | rfl | rfl | rfl | rfl | rfl | rfl | rfl | rfl | rfl | rfl | rfl | rfl | rfl | rfl | rfl | rfl | rfl | rfl | rfl | rfl | rfl
 ·exact at_6 bd br bm F D R m hD ht W h
 ·exact at_9 bd br bm F D R m hD ht W h
 ·exact at_12 bd br bm F D R m hD ht W h
 ·exact at_13 bd br bm F D R m hD ht W h
 ·exact at_14 bd br bm F D R m hD ht W h
 ·exact at_15 bd br bm F D R m hD ht W h
 ·exact at_16 bd br bm F D R m hD ht W h
 ·exact at_17 bd br bm F D R m hD ht W h
 ·exact at_18 bd br bm F D R m hD ht W h
 ·exact at_19 bd br bm F D R m hD ht W h
 ·exact at_20 bd br bm F D R m hD ht W h
 ·exact at_21 bd br bm F D R m hD ht W h
 ·exact at_22 bd br bm F D R m hD ht W h
 ·exact at_23 bd br bm F D R m hD ht W h
 ·exact at_24 bd br bm F D R m hD ht W h
 ·exact at_25 bd br bm F D R m hD ht W h
 ·exact at_26 bd br bm F D R m hD ht W h
 ·exact at_27 bd br bm F D R m hD ht W h
 ·exact at_28 bd br bm F D R m hD ht W h
 ·exact at_29 bd br bm F D R m hD ht W h
 ·exact at_30 bd br bm F D R m hD ht W h
 ·exact at_31 bd br bm F D R m hD ht W h
 ·exact at_32 bd br bm F D R m hD ht W h
 ·exact at_33 bd br bm F D R m hD ht W h
 ·exact at_34 bd br bm F D R m hD ht W h
 ·exact at_35 bd br bm F D R m hD ht W h
 ·exact at_36 bd br bm F D R m hD ht W h
 ·exact at_37 bd br bm F D R m hD ht W h
 ·exact at_38 bd br bm F D R m hD ht W h
 ·exact at_39 bd br bm F D R m hD ht W h
 ·exact at_40 bd br bm F D R m hD ht W h
 ·exact at_41 bd br bm F D R m hD ht W h
 ·exact at_42 bd br bm F D R m hD ht W h
 ·exact at_43 bd br bm F D R m hD ht W h
 ·exact at_44 bd br bm F D R m hD ht W h
 ·exact at_45 bd br bm F D R m hD ht W h
 ·exact at_46 bd br bm F D R m hD ht W h
 ·exact at_47 bd br bm F D R m hD ht W h
 ·exact at_48 bd br bm F D R m hD ht W h
 ·exact at_49 bd br bm F D R m hD ht W h
 ·exact at_50 bd br bm F D R m hD ht W h
 ·exact at_51 bd br bm F D R m hD ht W h
 ·exact at_52 bd br bm F D R m hD ht W h
 ·exact at_53 bd br bm F D R m hD ht W h
 ·exact at_54 bd br bm F D R m hD ht W h
 ·exact at_55 bd br bm F D R m hD ht W h
 ·exact at_56 bd br bm F D R m hD ht W h
 ·exact at_57 bd br bm F D R m hD ht W h
 ·exact at_58 bd br bm F D R m hD ht W h
 ·exact at_59 bd br bm F D R m hD ht W h
 ·exact at_60 bd br bm F D R m hD ht W h
 ·exact at_61 bd br bm F D R m hD ht W h
 ·exact at_62 bd br bm F D R m hD ht W h
 ·exact at_63 bd br bm F D R m hD ht W h
end Go.Proofs.YtoemoiehjdmheaaGreat.P
