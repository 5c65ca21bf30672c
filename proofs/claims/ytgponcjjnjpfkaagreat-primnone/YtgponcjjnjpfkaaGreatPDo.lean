import Derived.Test.YtgponcjjnjpfkaaGreatPTake
import Derived.Great.BuildSlice
/-! Do. -/
namespace Go.Proofs.YtgponcjjnjpfkaaGreat.P
open Go.RowKit
open Go.Proofs
set_option linter.unusedVariables false
set_option linter.unusedSimpArgs false
set_option maxHeartbeats 2000000
set_option maxRecDepth 100000
/-- The entry's own block in Do. -/
def EB (W : World) (g : Nat) (op : Int) (name : ByteArray) (i o c : Int) (b : Bool) (k bl s : Int) (f : Value) : Prop := W.heap[g]? = some (.cells #[.int .i64 op, .string name, .int .i64 i, .int .i64 o, .int .i64 c, .bool b, .int .i64 k, .int .i64 bl, .int .i64 s, f] 94 (0, 0))
theorem ent_block (w1 : World) (op : Int) (name : ByteArray) (i o c : Int) (b : Bool) (k bl s : Int) (f : Value) : ∃ w2, (w1.alloc (.cells #[.int .i64 0, .string { data := #[] }, .int .i64 0, .int .i64 0, .int .i64 0, .bool false, .int .i64 0, .int .i64 0, .int .i64 0, .nilFunc] 94)).setRow w1.heap.size #[.int .i64 op, .string name, .int .i64 i, .int .i64 o, .int .i64 c, .bool b, .int .i64 k, .int .i64 bl, .int .i64 s, f] = w2 ∧ EB w2 w1.heap.size op name i o c b k bl s f ∧ Below w1.heap.size w1 w2 :=
  ⟨_, rfl, setRow_heap _ _ _ _ _ _ (heap_alloc_new w1 _), Below.setRow (bel_alloc w1 _) _ (Nat.le_refl _) _⟩
theorem eqF (W : World) (f : Fn) (a b : Array Value) : (binOp .eql 92 (.func f a b) .nilFunc).run Tryz.prog W = .ok (.bool false) W := by
  have h : ∀ d : Nat, (Op.equalIn (d + 1) 92 (.func f a b) .nilFunc).run Tryz.prog W = .ok false W := fun d => by
    simp [Op.equalIn, run_underlying Tryz.underlying92]
  have h2 : (Op.equal 92 (.func f a b) .nilFunc).run Tryz.prog W = .ok false W := h 9999
  simp [binOp, h2]
theorem eqN (W : World) : (binOp .eql 92 .nilFunc .nilFunc).run Tryz.prog W = .ok (.bool true) W := by
  have h : ∀ d : Nat, (Op.equalIn (d + 1) 92 .nilFunc .nilFunc).run Tryz.prog W = .ok true W := fun d => by
    simp [Op.equalIn, run_underlying Tryz.underlying92]
  have h2 : (Op.equal 92 .nilFunc .nilFunc).run Tryz.prog W = .ok true W := h 9999
  simp [binOp, h2]
/-- The data stack has not what is wanted. -/
theorem do_need (op : Int) (name : ByteArray) (i o c : Int) (b : Bool) (k bl s : Int) (g : Nat)
    (hE : ∀ w, Calls Tryz.prog 45 #[.int .i64 op] w fun e w' => e = .returned (entV op name i o c b k bl s (.func (.func g) #[] #[])) ∧ Below w.heap.size w w')
    (bd br bm : Nat) (F : Nat → Prop) (D : List Int) (R : List (Int × Int)) (m : M.MS) (W : World) (h : PS W bd br bm F D R m) (v : Int) (hn : S.need D.length i o = v) (hv : (v != 0) = true) :
    Calls Tryz.prog 12 #[.int .i64 op, .pointer (some ⟨bd, 0, none⟩), .pointer (some ⟨br, 0, none⟩), .pointer (some ⟨bm, 0, none⟩)] W fun e W' => e = .returned (.int .i64 v) ∧ Below W.heap.size W W' := by
  have qF := eqF
  go_enter Tryz.func12, Tryz.ntmps12
  go_wp2_with fail
  refine (hE _).mono ?_
  rintro e w1 ⟨rfl, h1⟩
  unfold entV
  obtain ⟨w2, hw2, hB2, h2⟩ := ent_block w1 op name i o c b k bl s (.func (.func g) #[] #[])
  have hb : Below W.heap.size W w2 := h1.trans ⟨h2.os, h2.tape, h2.output, h2.size, fun k hk => h2.block k (Nat.lt_of_lt_of_le hk h1.size)⟩
  have hP := h.below hb
  have hN := S.dneed bd D i o w2 hP.d
  rw [hn] at hN
  have c2 := S.cell_of w2 w1.heap.size 2 _ 94 _ hB2 rfl
  have c3 := S.cell_of w2 w1.heap.size 3 _ 94 _ hB2 rfl
  have c9 := S.cell_of w2 w1.heap.size 9 _ 94 _ hB2 rfl
  have hg1 : W.heap.size ≤ w1.heap.size := h1.size
  have H := S.hid h
  have HP := S.hid hP
  have HB := S.hid hb
  clear h hP hb h1 h2
  go_wp2_with (refine wpList_store_row rfl 94 _ _ rfl w1.heap.size _ rfl rfl 94 zE (heap_alloc_new w1 _) (by exact sizeE) (by rfl) (by simp [Value.oneCell']) ?_)
  refine hN.mono ?_
  rintro e w3 ⟨rfl, hw3⟩
  obtain rfl := hw3.symm
  go_wp2
  go_ret
  exact ⟨rfl, HB.out⟩
/-- The return stack has not what is looked at. -/
theorem do_look (op : Int) (name : ByteArray) (i o c : Int) (b : Bool) (k bl s : Int) (g : Nat)
    (hE : ∀ w, Calls Tryz.prog 45 #[.int .i64 op] w fun e w' => e = .returned (entV op name i o c b k bl s (.func (.func g) #[] #[])) ∧ Below w.heap.size w w')
    (bd br bm : Nat) (F : Nat → Prop) (D : List Int) (R : List (Int × Int)) (m : M.MS) (W : World) (h : PS W bd br bm F D R m) (hn : S.need D.length i o = 0) (u v : Int) (hv : (v != 0) = true)
    (hL : ∀ w, S.HasR w br R → Calls Tryz.prog 47 #[.agg #[.int .i64 op, .string name, .int .i64 i, .int .i64 o, .int .i64 c, .bool b, .int .i64 k, .int .i64 bl, .int .i64 s, .func (.func g) #[] #[]], .pointer (some ⟨br, 0, none⟩)] w fun e w' => e = .returned (.tuple #[.int .u16 u, .int .i64 v]) ∧ Below w.heap.size w w') :
    Calls Tryz.prog 12 #[.int .i64 op, .pointer (some ⟨bd, 0, none⟩), .pointer (some ⟨br, 0, none⟩), .pointer (some ⟨bm, 0, none⟩)] W fun e W' => e = .returned (.int .i64 v) ∧ Below W.heap.size W W' := by
  have qF := eqF
  go_enter Tryz.func12, Tryz.ntmps12
  go_wp2_with fail
  refine (hE _).mono ?_
  rintro e w1 ⟨rfl, h1⟩
  unfold entV
  obtain ⟨w2, hw2, hB2, h2⟩ := ent_block w1 op name i o c b k bl s (.func (.func g) #[] #[])
  have hb : Below W.heap.size W w2 := h1.trans ⟨h2.os, h2.tape, h2.output, h2.size, fun k hk => h2.block k (Nat.lt_of_lt_of_le hk h1.size)⟩
  have hP := h.below hb
  have hN := S.dneed bd D i o w2 hP.d
  rw [hn] at hN
  have c2 := S.cell_of w2 w1.heap.size 2 _ 94 _ hB2 rfl
  have c3 := S.cell_of w2 w1.heap.size 3 _ 94 _ hB2 rfl
  have c9 := S.cell_of w2 w1.heap.size 9 _ 94 _ hB2 rfl
  have hg1 : W.heap.size ≤ w1.heap.size := h1.size
  have H := S.hid h
  have HP := S.hid hP
  have HB := S.hid hb
  clear h hP hb h1 h2
  go_wp2_with (refine wpList_store_row rfl 94 _ _ rfl w1.heap.size _ rfl rfl 94 zE (heap_alloc_new w1 _) (by exact sizeE) (by rfl) (by simp [Value.oneCell']) ?_)
  refine hN.mono ?_
  rintro e w3 ⟨rfl, hw3⟩
  obtain rfl := hw3.symm
  have hLk := hL w2 HP.out.r
  go_wp2_with (refine wpList_load_row rfl 94 _ rfl w1.heap.size rfl 94 _ (0, 0) _ hB2 Tryz.underlying94 rfl (by exact sizeE) ?_)
  refine hLk.mono ?_
  rintro e w3 ⟨rfl, h3⟩
  have hb3 : Below W.heap.size W w3 := HB.out.trans ⟨h3.os, h3.tape, h3.output, h3.size, fun k hk => h3.block k (Nat.lt_of_lt_of_le hk HB.out.size)⟩
  clear h3
  go_wp2
  go_ret
  exact ⟨rfl, hb3⟩
/-- The return stack has no room. -/
theorem do_rover (op : Int) (name : ByteArray) (i o c : Int) (b : Bool) (k bl s : Int) (g : Nat)
    (hE : ∀ w, Calls Tryz.prog 45 #[.int .i64 op] w fun e w' => e = .returned (entV op name i o c b k bl s (.func (.func g) #[] #[])) ∧ Below w.heap.size w w')
    (bd br bm : Nat) (F : Nat → Prop) (D : List Int) (R : List (Int × Int)) (m : M.MS) (W : World) (h : PS W bd br bm F D R m) (hn : S.need D.length i o = 0) (u : Int) (hs0 : 0 ≤ s) (hs1 : s ≤ 2) (hr : 128 - s < (R.length : Int))
    (hL : ∀ w, S.HasR w br R → Calls Tryz.prog 47 #[.agg #[.int .i64 op, .string name, .int .i64 i, .int .i64 o, .int .i64 c, .bool b, .int .i64 k, .int .i64 bl, .int .i64 s, .func (.func g) #[] #[]], .pointer (some ⟨br, 0, none⟩)] w fun e w' => e = .returned (.tuple #[.int .u16 u, .int .i64 0]) ∧ Below w.heap.size w w') :
    Calls Tryz.prog 12 #[.int .i64 op, .pointer (some ⟨bd, 0, none⟩), .pointer (some ⟨br, 0, none⟩), .pointer (some ⟨bm, 0, none⟩)] W fun e W' => e = .returned (.int .i64 4) ∧ Below W.heap.size W W' := by
  have qF := eqF
  go_enter Tryz.func12, Tryz.ntmps12
  go_wp2_with fail
  refine (hE _).mono ?_
  rintro e w1 ⟨rfl, h1⟩
  unfold entV
  obtain ⟨w2, hw2, hB2, h2⟩ := ent_block w1 op name i o c b k bl s (.func (.func g) #[] #[])
  have hb : Below W.heap.size W w2 := h1.trans ⟨h2.os, h2.tape, h2.output, h2.size, fun k hk => h2.block k (Nat.lt_of_lt_of_le hk h1.size)⟩
  have hP := h.below hb
  have hN := S.dneed bd D i o w2 hP.d
  rw [hn] at hN
  have c2 := S.cell_of w2 w1.heap.size 2 _ 94 _ hB2 rfl
  have c3 := S.cell_of w2 w1.heap.size 3 _ 94 _ hB2 rfl
  have c9 := S.cell_of w2 w1.heap.size 9 _ 94 _ hB2 rfl
  have hg1 : W.heap.size ≤ w1.heap.size := h1.size
  have H := S.hid h
  have HP := S.hid hP
  have HB := S.hid hb
  clear h hP hb h1 h2
  go_wp2_with (refine wpList_store_row rfl 94 _ _ rfl w1.heap.size _ rfl rfl 94 zE (heap_alloc_new w1 _) (by exact sizeE) (by rfl) (by simp [Value.oneCell']) ?_)
  refine hN.mono ?_
  rintro e w3 ⟨rfl, hw3⟩
  obtain rfl := hw3.symm
  have hLk := hL w2 HP.out.r
  go_wp2_with (refine wpList_load_row rfl 94 _ rfl w1.heap.size rfl 94 _ (0, 0) _ hB2 Tryz.underlying94 rfl (by exact sizeE) ?_)
  refine hLk.mono ?_
  rintro e w3 ⟨rfl, h3⟩
  have hB3 : EB w3 w1.heap.size op name i o c b k bl s (.func (.func g) #[] #[]) := (h3.block _ (S.lt_of hB2)).trans hB2
  have hb3 : Below W.heap.size W w3 := HB.out.trans ⟨h3.os, h3.tape, h3.output, h3.size, fun k hk => h3.block k (Nat.lt_of_lt_of_le hk HB.out.size)⟩
  have hP3 := H.out.below hb3
  have c8 := S.cell_of w3 w1.heap.size 8 _ 94 _ hB3 rfl
  have hR3 := hP3.r
  have e1 : IntKind.i64.wrap (128 - s) = 128 - s := S.i64_id _ (by omega) (by omega)
  have HP3 := S.hid hP3
  have HB3 := S.hid hb3
  have HE3 := S.hid hB3
  clear hP3 hb3 hB3 c2 c3 c9 hw2 hN hLk hB2
  go_wp2_with fail
  go_quiet (first | (go_at_call 19; refine Calls.quiet_of_same (S.rlen br R _ ?_); exact hR3.kept rfl))
  have HX := S.hid h3
  clear h3
  go_wp2
  go_ret
  have hb3 := HB3.out
  exact ⟨rfl, hb3.os, hb3.tape, hb3.output, hb3.size, hb3.block⟩
theorem do_ok (op : Int) (name : ByteArray) (i o c : Int) (b : Bool) (k bl s : Int) (g : Nat)
    (hE : ∀ w, Calls Tryz.prog 45 #[.int .i64 op] w fun e w' => e = .returned (entV op name i o c b k bl s (.func (.func g) #[] #[])) ∧ Below w.heap.size w w')
    (bd br bm : Nat) (F : Nat → Prop) (D : List Int) (R : List (Int × Int)) (m : M.MS) (W : World) (h : PS W bd br bm F D R m) (hn : S.need D.length i o = 0) (u : Int) (hs0 : 0 ≤ s) (hs1 : s ≤ 2) (hr : ¬ 128 - s < (R.length : Int))
    (hL : ∀ w, S.HasR w br R → Calls Tryz.prog 47 #[.agg #[.int .i64 op, .string name, .int .i64 i, .int .i64 o, .int .i64 c, .bool b, .int .i64 k, .int .i64 bl, .int .i64 s, .func (.func g) #[] #[]], .pointer (some ⟨br, 0, none⟩)] w fun e w' => e = .returned (.tuple #[.int .u16 u, .int .i64 0]) ∧ Below w.heap.size w w')
    (hcl : ∀ (args : Array Value) (w : World), (callFunc g args).run Tryz.prog w = .ok (.enter g args) w)
    (D0 : List Int) (x y z : Int)
    (hT : ∀ w, S.HasD w bd D → Calls Tryz.prog 48 #[.pointer (some ⟨bd, 0, none⟩), .int .i64 i] w fun e w' => e = .returned (.agg #[.int .u16 x, .int .u16 y, .int .u16 z]) ∧ S.HasD w' bd D0 ∧ S.At bd w w')
    (D2 : List Int) (R2 : List (Int × Int)) (m2 : M.MS)
    (hG : ∀ (G : Nat → Prop) (w : World), PS w bd br bm G D0 R m → Calls Tryz.prog g #[.agg #[.int .i64 op, .int .u16 x, .int .u16 y, .int .u16 z, .int .u16 u, .pointer (some ⟨bd, 0, none⟩), .pointer (some ⟨br, 0, none⟩), .pointer (some ⟨bm, 0, none⟩)]] w fun e w' => e = .returned (.tuple #[]) ∧ PD w w' bd br bm G D2 R2 m2) :
    Calls Tryz.prog 12 #[.int .i64 op, .pointer (some ⟨bd, 0, none⟩), .pointer (some ⟨br, 0, none⟩), .pointer (some ⟨bm, 0, none⟩)] W fun e W' => e = .returned (.int .i64 0) ∧ PD W W' bd br bm F D2 R2 m2 := by
  have qF := eqF
  go_enter Tryz.func12, Tryz.ntmps12
  go_wp2_with fail
  refine (hE _).mono ?_
  rintro e w1 ⟨rfl, h1⟩
  unfold entV
  obtain ⟨w2, hw2, hB2, h2⟩ := ent_block w1 op name i o c b k bl s (.func (.func g) #[] #[])
  have hb : Below W.heap.size W w2 := h1.trans ⟨h2.os, h2.tape, h2.output, h2.size, fun k hk => h2.block k (Nat.lt_of_lt_of_le hk h1.size)⟩
  have hP := h.below hb
  have hN := S.dneed bd D i o w2 hP.d
  rw [hn] at hN
  have c2 := S.cell_of w2 w1.heap.size 2 _ 94 _ hB2 rfl
  have c3 := S.cell_of w2 w1.heap.size 3 _ 94 _ hB2 rfl
  have c9 := S.cell_of w2 w1.heap.size 9 _ 94 _ hB2 rfl
  have hg1 : W.heap.size ≤ w1.heap.size := h1.size
  have H := S.hid h
  have HP := S.hid hP
  have HB := S.hid hb
  clear h hP hb h1 h2
  go_wp2_with (refine wpList_store_row rfl 94 _ _ rfl w1.heap.size _ rfl rfl 94 zE (heap_alloc_new w1 _) (by exact sizeE) (by rfl) (by simp [Value.oneCell']) ?_)
  refine hN.mono ?_
  rintro e w3 ⟨rfl, hw3⟩
  obtain rfl := hw3.symm
  have hLk := hL w2 HP.out.r
  go_wp2_with (refine wpList_load_row rfl 94 _ rfl w1.heap.size rfl 94 _ (0, 0) _ hB2 Tryz.underlying94 rfl (by exact sizeE) ?_)
  refine hLk.mono ?_
  rintro e w3 ⟨rfl, h3⟩
  have hB3 : EB w3 w1.heap.size op name i o c b k bl s (.func (.func g) #[] #[]) := (h3.block _ (S.lt_of hB2)).trans hB2
  have hb3 : Below W.heap.size W w3 := HB.out.trans ⟨h3.os, h3.tape, h3.output, h3.size, fun k hk => h3.block k (Nat.lt_of_lt_of_le hk HB.out.size)⟩
  have hP3 := H.out.below hb3
  have c8 := S.cell_of w3 w1.heap.size 8 _ 94 _ hB3 rfl
  have hR3 := hP3.r
  have e1 : IntKind.i64.wrap (128 - s) = 128 - s := S.i64_id _ (by omega) (by omega)
  have HP3 := S.hid hP3
  have HB3 := S.hid hb3
  have HE3 := S.hid hB3
  clear hP3 hb3 hB3 c2 c3 c9 hw2 hN hLk hB2
  go_wp2_with fail
  go_quiet (first | (go_at_call 19; refine Calls.quiet_of_same (S.rlen br R _ ?_); exact hR3.kept rfl))
  obtain ⟨w4, hw4⟩ : ∃ w4, w3.drewN nq = w4 := ⟨_, rfl⟩
  have hB4 : EB w4 w1.heap.size op name i o c b k bl s (.func (.func g) #[] #[]) := by rw [← hw4]; exact HE3.out
  have hb4 : Below W.heap.size W w4 := by rw [← hw4]; have q := HB3.out; exact ⟨q.os, q.tape, q.output, q.size, q.block⟩
  have hP4 := H.out.below hb4
  have hTk := hT w4 hP4.d
  have c2 := S.cell_of w4 w1.heap.size 2 _ 94 _ hB4 rfl
  have HP4 := S.hid hP4
  have HB4 := S.hid hb4
  have HE4 := S.hid hB4
  clear hP4 hb4 hB4 c8 hR3 h3 HP3 HB3 HE3 HP
  rw [hw4]
  clear hw4
  go_wp2_with fail
  refine hTk.mono ?_
  rintro e w5 ⟨rfl, h5, t5⟩
  have hP5 := HP4.out.put h5 t5
  have hne : w1.heap.size ≠ bd := by have := S.lt_of H.out.d.1; omega
  have hB5 : EB w5 w1.heap.size op name i o c b k bl s (.func (.func g) #[] #[]) := (t5.block _ (S.lt_of HE4.out) hne).trans HE4.out
  obtain ⟨w6, hw6⟩ : ∃ w6, w5.alloc (.cells #[.int .u16 x, .int .u16 y, .int .u16 z] 99) = w6 := ⟨_, rfl⟩
  have b6 : Below w5.heap.size w5 w6 := by rw [← hw6]; exact bel_alloc w5 _
  have a6 : w6.heap[w5.heap.size]? = some (.cells [.int .u16 x, .int .u16 y, .int .u16 z].toArray 99 (0, 0)) := by rw [← hw6]; exact heap_alloc_new w5 _
  have hB6 : EB w6 w1.heap.size op name i o c b k bl s (.func (.func g) #[] #[]) := (b6.block _ (S.lt_of hB5)).trans hB5
  have c9 := S.cell_of w6 w1.heap.size 9 _ 94 _ hB6 rfl
  have d0 := S.cell_of w6 w5.heap.size 0 _ 99 _ a6 rfl
  have d1 := S.cell_of w6 w5.heap.size 1 _ 99 _ a6 rfl
  have d2 := S.cell_of w6 w5.heap.size 2 _ 99 _ a6 rfl
  have hGk := hG _ w6 (hP5.s.below b6)
  have HX := S.hid (And.intro hP5 b6)
  clear hP5 b6 a6 hB5 hB6 t5 h5 c2 hTk
  go_wp2_with fail
  refine hGk.mono ?_
  rintro e w7 ⟨rfl, h7⟩
  go_wp2
  go_ret
  have hx := HX.out.1
  exact ⟨rfl, PD.ahead (S.lt_of H.out.d.1) (S.lt_of H.out.r.1) HB4.out (hx.trans (PD.ahead (S.lt_of hx.s.d.1) (S.lt_of hx.s.r.1) HX.out.2 h7))⟩
end Go.Proofs.YtgponcjjnjpfkaaGreat.P
