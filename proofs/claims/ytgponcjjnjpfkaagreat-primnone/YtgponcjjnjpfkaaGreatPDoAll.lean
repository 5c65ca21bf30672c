import Derived.Test.YtgponcjjnjpfkaaGreatPDo
/-! Do, all its ways as one. -/
namespace Go.Proofs.YtgponcjjnjpfkaaGreat.P
open Go.RowKit
open Go.Proofs
set_option linter.unusedVariables false
set_option linter.unusedSimpArgs false
set_option maxHeartbeats 2000000
set_option maxRecDepth 100000
def tops (D : List Int) (i : Nat) : List Int := D.drop (D.length - i)
def rest (D : List Int) (i : Nat) : List Int := D.take (D.length - i)
def xAt (D : List Int) (i j : Nat) : Int := ((tops D i)[j]?).getD 0
theorem tops_len (D : List Int) (i : Nat) (h : i ≤ D.length) : (tops D i).length = i := by rw [tops, List.length_drop]; omega
theorem rest_len (D : List Int) (i : Nat) : (rest D i).length = D.length - i := by rw [rest, List.length_take]; omega
theorem parts (D : List Int) (i : Nat) : D = rest D i ++ tops D i := (List.take_append_drop _ _).symm
theorem list1 : ∀ l : List Int, l.length = 1 → l = [(l[0]?).getD 0]
  | [a], _ => rfl
theorem list2 : ∀ l : List Int, l.length = 2 → l = [(l[0]?).getD 0, (l[1]?).getD 0]
  | [a, b], _ => rfl
theorem list3 : ∀ l : List Int, l.length = 3 → l = [(l[0]?).getD 0, (l[1]?).getD 0, (l[2]?).getD 0]
  | [a, b, c], _ => rfl
theorem xAt_hi (D : List Int) (i j : Nat) (hd : i ≤ D.length) (h : i ≤ j) : xAt D i j = 0 := by
  rw [xAt, List.getElem?_eq_none (by rw [tops_len D i hd]; exact h)]; rfl
/-- What is looked at on the return stack: the value, the fault. -/
def lk (k : Int) (bl : Nat) (R : List (Int × Int)) : Int × Int :=
  if k = 0 then (0, 0) else if R.length ≤ bl then (0, 3) else if ((R[R.length - 1 - bl]?).getD (0, 0)).1 = k then (((R[R.length - 1 - bl]?).getD (0, 0)).2, 0) else (0, 5)
def flt (i o : Nat) (k : Int) (bl s : Nat) (D : List Int) (R : List (Int × Int)) : Int :=
  if S.need D.length i o ≠ 0 then S.need D.length i o else if (lk k bl R).2 ≠ 0 then (lk k bl R).2 else if 128 < R.length + s then 4 else 0
theorem take_any (i : Nat) (hi : i ≤ 3) (bd : Nat) (D : List Int) (hD : i ≤ D.length) (W : World) (h : S.HasD W bd D) :
    Calls Tryz.prog 48 #[.pointer (some ⟨bd, 0, none⟩), .int .i64 (i : Int)] W fun e W' => e = .returned (.agg #[.int .u16 (xAt D i 0), .int .u16 (xAt D i 1), .int .u16 (xAt D i 2)]) ∧ S.HasD W' bd (rest D i) ∧ S.At bd W W' := by
  have hl := tops_len D i hD
  have hp := parts D i
  have e0 := xAt_hi D i 0 hD
  have e1 := xAt_hi D i 1 hD
  have e2 := xAt_hi D i 2 hD
  rcases (show i = 0 ∨ i = 1 ∨ i = 2 ∨ i = 3 by omega) with rfl | rfl | rfl | rfl
  · rw [e0 (by omega), e1 (by omega), e2 (by omega)]
    have : rest D 0 = D := by simp [rest]
    rw [this]
    exact take_0 bd D W h
  · rw [e1 (by omega), e2 (by omega)]
    refine take_1 bd (rest D 1) (xAt D 1 0) W ?_
    rw [xAt, ← list1 _ hl, ← hp]; exact h
  · rw [e2 (by omega)]
    refine take_2 bd (rest D 2) (xAt D 2 0) (xAt D 2 1) W ?_
    rw [xAt, xAt, ← list2 _ hl, ← hp]; exact h
  · refine take_3 bd (rest D 3) (xAt D 3 0) (xAt D 3 1) (xAt D 3 2) W ?_
    rw [xAt, xAt, xAt, ← list3 _ hl, ← hp]; exact h
theorem look_any (op : Int) (name : ByteArray) (i o c : Int) (b : Bool) (k : Int) (bl : Nat) (s : Int) (g : Nat) (br : Nat) (R : List (Int × Int)) (W : World) (h : S.HasR W br R) :
    Calls Tryz.prog 47 #[.agg #[.int .i64 op, .string name, .int .i64 i, .int .i64 o, .int .i64 c, .bool b, .int .i64 k, .int .i64 (bl : Int), .int .i64 s, .func (.func g) #[] #[]], .pointer (some ⟨br, 0, none⟩)] W fun e W' => e = .returned (.tuple #[.int .u16 (lk k bl R).1, .int .i64 (lk k bl R).2]) ∧ Below W.heap.size W W' := by
  by_cases a0 : k = 0
  · subst a0
    rw [lk, if_pos rfl]
    exact look_none op name i o c b bl s _ rfl _ W
  have hk : (k == 0) = false := by simpa using a0
  have hb := bel_alloc W (.cells #[.int .i64 op, .string name, .int .i64 i, .int .i64 o, .int .i64 c, .bool b, .int .i64 k, .int .i64 (bl : Int), .int .i64 s, .func (.func g) #[] #[]] 94)
  have h' := h.below hb
  rw [lk, if_neg a0]
  by_cases a1 : R.length ≤ bl
  · rw [if_pos a1]
    exact look_at op name i o c b k bl s hk _ _ 0 3 W ((S.rat_under br R bl k (.inr (by omega)) _ h').mono fun e w' ⟨x, y⟩ => ⟨x, 0, y⟩)
  rw [if_neg a1]
  have hj : R.length - 1 - bl < R.length := by omega
  have hg : R[R.length - 1 - bl]? = some ((R[R.length - 1 - bl]?).getD (0, 0)) := by rw [List.getElem?_eq_getElem hj]; rfl
  generalize (R[R.length - 1 - bl]?).getD (0, 0) = q at *
  obtain ⟨q1, q2⟩ := q
  by_cases a2 : q1 = k
  · subst a2
    rw [if_pos rfl]
    exact look_at op name i o c b q1 bl s hk _ _ q2 0 W (S.rat_ok br R (R.length - 1 - bl) bl (by omega) q1 q2 hg _ h')
  · rw [if_neg a2]
    exact look_at op name i o c b k bl s hk _ _ 0 5 W (S.rat_kind br R (R.length - 1 - bl) bl (by omega) q1 q2 hg k a2 _ h')
/-- Do at a row whose function puts P, and leaves the return stack Q and the memory M'. -/
theorem do_row (op : Int) (name : ByteArray) (i o : Nat) (c : Int) (b : Bool) (k : Int) (bl s : Nat) (g : Nat) (hi : i ≤ 3) (hs : s ≤ 2)
    (hE : ∀ w, Calls Tryz.prog 45 #[.int .i64 op] w fun e w' => e = .returned (entV op name i o c b k bl s (.func (.func g) #[] #[])) ∧ Below w.heap.size w w')
    (hcl : ∀ (args : Array Value) (w : World), (callFunc g args).run Tryz.prog w = .ok (.enter g args) w)
    (bd br bm : Nat) (F : Nat → Prop) (D : List Int) (R : List (Int × Int)) (m : M.MS) (W : World) (h : PS W bd br bm F D R m)
    (P : List Int) (Q : List (Int × Int)) (m2 : M.MS)
    (hG : flt i o k bl s D R = 0 → ∀ (G : Nat → Prop) (w : World), PS w bd br bm G (rest D i) R m → Calls Tryz.prog g #[.agg #[.int .i64 op, .int .u16 (xAt D i 0), .int .u16 (xAt D i 1), .int .u16 (xAt D i 2), .int .u16 (lk k bl R).1, .pointer (some ⟨bd, 0, none⟩), .pointer (some ⟨br, 0, none⟩), .pointer (some ⟨bm, 0, none⟩)]] w fun e w' => e = .returned (.tuple #[]) ∧ PD w w' bd br bm G (rest D i ++ P) Q m2) :
    Calls Tryz.prog 12 #[.int .i64 op, .pointer (some ⟨bd, 0, none⟩), .pointer (some ⟨br, 0, none⟩), .pointer (some ⟨bm, 0, none⟩)] W fun e W' => e = .returned (.int .i64 (flt i o k bl s D R)) ∧ (flt i o k bl s D R ≠ 0 → Below W.heap.size W W') ∧ (flt i o k bl s D R = 0 → PD W W' bd br bm F (rest D i ++ P) Q m2) := by
  by_cases a0 : S.need D.length i o = 0
  · by_cases a1 : (lk k bl R).2 = 0
    · by_cases a2 : 128 < R.length + s
      · have hf : flt i o k bl s D R = 4 := by rw [flt, if_neg (by simpa using a0), if_neg (by simpa using a1), if_pos a2]
        refine (do_rover op name i o c b k bl s g hE bd br bm F D R m W h a0 (lk k bl R).1 (by omega) (by omega) (by omega) (fun w hw => ?_)).mono fun e W' ⟨x, y⟩ => ⟨by rw [hf]; exact x, fun _ => y, fun q => by rw [hf] at q; cases q⟩
        have := look_any op name i o c b k bl s g br R w hw
        rw [a1] at this; exact this
      · have hf : flt i o k bl s D R = 0 := by rw [flt, if_neg (by simpa using a0), if_neg (by simpa using a1), if_neg a2]
        have hD : i ≤ D.length := by
          by_cases c : i ≤ D.length
          · exact c
          · have : S.need D.length i o = 1 := by rw [S.need, if_pos (by omega)]
            omega
        refine (do_ok op name i o c b k bl s g hE bd br bm F D R m W h a0 (lk k bl R).1 (by omega) (by omega) (by omega) (fun w hw => ?_) hcl (rest D i) _ _ _ (fun w hw => take_any i hi bd D hD w hw) _ _ _ (hG hf)).mono fun e W' ⟨x, y⟩ => ⟨by rw [hf]; exact x, fun q => absurd hf q, fun _ => y⟩
        have := look_any op name i o c b k bl s g br R w hw
        rw [a1] at this; exact this
    · have hf : flt i o k bl s D R = (lk k bl R).2 := by rw [flt, if_neg (by simpa using a0), if_pos a1]
      refine (do_look op name i o c b k bl s g hE bd br bm F D R m W h a0 (lk k bl R).1 (lk k bl R).2 (by simpa using a1) (fun w hw => look_any op name i o c b k bl s g br R w hw)).mono fun e W' ⟨x, y⟩ => ⟨by rw [hf]; exact x, fun _ => y, fun q => by rw [hf] at q; exact absurd q a1⟩
  · have hf : flt i o k bl s D R = S.need D.length i o := by rw [flt, if_pos a0]
    exact (do_need op name i o c b k bl s g hE bd br bm F D R m W h _ rfl (by simpa using a0)).mono fun e W' ⟨x, y⟩ => ⟨by rw [hf]; exact x, fun _ => y, fun q => by rw [hf] at q; exact absurd q a0⟩
end Go.Proofs.YtgponcjjnjpfkaaGreat.P
