import Derived.Test.YtoemoiehjdmheaaGreatZBgn
import Derived.Test.YtoemoiehjdmheaaGreatRMap
namespace Go.Proofs.YtoemoiehjdmheaaGreat.Z
open Go.RowKit
open Go.Proofs
open Go.Proofs.YtoemoiehjdmheaaGreat.Y (Nd Df Ps Pl hid ZV ndc)
open Go.ChangeMaps (setBlock)
set_option linter.unusedVariables false
set_option linter.unusedSimpArgs false
set_option maxHeartbeats 4000000
set_option maxRecDepth 100000
abbrev Ez := List (ByteArray × Value)
def ents : Nat -> Ez -> List MapEntry
 | _, [] => []
 | i, (s, v) :: r => { key := .string s, val := v, born := i } :: ents (i + 1) r
def MP (W : World) (mb : Nat) (L : Ez) : Prop := W.heap[mb]? = some (.map (ents 0 L).toArray L.length)
def lkz : Ez -> ByteArray -> Option Value
 | [], _ => none
 | (s, v) :: r, x => if s = x then some v else lkz r x
def upz : Ez -> ByteArray -> Value -> Ez
 | [], s, v => [(s, v)]
 | (x, y) :: r, s, v => if x = s then (x, v) :: r else (x, y) :: upz r s v
theorem same_yes (a : ByteArray) : Instr.sameNow .string (.string a) (.string a) = some true := by simp [Instr.sameNow, Go.MapKept.bytes_beq]
theorem same_no {s x : ByteArray} (h : ¬ s = x) : Instr.sameNow .string (.string x) (.string s) = some false := by
 simp only [Instr.sameNow, Option.some.injEq]
 rw [Bool.eq_false_iff]
 intro c
 exact h ((Go.MapKept.bytes_beq _ _).1 c).symm
theorem find_any (x : ByteArray) : ∀ (L : Ez) (i j : Nat), ∃ k, Instr.findNow .string (.string x) (ents i L) j = some ((lkz L x).map fun v => (k, v))
 | [], _, _ => ⟨0, rfl⟩
 | (s, v) :: L, i, j => by
  by_cases h : s = x
  ·subst h
   refine ⟨j, ?_⟩
   simp only [ents, Instr.findNow, same_yes, lkz, if_pos]
   rfl
  ·obtain ⟨k, hk⟩ := find_any x L (i + 1) (j + 1)
   refine ⟨k, ?_⟩
   simp only [ents, Instr.findNow, same_no h, lkz, if_neg h]
   exact hk
def zI : Value := .agg #[.int .i64 0, .int .u16 0, .pointer none, .int .i64 0, .int .i64 0]
theorem zeroI (w : World) : (zeroValue 84).run Tryz.prog w = .ok zI w := by kernel_rfl
theorem look_z (W : World) (mb : Nat) (x : ByteArray) (L : Ez) (h : MP W mb L) :
  (Instr.lookup 98 (.map (some mb)) (.string x) false).run Tryz.prog W = .ok ((lkz L x).getD zI) W := by
 obtain ⟨k, hk⟩ := find_any x L 0 0
 unfold MP at h
 cases hl : lkz L x with
 | none =>
  rw [hl] at hk
  simp [Instr.lookup, run_underlying Tryz.underlying98, getObj, Sem.run, h, R.checkKey_str, Instr.findKey, run_underlying Tryz.underlying9, hk, zeroI]
  rfl
 | some v =>
  rw [hl] at hk
  simp [Instr.lookup, run_underlying Tryz.underlying98, getObj, Sem.run, h, R.checkKey_str, Instr.findKey, run_underlying Tryz.underlying9, hk]
theorem ents_append : ∀ (L : Ez) (i : Nat) (s : ByteArray) (v : Value), ents i (L ++ [(s, v)]) = ents i L ++ [{ key := .string s, val := v, born := i + L.length }]
 | [], i, s, v => rfl
 | (x, y) :: L, i, s, v => by
  simp only [ents, List.cons_append, ents_append L (i + 1) s v, List.length_cons]
  rw [show i + 1 + L.length = i + (L.length + 1) by omega]
theorem run_put (W : World) (mb : Nat) (x : ByteArray) (v : Value) (L : Ez) (h : MP W mb L) (hn : lkz L x = none) :
  (Instr.mapUpdate 98 (.map (some mb)) (.string x) v).run Tryz.prog W = .ok () (setBlock W mb (.map (ents 0 (L ++ [(x, v)])).toArray (L ++ [(x, v)]).length)) := by
 obtain ⟨k, hk⟩ := find_any x L 0 0
 rw [hn] at hk
 unfold MP at h
 simp [Instr.mapUpdate, run_underlying Tryz.underlying98, getObj, setObj, Sem.run, h, R.checkKey_str, Instr.findKey, run_underlying Tryz.underlying9, hk, ents_append, setBlock]
theorem upz_none : ∀ (L : Ez) (s : ByteArray) (v : Value), lkz L s = none -> upz L s v = L ++ [(s, v)]
 | [], s, v, _ => rfl
 | (x, y) :: r, s, v, h => by
  rw [lkz] at h
  split at h
  ·cases h
  ·rename_i hn
   rw [upz, if_neg hn, upz_none r s v h, List.cons_append]
theorem upz_len : ∀ (L : Ez) (s : ByteArray) (v x : Value), lkz L s = some x -> (upz L s v).length = L.length
 | [], s, v, x, h => by cases h
 | (a, y) :: r, s, v, x, h => by
  rw [lkz] at h
  split at h
  ·rename_i hn; rw [upz, if_pos hn]; rfl
  ·rename_i hn
   rw [upz, if_neg hn, List.length_cons, upz_len r s v x h, List.length_cons]
theorem find_at (s : ByteArray) (v : Value) : ∀ (L : Ez) (i j : Nat) (x : Value), lkz L s = some x -> ∃ k, k < L.length /\ Instr.findNow .string (.string s) (ents i L) j = some (some (j + k, x)) /\ (ents i L)[k]? = some { key := .string s, val := x, born := i + k } /\ (ents i L).set k { key := .string s, val := v, born := i + k } = ents i (upz L s v)
 | [], _, _, x, h => by cases h
 | (a, y) :: L, i, j, x, h => by
  rw [lkz] at h
  split at h
  ·rename_i hn
   subst hn
   obtain rfl := Option.some.inj h
   refine ⟨0, by simp, ?_, ?_, ?_⟩
   ·simp only [ents, Instr.findNow, same_yes]; rfl
   ·rfl
   ·rw [upz, if_pos rfl]; rfl
  ·rename_i hn
   obtain ⟨k, hk, h1, h2, h3⟩ := find_at s v L (i + 1) (j + 1) x h
   refine ⟨k + 1, by simp; omega, ?_, ?_, ?_⟩
   ·simp only [ents, Instr.findNow, same_no hn]
    rw [h1, show j + 1 + k = j + (k + 1) by omega]
   ·rw [ents, List.getElem?_cons_succ, h2, show i + 1 + k = i + (k + 1) by omega]
   ·rw [upz, if_neg hn, ents, List.set_cons_succ, ents, <- h3, show i + 1 + k = i + (k + 1) by omega]
theorem modify_set (l : List MapEntry) (k : Nat) (e : MapEntry) (f : MapEntry -> MapEntry) (h : l[k]? = some e) : l.modify k f = l.set k (f e) := by
 rw [List.modify_eq_set, h]; rfl
theorem run_up (W : World) (mb : Nat) (s : ByteArray) (v : Value) (L : Ez) (h : MP W mb L) :
  (Instr.mapUpdate 98 (.map (some mb)) (.string s) v).run Tryz.prog W = .ok () (setBlock W mb (.map (ents 0 (upz L s v)).toArray (upz L s v).length)) := by
 cases hl : lkz L s with
 | none => rw [upz_none L s v hl]; exact run_put W mb s v L h hl
 | some x =>
  obtain ⟨k, hk, h1, h2, h3⟩ := find_at s v L 0 0 x hl
  have hm := modify_set (ents 0 L) k _ (fun e => { e with key := .string s, val := v }) h2
  rw [h3] at hm
  have hsb : Instr.sameBits 10000 (.string s) (.string s) = true := by simp [Instr.sameBits, Go.MapKept.bytes_beq]
  rw [upz_len L s v x hl]
  rw [Nat.zero_add] at h1
  unfold MP at h
  simp [Instr.mapUpdate, run_underlying Tryz.underlying98, getObj, setObj, Sem.run, h, R.checkKey_str, Instr.findKey, run_underlying Tryz.underlying9, h1, Instr.keyThatStays, h2, hsb, setBlock]
  rw [hm]
theorem MP.up {W : World} {mb : Nat} {L : Ez} (h : MP W mb L) (x : ByteArray) (v : Value) : MP (setBlock W mb (.map (ents 0 (upz L x v)).toArray (upz L x v).length)) mb (upz L x v) := R.setBlock_same W mb _ _ h
theorem MP.made (W : World) : MP (W.alloc (.map #[] 0)) W.heap.size [] := heap_alloc_new W _
theorem MP.kept {W W' : World} {mb : Nat} {L : Ez} (h : MP W mb L) (k : W'.heap[mb]? = W.heap[mb]?) : MP W' mb L := k.trans h
theorem MP.lt {W : World} {mb : Nat} {L : Ez} (h : MP W mb L) : mb < W.heap.size := S.lt_of h
def vI (i : Nm) (wv : Value) : Value := .agg #[.int .i64 i.op, .int .u16 i.v, wv, .int .i64 0, .int .i64 0]
def EvR (W : World) (O : Nat -> Prop) : Ev -> Ez -> Prop
 | [], [] => True
 | (s, i) :: E, (s', v) :: L => s = s' /\ (∃ wq, v = vI i (.pointer wq) /\ WP W O (.pointer wq) i.w i.wp) /\ EvR W O E L
 | _, _ => False
theorem EvR.look {W : World} {O : Nat -> Prop} (x : ByteArray) : ∀ (E : Ev) (L : Ez), EvR W O E L -> ∃ wq, (lkz L x).getD zI = vI ((lkn E x).getD ⟨0, 0, [], z2⟩) (.pointer wq) /\ WP W O (.pointer wq) ((lkn E x).getD ⟨0, 0, [], z2⟩).w ((lkn E x).getD ⟨0, 0, [], z2⟩).wp
 | [], [], _ => ⟨none, rfl, .inl ⟨rfl, rfl⟩⟩
 | (s, i) :: E, (s', v) :: L, ⟨h1, ⟨wq, h2, h3⟩, h4⟩ => by
  subst h1
  rw [lkz, lkn]
  by_cases h : s = x
  ·rw [if_pos h, if_pos h]; exact ⟨wq, h2, h3⟩
  ·rw [if_neg h, if_neg h]; exact EvR.look x E L h4
theorem EvR.kept {W W' : World} {O O' : Nat -> Prop} (k : ∀ i, O i -> W'.heap[i]? = W.heap[i]?) (m : ∀ i, O i -> O' i) : ∀ (E : Ev) (L : Ez), EvR W O E L -> EvR W' O' E L
 | [], [], _ => trivial
 | (s, i) :: E, (s', v) :: L, ⟨h1, ⟨wq, h2, h3⟩, h4⟩ => ⟨h1, ⟨wq, h2, WP.keep h3 k m⟩, EvR.kept k m E L h4⟩
theorem EvR.up {W : World} {O : Nat -> Prop} (s : ByteArray) (i : Nm) (wq : Option Addr) (hw : WP W O (.pointer wq) i.w i.wp) : ∀ (E : Ev) (L : Ez), EvR W O E L -> EvR W O (upn E s i) (upz L s (vI i (.pointer wq)))
 | [], [], _ => ⟨rfl, ⟨wq, rfl, hw⟩, trivial⟩
 | (x, j) :: E, (x', v) :: L, ⟨h1, ⟨wj, h2, h3⟩, h4⟩ => by
  subst h1
  rw [upn, upz]
  by_cases h : x = s
  ·rw [if_pos h, if_pos h]; exact ⟨rfl, ⟨wq, rfl, hw⟩, h4⟩
  ·rw [if_neg h, if_neg h]; exact ⟨rfl, ⟨wj, h2, h3⟩, EvR.up s i wq hw E L h4⟩
set_option maxHeartbeats 4000000
set_option maxRecDepth 100000
theorem instr_any (E : Ev) (L : Ez) (mb : Nat) (n : Nd) (tp ep : Option Addr) (tn tc en ec : Nat) (O : Nat -> Prop) (W : World) (hM : MP W mb L) (hE : EvR W O E L) :
    Calls Tryz.prog 64 #[.map (some mb), .agg #[.int .i64 n.k, .int .i64 n.op, .int .u16 n.v, .string n.nm, .slice tp tn tc, .slice ep en ec, .bool n.has, .int .i64 n.p.1, .int .i64 n.p.2]] W fun e w' => ∃ wq, e = .returned (.agg #[.int .i64 (ins E n.k n.op n.v n.nm).op, .int .u16 (ins E n.k n.op n.v n.nm).v, .pointer wq, .int .i64 n.p.1, .int .i64 n.p.2]) /\ WP W O (.pointer wq) (ins E n.k n.op n.v n.nm).w (ins E n.k n.op n.v n.nm).wp /\ Below W.heap.size W w' := by
  obtain ⟨k, op, v, nm, th, el, has, p⟩ := n
  obtain ⟨p1, p2⟩ := p
  simp only
  have hfin : ∀ (o0 o2 : Obj) (c : List Value) (hc : c.length = 5) (a : Act) (hp : a.tmps.getD 4 undef = .pointer (some ⟨W.heap.size + 1, 0, none⟩)) (hd : a.defers = []) (Q : Ending -> World -> Prop) (hQ : Q (.returned (.agg c.toArray)) (((W.alloc o0).alloc (.cells c.toArray 84)).alloc o2)),
      bodyPost Tryz.prog Tryz.f64 Q .ret a (((W.alloc o0).alloc (.cells c.toArray 84)).alloc o2) := fun o0 o2 c hc a hp hd Q hQ =>
    bodyPost_ret (results_cell_row rfl _ _ (W.heap.size + 1) 84 _ (0, 0) _ hp (by rw [Below.heap_alloc _ _ _ (by simp)]; exact heap_alloc2_new W _ _) Tryz.underlying84 rfl (by rw [List.size_toArray, hc]; exact sizeIN)) hd hQ
  have HF := hid hfin
  have hbel : ∀ (o0 o1 o2 : Obj), Below W.heap.size W (((W.alloc o0).alloc o1).alloc o2) := fun o0 o1 o2 => (((Below.refl _ _).alloc (Nat.le_refl _) _).alloc (by simp) _).alloc (by simp; omega) _
  have HB := hid hbel
  clear hfin hbel
  by_cases h2 : k = 2
  · subst h2
    go_enter Tryz.func64, Tryz.ntmps64
    go_wp2_with fail
    exact HF.out _ _ [.int .i64 3, .int .u16 v, .pointer none, .int .i64 p1, .int .i64 p2] rfl _ rfl rfl _ ⟨none, rfl, .inl ⟨rfl, rfl⟩, HB.out _ _ _⟩
  by_cases h3 : k = 3
  · subst h3
    obtain ⟨wq, hl, hw⟩ := hE.look nm
    have hi : ins E 3 op v nm = (lkn E nm).getD ⟨0, 0, [], z2⟩ := rfl
    rw [hi]
    generalize (lkn E nm).getD ⟨0, 0, [], z2⟩ = I at *
    have hlk : ∀ (o0 o1 o2 : Obj), (Instr.lookup 98 (.map (some mb)) (.string nm) false).run Tryz.prog (((W.alloc o0).alloc o1).alloc o2) = .ok (.agg #[.int .i64 I.op, .int .u16 I.v, .pointer wq, .int .i64 0, .int .i64 0]) (((W.alloc o0).alloc o1).alloc o2) := fun o0 o1 o2 => by
      have hb := HB.out o0 o1 o2
      have h := look_z _ mb nm L (hM.kept (hb.block mb hM.lt))
      rw [hl] at h
      exact h
    have HW := hid hw
    clear hi hl hM hE hw h2
    go_enter Tryz.func64, Tryz.ntmps64
    go_wp2_with fail
    exact HF.out _ _ [.int .i64 I.op, .int .u16 I.v, .pointer wq, .int .i64 p1, .int .i64 p2] rfl _ rfl rfl _ ⟨wq, rfl, HW.out, HB.out _ _ _⟩
  have e2 : (k == 2) = false := by simp [h2]
  have e3 : (k == 3) = false := by simp [h3]
  by_cases h9 : k = 9
  · subst h9
    clear h2 h3
    go_enter Tryz.func64, Tryz.ntmps64
    go_wp2_with fail
    exact HF.out _ _ [.int .i64 8, .int .u16 0, .pointer none, .int .i64 p1, .int .i64 p2] rfl _ rfl rfl _ ⟨none, rfl, .inl ⟨rfl, rfl⟩, HB.out _ _ _⟩
  · have e9 : (k == 9) = false := by simp [h9]
    have hi : ins E k op v nm = ⟨op, 0, [], z2⟩ := by unfold ins; rw [if_neg h2, if_neg h3, if_neg h9]
    rw [hi]
    clear h2 h3 h9 hi
    go_enter Tryz.func64, Tryz.ntmps64
    go_wp2_with fail
    exact HF.out _ _ [.int .i64 op, .int .u16 0, .pointer none, .int .i64 p1, .int .i64 p2] rfl _ rfl rfl _ ⟨none, rfl, .inl ⟨rfl, rfl⟩, HB.out _ _ _⟩
end Go.Proofs.YtoemoiehjdmheaaGreat.Z
