import Derived.Test.YtoemoiehjdmheaaGreatZBgn
import Derived.Test.YtoemoiehjdmheaaGreatRMap
namespace Go.Proofs.YtoemoiehjdmheaaGreat.Z
open Go.RowKit
open Go.Proofs
open Go.Proofs.YtoemoiehjdmheaaGreat.Y (Nd Df Ps Pl hid ZV ndc)
open Go.ChangeMaps (setBlock)
set_option linter.unusedVariables false
set_option linter.unusedSimpArgs false
set_option maxHeartbeats 4000000
set_option maxRecDepth 100000
abbrev Ez := List (ByteArray × Value)
def ents : Nat -> Ez -> List MapEntry
 | _, [] => []
 | i, (s, v) :: r => { key := .string s, val := v, born := i } :: ents (i + 1) r
def MP (W : World) (mb : Nat) (L : Ez) : Prop := W.heap[mb]? = some (.map (ents 0 L).toArray L.length)
def lkz : Ez -> ByteArray -> Option Value
 | [], _ => none
 | (s, v) :: r, x => if s = x then some v else lkz r x
def upz : Ez -> ByteArray -> Value -> Ez
 | [], s, v => [(s, v)]
 | (x, y) :: r, s, v => if x = s then (x, v) :: r else (x, y) :: upz r s v
theorem same_yes (a : ByteArray) : Instr.sameNow .string (.string a) (.string a) = some true := by simp [Instr.sameNow, Go.MapKept.bytes_beq]
theorem same_no {s x : ByteArray} (h : ¬ s = x) : Instr.sameNow .string (.string x) (.string s) = some false := by
 simp only [Instr.sameNow, Option.some.injEq]
 rw [Bool.eq_false_iff]
 intro c
 exact h ((Go.MapKept.bytes_beq _ _).1 c).symm
theorem find_any (x : ByteArray) : ∀ (L : Ez) (i j : Nat), ∃ k, Instr.findNow .string (.string x) (ents i L) j = some ((lkz L x).map fun v => (k, v))
 | [], _, _ => ⟨0, rfl⟩
 | (s, v) :: L, i, j => by
  by_cases h : s = x
  ·subst h
   refine ⟨j, ?_⟩
   simp only [ents, Instr.findNow, same_yes, lkz, if_pos]
   rfl
  ·obtain ⟨k, hk⟩ := find_any x L (i + 1) (j + 1)
   refine ⟨k, ?_⟩
   simp only [ents, Instr.findNow, same_no h, lkz, if_neg h]
   exact hk
def zI : Value := .agg #[.int .i64 0, .int .u16 0, .pointer none, .int .i64 0, .int .i64 0]
theorem zeroI (w : World) : (zeroValue 84).run Tryz.prog w = .ok zI w := by kernel_rfl
theorem look_z (W : World) (mb : Nat) (x : ByteArray) (L : Ez) (h : MP W mb L) :
  (Instr.lookup 98 (.map (some mb)) (.string x) false).run Tryz.prog W = .ok ((lkz L x).getD zI) W := by
 obtain ⟨k, hk⟩ := find_any x L 0 0
 unfold MP at h
 cases hl : lkz L x with
 | none =>
  rw [hl] at hk
  simp [Instr.lookup, run_underlying Tryz.underlying98, getObj, Sem.run, h, R.checkKey_str, Instr.findKey, run_underlying Tryz.underlying9, hk, zeroI]
  rfl
 | some v =>
  rw [hl] at hk
  simp [Instr.lookup, run_underlying Tryz.underlying98, getObj, Sem.run, h, R.checkKey_str, Instr.findKey, run_underlying Tryz.underlying9, hk]
theorem ents_append : ∀ (L : Ez) (i : Nat) (s : ByteArray) (v : Value), ents i (L ++ [(s, v)]) = ents i L ++ [{ key := .string s, val := v, born := i + L.length }]
 | [], i, s, v => rfl
 | (x, y) :: L, i, s, v => by
  simp only [ents, List.cons_append, ents_append L (i + 1) s v, List.length_cons]
  rw [show i + 1 + L.length = i + (L.length + 1) by omega]
theorem run_put (W : World) (mb : Nat) (x : ByteArray) (v : Value) (L : Ez) (h : MP W mb L) (hn : lkz L x = none) :
  (Instr.mapUpdate 98 (.map (some mb)) (.string x) v).run Tryz.prog W = .ok () (setBlock W mb (.map (ents 0 (L ++ [(x, v)])).toArray (L ++ [(x, v)]).length)) := by
 obtain ⟨k, hk⟩ := find_any x L 0 0
 rw [hn] at hk
 unfold MP at h
 simp [Instr.mapUpdate, run_underlying Tryz.underlying98, getObj, setObj, Sem.run, h, R.checkKey_str, Instr.findKey, run_underlying Tryz.underlying9, hk, ents_append, setBlock]
theorem upz_none : ∀ (L : Ez) (s : ByteArray) (v : Value), lkz L s = none -> upz L s v = L ++ [(s, v)]
 | [], s, v, _ => rfl
 | (x, y) :: r, s, v, h => by
  rw [lkz] at h
  split at h
  ·cases h
  ·rename_i hn
   rw [upz, if_neg hn, upz_none r s v h, List.cons_append]
theorem upz_len : ∀ (L : Ez) (s : ByteArray) (v x : Value), lkz L s = some x -> (upz L s v).length = L.length
 | [], s, v, x, h => by cases h
 | (a, y) :: r, s, v, x, h => by
  rw [lkz] at h
  split at h
  ·rename_i hn; rw [upz, if_pos hn]; rfl
  ·rename_i hn
   rw [upz, if_neg hn, List.length_cons, upz_len r s v x h, List.length_cons]
theorem find_at (s : ByteArray) (v : Value) : ∀ (L : Ez) (i j : Nat) (x : Value), lkz L s = some x -> ∃ k, k < L.length /\ Instr.findNow .string (.string s) (ents i L) j = some (some (j + k, x)) /\ (ents i L)[k]? = some { key := .string s, val := x, born := i + k } /\ (ents i L).set k { key := .string s, val := v, born := i + k } = ents i (upz L s v)
 | [], _, _, x, h => by cases h
 | (a, y) :: L, i, j, x, h => by
  rw [lkz] at h
  split at h
  ·rename_i hn
   subst hn
   obtain rfl := Option.some.inj h
   refine ⟨0, by simp, ?_, ?_, ?_⟩
   ·simp only [ents, Instr.findNow, same_yes]; rfl
   ·rfl
   ·rw [upz, if_pos rfl]; rfl
  ·rename_i hn
   obtain ⟨k, hk, h1, h2, h3⟩ := find_at s v L (i + 1) (j + 1) x h
   refine ⟨k + 1, by simp; omega, ?_, ?_, ?_⟩
   ·simp only [ents, Instr.findNow, same_no hn]
    rw [h1, show j + 1 + k = j + (k + 1) by omega]
   ·rw [ents, List.getElem?_cons_succ, h2, show i + 1 + k = i + (k + 1) by omega]
   ·rw [upz, if_neg hn, ents, List.set_cons_succ, ents, <- h3, show i + 1 + k = i + (k + 1) by omega]
theorem modify_set (l : List MapEntry) (k : Nat) (e : MapEntry) (f : MapEntry -> MapEntry) (h : l[k]? = some e) : l.modify k f = l.set k (f e) := by
 rw [List.modify_eq_set, h]; rfl
theorem run_up (W : World) (mb : Nat) (s : ByteArray) (v : Value) (L : Ez) (h : MP W mb L) :
  (Instr.mapUpdate 98 (.map (some mb)) (.string s) v).run Tryz.prog W = .ok () (setBlock W mb (.map (ents 0 (upz L s v)).toArray (upz L s v).length)) := by
 cases hl : lkz L s with
 | none => rw [upz_none L s v hl]; exact run_put W mb s v L h hl
 | some x =>
  obtain ⟨k, hk, h1, h2, h3⟩ := find_at s v L 0 0 x hl
  have hm := modify_set (ents 0 L) k _ (fun e => { e with key := .string s, val := v }) h2
  rw [h3] at hm
  have hsb : Instr.sameBits 10000 (.string s) (.string s) = true := by simp [Instr.sameBits, Go.MapKept.bytes_beq]
  rw [upz_len L s v x hl]
  rw [Nat.zero_add] at h1
  unfold MP at h
  simp [Instr.mapUpdate, run_underlying Tryz.underlying98, getObj, setObj, Sem.run, h, R.checkKey_str, Instr.findKey, run_underlying Tryz.underlying9, h1, Instr.keyThatStays, h2, hsb, setBlock]
  rw [hm]
theorem MP.up {W : World} {mb : Nat} {L : Ez} (h : MP W mb L) (x : ByteArray) (v : Value) : MP (setBlock W mb (.map (ents 0 (upz L x v)).toArray (upz L x v).length)) mb (upz L x v) := R.setBlock_same W mb _ _ h
theorem MP.made (W : World) : MP (W.alloc (.map #[] 0)) W.heap.size [] := heap_alloc_new W _
theorem MP.kept {W W' : World} {mb : Nat} {L : Ez} (h : MP W mb L) (k : W'.heap[mb]? = W.heap[mb]?) : MP W' mb L := k.trans h
theorem MP.lt {W : World} {mb : Nat} {L : Ez} (h : MP W mb L) : mb < W.heap.size := S.lt_of h
def vI (i : Nm) (wv : Value) : Value := .agg #[.int .i64 i.op, .int .u16 i.v, wv, .int .i64 0, .int .i64 0]
def EvR (W : World) (O : Nat -> Prop) : Ev -> Ez -> Prop
 | [], [] => True
 | (s, i) :: E, (s', v) :: L => s = s' /\ (∃ wq, v = vI i (.pointer wq) /\ WP W O (.pointer wq) i.w i.wp) /\ EvR W O E L
 | _, _ => False
theorem EvR.look {W : World} {O : Nat -> Prop} (x : ByteArray) : ∀ (E : Ev) (L : Ez), EvR W O E L -> ∃ wq, (lkz L x).getD zI = vI ((lkn E x).getD ⟨0, 0, [], z2⟩) (.pointer wq) /\ WP W O (.pointer wq) ((lkn E x).getD ⟨0, 0, [], z2⟩).w ((lkn E x).getD ⟨0, 0, [], z2⟩).wp
 | [], [], _ => ⟨none, rfl, .inl ⟨rfl, rfl⟩⟩
 | (s, i) :: E, (s', v) :: L, ⟨h1, ⟨wq, h2, h3⟩, h4⟩ => by
  subst h1
  rw [lkz, lkn]
  by_cases h : s = x
  ·rw [if_pos h, if_pos h]; exact ⟨wq, h2, h3⟩
  ·rw [if_neg h, if_neg h]; exact EvR.look x E L h4
theorem EvR.kept {W W' : World} {O O' : Nat -> Prop} (k : ∀ i, O i -> W'.heap[i]? = W.heap[i]?) (m : ∀ i, O i -> O' i) : ∀ (E : Ev) (L : Ez), EvR W O E L -> EvR W' O' E L
 | [], [], _ => trivial
 | (s, i) :: E, (s', v) :: L, ⟨h1, ⟨wq, h2, h3⟩, h4⟩ => ⟨h1, ⟨wq, h2, WP.keep h3 k m⟩, EvR.kept k m E L h4⟩
theorem EvR.up {W : World} {O : Nat -> Prop} (s : ByteArray) (i : Nm) (wq : Option Addr) (hw : WP W O (.pointer wq) i.w i.wp) : ∀ (E : Ev) (L : Ez), EvR W O E L -> EvR W O (upn E s i) (upz L s (vI i (.pointer wq)))
 | [], [], _ => ⟨rfl, ⟨wq, rfl, hw⟩, trivial⟩
 | (x, j) :: E, (x', v) :: L, ⟨h1, ⟨wj, h2, h3⟩, h4⟩ => by
  subst h1
  rw [upn, upz]
  by_cases h : x = s
  ·rw [if_pos h, if_pos h]; exact ⟨rfl, ⟨wq, rfl, hw⟩, h4⟩
  ·rw [if_neg h, if_neg h]; exact ⟨rfl, ⟨wj, h2, h3⟩, EvR.up s i wq hw E L h4⟩
set_option maxHeartbeats 4000000
set_option maxRecDepth 100000
theorem instr_any (E : Ev) (L : Ez) (mb : Nat) (n : Nd) (tp ep : Option Addr) (tn tc en ec : Nat) (O : Nat -> Prop) (W : World) (hM : MP W mb L) (hE : EvR W O E L) :
    Calls Tryz.prog 64 #[.map (some mb), .agg #[.int .i64 n.k, .int .i64 n.op, .int .u16 n.v, .string n.nm, .slice tp tn tc, .slice ep en ec, .bool n.has, .int .i64 n.p.1, .int .i64 n.p.2]] W fun e w' => ∃ wq, e = .returned (.agg #[.int .i64 (ins E n.k n.op n.v n.nm).op, .int .u16 (ins E n.k n.op n.v n.nm).v, .pointer wq, .int .i64 n.p.1, .int .i64 n.p.2]) /\ WP W O (.pointer wq) (ins E n.k n.op n.v n.nm).w (ins E n.k n.op n.v n.nm).wp /\ Below W.heap.size W w' := by
  obtain ⟨k, op, v, nm, th, el, has, p⟩ := n
  obtain ⟨p1, p2⟩ := p
  simp only
  have hfin : ∀ (o0 o2 : Obj) (c : List Value) (hc : c.length = 5) (a : Act) (hp : a.tmps.getD 4 undef = .pointer (some ⟨W.heap.size + 1, 0, none⟩)) (hd : a.defers = []) (Q : Ending -> World -> Prop) (hQ : Q (.returned (.agg c.toArray)) (((W.alloc o0).alloc (.cells c.toArray 84)).alloc o2)),
      bodyPost Tryz.prog Tryz.f64 Q .ret a (((W.alloc o0).alloc (.cells c.toArray 84)).alloc o2) := fun o0 o2 c hc a hp hd Q hQ =>
    bodyPost_ret (results_cell_row rfl _ _ (W.heap.size + 1) 84 _ (0, 0) _ hp (by rw [Below.heap_alloc _ _ _ (by simp)]; exact heap_alloc2_new W _ _) Tryz.underlying84 rfl (by rw [List.size_toArray, hc]; exact sizeIN)) hd hQ
  have HF := hid hfin
  have hbel : ∀ (o0 o1 o2 : Obj), Below W.heap.size W (((W.alloc o0).alloc o1).alloc o2) := fun o0 o1 o2 => (((Below.refl _ _).alloc (Nat.le_refl _) _).alloc (by simp) _).alloc (by simp; omega) _
  have HB := hid hbel
  clear hfin hbel
  by_cases h2 : k = 2
  · subst h2
    go_enter Tryz.func64, Tryz.ntmps64
    go_wp2_with fail
    exact HF.out _ _ [.int .i64 3, .int .u16 v, .pointer none, .int .i64 p1, .int .i64 p2] rfl _ rfl rfl _ ⟨none, rfl, .inl ⟨rfl, rfl⟩, HB.out _ _ _⟩
  by_cases h3 : k = 3
  · subst h3
    obtain ⟨wq, hl, hw⟩ := hE.look nm
    have hi : ins E 3 op v nm = (lkn E nm).getD ⟨0, 0, [], z2⟩ := rfl
    rw [hi]
    generalize (lkn E nm).getD ⟨0, 0, [], z2⟩ = I at *
    have hlk : ∀ (o0 o1 o2 : Obj), (Instr.lookup 98 (.map (some mb)) (.string nm) false).run Tryz.prog (((W.alloc o0).alloc o1).alloc o2) = .ok (.agg #[.int .i64 I.op, .int .u16 I.v, .pointer wq, .int .i64 0, .int .i64 0]) (((W.alloc o0).alloc o1).alloc o2) := fun o0 o1 o2 => by
      have hb := HB.out o0 o1 o2
      have h := look_z _ mb nm L (hM.kept (hb.block mb hM.lt))
      rw [hl] at h
      exact h
    have HW := hid hw
    clear hi hl hM hE hw h2
    go_enter Tryz.func64, Tryz.ntmps64
    go_wp2_with fail
    exact HF.out _ _ [.int .i64 I.op, .int .u16 I.v, .pointer wq, .int .i64 p1, .int .i64 p2] rfl _ rfl rfl _ ⟨wq, rfl, HW.out, HB.out _ _ _⟩
  have e2 : (k == 2) = false := by simp [h2]
  have e3 : (k == 3) = false := by simp [h3]
  by_cases h9 : k = 9
  · subst h9
    clear h2 h3
    go_enter Tryz.func64, Tryz.ntmps64
    go_wp2_with fail
    exact HF.out _ _ [.int .i64 8, .int .u16 0, .pointer none, .int .i64 p1, .int .i64 p2] rfl _ rfl rfl _ ⟨none, rfl, .inl ⟨rfl, rfl⟩, HB.out _ _ _⟩
  · have e9 : (k == 9) = false := by simp [h9]
    have hi : ins E k op v nm = ⟨op, 0, [], z2⟩ := by unfold ins; rw [if_neg h2, if_neg h3, if_neg h9]
    rw [hi]
    clear h2 h3 h9 hi
    go_enter Tryz.func64, Tryz.ntmps64
    go_wp2_with fail
    exact HF.out _ _ [.int .i64 op, .int .u16 0, .pointer none, .int .i64 p1, .int .i64 p2] rfl _ rfl rfl _ ⟨none, rfl, .inl ⟨rfl, rfl⟩, HB.out _ _ _⟩
open Go.Proofs.YtoemoiehjdmheaaGreat.Y (Nd Df Ps Pl hid ZV ndc NV N1 nl nl_len nl_th nl_el)
set_option linter.unusedVariables false
set_option linter.unusedSimpArgs false
set_option maxHeartbeats 4000000
set_option maxRecDepth 100000
def nw (O : Nat -> Prop) (W W' : World) : Nat -> Prop := fun i => O i \/ (W.heap.size <= i /\ i < W'.heap.size)
def MC (W : World) (O : Nat -> Prop) : List Mn -> List Value -> Prop
  | [], cs => cs = []
  | m :: r, cs => ∃ (wq : Option Addr) (tv ov : Value) (cs' : List Value), cs = mnc m (.pointer wq) tv ov ++ cs' /\ WP W O (.pointer wq) m.w m.wp /\ MNV W O tv m.th /\ MNV W O ov m.ot /\ MC W O r cs'
theorem mnc_len (m : Mn) (a b c : Value) : (mnc m a b c).length = 9 := rfl
theorem MC.kept {W W' : World} {O O' : Nat -> Prop} (k : ∀ i, O i -> W'.heap[i]? = W.heap[i]?) (m : ∀ i, O i -> O' i) : ∀ {l : List Mn} {cs : List Value}, MC W O l cs -> MC W' O' l cs
  | [], cs, h => h
  | n :: r, cs, h => by
    obtain ⟨wq, tv, ov, cs', e, h0, h1, h2, h3⟩ := h
    exact ⟨wq, tv, ov, cs', e, WP.keep h0 k m, h1.kept k m, h2.kept k m, MC.kept k m h3⟩
theorem MC.app {W : World} {O : Nat -> Prop} : ∀ {l l' : List Mn} {cs cs' : List Value}, MC W O l cs -> MC W O l' cs' -> MC W O (l ++ l') (cs ++ cs')
  | [], l', cs, cs', h, h' => by rw [MC] at h; subst h; exact h'
  | n :: r, l', cs, cs', h, h' => by
    obtain ⟨wq, tv, ov, cs1, rfl, h0, h1, h2, h3⟩ := h
    exact ⟨wq, tv, ov, cs1 ++ cs', by rw [List.append_assoc], h0, h1, h2, MC.app h3 h'⟩
theorem MC.get {W : World} {O : Nat -> Prop} : ∀ {l : List Mn} {cs : List Value}, MC W O l cs -> ∀ (i : Nat) (n : Mn), l[i]? = some n -> ∃ wq tv ov, (∀ (j : Nat) (x : Value), (mnc n (.pointer wq) tv ov)[j]? = some x -> cs[i * 9 + j]? = some x) /\ WP W O (.pointer wq) n.w n.wp /\ MNV W O tv n.th /\ MNV W O ov n.ot
  | [], cs, h, i, n, hi => by simp at hi
  | m :: r, cs, h, 0, n, hi => by
    obtain ⟨wq, tv, ov, cs1, rfl, h0, h1, h2, h3⟩ := h
    simp at hi; subst hi
    exact ⟨wq, tv, ov, fun j x hx => by rw [Nat.zero_mul, Nat.zero_add, List.getElem?_append_left (List.getElem?_eq_some_iff.1 hx).1]; exact hx, h0, h1, h2⟩
  | m :: r, cs, h, i + 1, n, hi => by
    obtain ⟨wq, tv, ov, cs1, rfl, h0, h1, h2, h3⟩ := h
    obtain ⟨q, t, e, hc, hq, ht, he⟩ := MC.get h3 i n (by simpa using hi)
    refine ⟨q, t, e, fun j x hx => ?_, hq, ht, he⟩
    rw [List.getElem?_append_right (by rw [mnc_len]; omega), mnc_len, show (i + 1) * 9 + j - 9 = i * 9 + j by omega]
    exact hc j x hx
theorem own_mnv {W : World} {O : Nat -> Prop} {B : Nat} {v : Value} {l : List Mn} {cs : List Value} (h : W.ownsRow B 173 9 v l.length cs) (hc : MC W O l cs) (hl : l.length <= 140737488355328) (hO : ∀ g, v.ownBlock = some g -> O g) : MNV W O v l := by
  rcases h.2 with ⟨rfl, e⟩ | ⟨g, cap, cur, rfl, h2, h3⟩
  · obtain rfl := List.eq_nil_of_length_eq_zero e
    exact MNV.nil (.inl rfl)
  · refine MNV.row (hO g rfl) hl fun i n hi => ?_
    obtain ⟨wq, tv, ov, hx, h1, h2, h3⟩ := hc.get i n hi
    refine ⟨.pointer wq, tv, ov, fun j x hj => ?_, h1, h2, h3⟩
    have := World.ownsRow.cells h (g := g) rfl (i * 9 + j) x (hx j x hj)
    rw [Addr.add_lit, Nat.zero_add] at this
    rw [Nat.zero_add]
    exact this
theorem own_slice {W : World} {B : Nat} {e : TypeId} {size : Nat} {v : Value} {n : Nat} {xs : List Value} (h : W.ownsRow B e size v n xs) : ∃ p c, v = .slice p n c := by
  rcases h.2 with ⟨rfl, rfl⟩ | ⟨g', cap, cur, rfl, h2, _⟩
  · exact ⟨_, _, rfl⟩
  · exact ⟨_, _, rfl⟩
def zM : Value := .agg #[.int .i64 0, .int .u16 0, .pointer none, .int .i64 0, .int .i64 0, .int .i64 0, .slice none 0 0, .slice none 0 0, .bool false]
theorem infoM : (Tryz.prog.info? 173).map (fun i => (i.zero, i.size, i.bytes)) = some (some zM, 9, 104) := by kernel_rfl
theorem EvR.kept' {W W' : World} {O : Nat -> Prop} {E : Ev} {L : Ez} (h : EvR W O E L) (k : Below W.heap.size W W') (hO : ∀ i, O i -> i < W.heap.size) : EvR W' O E L := EvR.kept (fun i hi => k.block i (hO i hi)) (fun _ h => h) E L h
structure ML (W wr : World) (O : Nat -> Prop) (E : Ev) (l : List Nd) (k : Nat) (out : Value) : Prop where
  bel : Below W.heap.size W wr
  ex : ∃ (U : Nat -> Prop) (cs : List Value), (∀ i, U i -> nw O W wr i /\ out.ownBlock ≠ some i) /\ MC wr U ((l.take k).map (rs E)) cs /\ wr.ownsRow W.heap.size 173 9 out k cs
def LC (l : List Nd) : Prop := ∀ (E : Ev) (L : Ez) (mb : Nat) (v : Value) (O1 O : Nat -> Prop) (W : World), (∀ i, O1 i -> i < W.heap.size) -> (∀ i, O i -> i < W.heap.size) -> NV W O1 v l -> MP W mb L -> EvR W O E L -> nl l <= 1048576 ->
    Calls Tryz.prog 52 #[.map (some mb), v] W fun e w' => ∃ v', e = .returned v' /\ MNV w' (nw O W w') v' (l.map (rs E)) /\ Below W.heap.size W w'
theorem one9 (w : World) (c0 c1 c2 c3 c4 c5 c6 c7 c8 : Value) (t : TypeId) (h : ∀ u ∈ [c0, c1, c2, c3, c4, c5, c6, c7, c8], u.oneCell' = true) : S.Cs (w.alloc (.cells #[c0, c1, c2, c3, c4, c5, c6, c7, c8] t)) (.slice (some ⟨w.heap.size, 0, none⟩) 1 1) 9 1 [c0, c1, c2, c3, c4, c5, c6, c7, c8] :=
  .inr ⟨_, _, rfl, rfl, fun j u hj => by rw [Addr.add_lit, Nat.zero_add]; exact S.cell_of _ _ j [c0, c1, c2, c3, c4, c5, c6, c7, c8] t u (heap_alloc_new w _) hj, h⟩
theorem nodes_of (l : List Nd) (hn : ∀ m ∈ l, LC m.th /\ LC m.el) : LC l := by
  intro E L mb v O1 O W hO1 hO hN hM hE hsz
  obtain ⟨p, c, rfl, hl, hp⟩ := hN.ex
  have hll := nl_len l
  have HO := hid (And.intro hO1 (And.intro hO (And.intro hM hE)))
  clear hN hM hE hO1 hO
  go_enter Tryz.func52, Tryz.ntmps52
  go_wp2_with fail
  go_loopw [5, 10] (fun s i wr => ∃ k : Nat, k <= l.length /\ i = .int .i64 (k : Int) /\ ML W wr O E l k s) (fun _ i _ => l.length - (intOf i).toNat)
  case atStart => exact ⟨0, by omega, rfl, Below.refl _ _, fun _ => False, [], fun _ h => h.elim, rfl, World.ownsRow_nil W _ _ _⟩
  case round =>
    obtain ⟨k, hk, rfl, hL⟩ := hrel
    by_cases hlt : k < l.length
    case neg =>
      obtain rfl : k = l.length := by omega
      have i1 : ¬ (l.length : Int) < l.length := by omega
      obtain ⟨U, cs, hU, hC, hR⟩ := hL.ex
      rw [List.take_length] at hC
      obtain ⟨p3, c3, rfl⟩ := own_slice hR
      have HF := hid (show MNV wr (nw O W wr) (.slice p3 l.length c3) (l.map (rs E)) /\ Below W.heap.size W wr from ⟨own_mnv (by rw [List.length_map]; exact hR) (hC.kept (fun _ _ => rfl) fun i hi => (hU i hi).1) (by rw [List.length_map]; exact hl) fun g hg => .inr (World.ownsRow.lt hR g hg), hL.bel⟩)
      clear hU hC hR hL
      go_wp2
      go_ret
      exact ⟨_, rfl, HF.out⟩
    case pos =>
      have i1 : (k : Int) < l.length := by omega
      have ea := List.getElem?_eq_getElem hlt
      have hm := hn l[k] (List.getElem_mem _)
      have hn1 := nl_th (List.getElem_mem hlt)
      have hn2 := nl_el (List.getElem_mem hlt)
      generalize l[k] = n at *
      obtain ⟨b, o, rfl, hOb, hN⟩ := hp k n ea
      obtain ⟨tv, ev, hc, ht, he⟩ := hN.ex
      obtain ⟨q1, d1, rfl, _, _⟩ := ht.ex
      obtain ⟨q2, d2, rfl, _, _⟩ := he.ex
      have hB := hL.bel
      obtain ⟨U, cs, hU, hC, hR⟩ := hL.ex
      obtain ⟨p3, c3, rfl⟩ := own_slice hR
      have k1 := hB.block b (HO.out.1 b hOb)
      obtain ⟨g0, g1, g2, g3, g4, g5, g6, g7, g8⟩ := Y.cells9 fun j x hx => (World.cell?_of_block (w := W) (a := ⟨b, o + k * 9 + j, none⟩) k1).trans (hc j x hx)
      obtain ⟨bx, hbx⟩ : ∃ bx, wr.heap.size = bx := ⟨_, rfl⟩
      have hfn : ∀ g, Value.ownBlock (.slice p3 k c3) = some g -> W.heap.size <= g /\ g < bx := fun g hg => by rw [<- hbx]; exact World.ownsRow.lt hR g hg
      have HX := hid hbx
      have HG := hid hfn
      have HE := hid (show (l.take (k + 1)).map (rs E) = (l.take k).map (rs E) ++ [rs E n] by rw [List.take_add_one, ea, List.map_append]; rfl)
      have HT := hid (rs_is E n)
      have hBx : W.heap.size <= bx := by rw [<- hbx]; exact hB.size
      have HL := hid (And.intro hB (And.intro hU (And.intro hC hR)))
      have HN := hid (And.intro ht (And.intro he (And.intro hm (And.intro (Nat.le_trans hn1 hsz) (Nat.le_trans hn2 hsz)))))
      have HIN := hid (fun tp ep tn tc en ec O W hM hE => instr_any E L mb n tp ep tn tc en ec O W hM hE)
      clear hfn hB hU hC hR ht he hc hN k1 hOb hL ea hp hn hm hn1 hn2
      obtain ⟨nk, nop, nv, nnm, nth, nel, nhas, np⟩ := n
      obtain ⟨np1, np2⟩ := np
      simp only at g0 g1 g2 g3 g4 g5 g6 g7 g8 HN HIN HT
      generalize htn : nth.length = tn at *
      generalize hen : nel.length = en at *
      have HTN := hid (And.intro htn hen)
      generalize ins E nk nop nv nnm = I at *
      clear htn hen
      obtain ⟨W1, hW1⟩ : ∃ W1, wr.alloc (.cells #[.int .i64 nk, .int .i64 nop, .int .u16 nv, .string nnm, .slice q1 tn d1, .slice q2 en d2, .bool nhas, .int .i64 np1, .int .i64 np2] 90) = W1 := ⟨_, rfl⟩
      have u1 : W1.drew.heap[bx]? = some (.cells [.int .i64 nk, .int .i64 nop, .int .u16 nv, .string nnm, .slice q1 tn d1, .slice q2 en d2, .bool nhas, .int .i64 np1, .int .i64 np2].toArray 90 (0, 0)) := by rw [<- hW1, <- hbx]; exact heap_alloc_new wr _
      have hb0 : Below bx wr W1.drew := by rw [<- hW1, <- hbx]; exact ((Below.refl _ _).alloc (Nat.le_refl _) _).drew
      have hs0 : bx < W1.drew.heap.size := S.lt_of u1
      have HW1 := hid hW1
      clear hW1 hbx
      go_upto_region 5 with fail
      rw [HW1.out, HX.out]
      clear g0 g1 g2 g3 g4 g5 g6 g7 g8
      refine wp_region_held_drew (S := fun wz : World => wz.heap[bx]? = some (.cells [.int .i64 nk, .int .i64 nop, .int .u16 nv, .string nnm, .slice q1 tn d1, .slice q2 en d2, .bool nhas, .int .i64 np1, .int .i64 np2].toArray 90 (0, 0))) (by kernel_rfl) u1 (fun hHeld => ?_)
      clear u1
      generalize W1.drew = y0 at *
      have HB0 := hid (And.intro hb0 hs0)
      clear hb0 hs0
      refine wpAnyH_take (i := 0) (v := ?_) rfl (by kernel_rfl) (by kernel_rfl) (by kernel_rfl) (fun c a w h => h) (Or.inl ⟨by rfl, ?_⟩) hHeld ?_
      rotate_left
      · (intro w hSw; have q0_ := S.cell_of w _ 0 _ 90 _ hSw rfl; have q1_ := S.cell_of w _ 1 _ 90 _ hSw rfl; have q2_ := S.cell_of w _ 2 _ 90 _ hSw rfl; have q3_ := S.cell_of w _ 3 _ 90 _ hSw rfl; have q4_ := S.cell_of w _ 4 _ 90 _ hSw rfl; have q5_ := S.cell_of w _ 5 _ 90 _ hSw rfl; have q6_ := S.cell_of w _ 6 _ 90 _ hSw rfl; have q7_ := S.cell_of w _ 7 _ 90 _ hSw rfl; have q8_ := S.cell_of w _ 8 _ 90 _ hSw rfl; go_simp; try with_reducible rfl)
      simp only [Act.put, List.getElem_toArray, List.getElem_cons_zero, List.getElem_cons_succ, List.setIfInBounds_toArray, List.set_cons_zero, List.set_cons_succ]
      refine wpAnyH_take (i := 1) (v := ?_) rfl (by kernel_rfl) (by kernel_rfl) (by kernel_rfl) (fun c a w h => h) (Or.inl ⟨by rfl, ?_⟩) hHeld ?_
      rotate_left
      · (intro w hSw; have q0_ := S.cell_of w _ 0 _ 90 _ hSw rfl; have q1_ := S.cell_of w _ 1 _ 90 _ hSw rfl; have q2_ := S.cell_of w _ 2 _ 90 _ hSw rfl; have q3_ := S.cell_of w _ 3 _ 90 _ hSw rfl; have q4_ := S.cell_of w _ 4 _ 90 _ hSw rfl; have q5_ := S.cell_of w _ 5 _ 90 _ hSw rfl; have q6_ := S.cell_of w _ 6 _ 90 _ hSw rfl; have q7_ := S.cell_of w _ 7 _ 90 _ hSw rfl; have q8_ := S.cell_of w _ 8 _ 90 _ hSw rfl; go_simp; try with_reducible rfl)
      simp only [Act.put, List.getElem_toArray, List.getElem_cons_zero, List.getElem_cons_succ, List.setIfInBounds_toArray, List.set_cons_zero, List.set_cons_succ]
      refine wpAnyH_take (i := 2) (v := ?_) rfl (by kernel_rfl) (by kernel_rfl) (by kernel_rfl) (fun c a w h => h) (Or.inl ⟨by rfl, ?_⟩) hHeld ?_
      rotate_left
      · (intro w hSw; have q0_ := S.cell_of w _ 0 _ 90 _ hSw rfl; have q1_ := S.cell_of w _ 1 _ 90 _ hSw rfl; have q2_ := S.cell_of w _ 2 _ 90 _ hSw rfl; have q3_ := S.cell_of w _ 3 _ 90 _ hSw rfl; have q4_ := S.cell_of w _ 4 _ 90 _ hSw rfl; have q5_ := S.cell_of w _ 5 _ 90 _ hSw rfl; have q6_ := S.cell_of w _ 6 _ 90 _ hSw rfl; have q7_ := S.cell_of w _ 7 _ 90 _ hSw rfl; have q8_ := S.cell_of w _ 8 _ 90 _ hSw rfl; go_simp; try with_reducible rfl)
      simp only [Act.put, List.getElem_toArray, List.getElem_cons_zero, List.getElem_cons_succ, List.setIfInBounds_toArray, List.set_cons_zero, List.set_cons_succ]
      refine wpAnyH_take (i := 4) (v := ?_) rfl (by kernel_rfl) (by kernel_rfl) (by kernel_rfl) (fun c a w h => h) (Or.inl ⟨by rfl, ?_⟩) hHeld ?_
      rotate_left
      · (intro w hSw; have q0_ := S.cell_of w _ 0 _ 90 _ hSw rfl; have q1_ := S.cell_of w _ 1 _ 90 _ hSw rfl; have q2_ := S.cell_of w _ 2 _ 90 _ hSw rfl; have q3_ := S.cell_of w _ 3 _ 90 _ hSw rfl; have q4_ := S.cell_of w _ 4 _ 90 _ hSw rfl; have q5_ := S.cell_of w _ 5 _ 90 _ hSw rfl; have q6_ := S.cell_of w _ 6 _ 90 _ hSw rfl; have q7_ := S.cell_of w _ 7 _ 90 _ hSw rfl; have q8_ := S.cell_of w _ 8 _ 90 _ hSw rfl; go_simp; try with_reducible rfl)
      simp only [Act.put, List.getElem_toArray, List.getElem_cons_zero, List.getElem_cons_succ, List.setIfInBounds_toArray, List.set_cons_zero, List.set_cons_succ]
      refine wpAnyH_take (i := 5) (v := ?_) rfl (by kernel_rfl) (by kernel_rfl) (by kernel_rfl) (fun c a w h => h) (Or.inl ⟨by rfl, ?_⟩) hHeld ?_
      rotate_left
      · (intro w hSw; have q0_ := S.cell_of w _ 0 _ 90 _ hSw rfl; have q1_ := S.cell_of w _ 1 _ 90 _ hSw rfl; have q2_ := S.cell_of w _ 2 _ 90 _ hSw rfl; have q3_ := S.cell_of w _ 3 _ 90 _ hSw rfl; have q4_ := S.cell_of w _ 4 _ 90 _ hSw rfl; have q5_ := S.cell_of w _ 5 _ 90 _ hSw rfl; have q6_ := S.cell_of w _ 6 _ 90 _ hSw rfl; have q7_ := S.cell_of w _ 7 _ 90 _ hSw rfl; have q8_ := S.cell_of w _ 8 _ 90 _ hSw rfl; go_simp; try with_reducible rfl)
      simp only [Act.put, List.getElem_toArray, List.getElem_cons_zero, List.getElem_cons_succ, List.setIfInBounds_toArray, List.set_cons_zero, List.set_cons_succ]
      refine wpAnyH_take (i := 6) (v := ?_) rfl (by kernel_rfl) (by kernel_rfl) (by kernel_rfl) (fun c a w h => h) (Or.inl ⟨by rfl, ?_⟩) hHeld ?_
      rotate_left
      · (intro w hSw; have q0_ := S.cell_of w _ 0 _ 90 _ hSw rfl; have q1_ := S.cell_of w _ 1 _ 90 _ hSw rfl; have q2_ := S.cell_of w _ 2 _ 90 _ hSw rfl; have q3_ := S.cell_of w _ 3 _ 90 _ hSw rfl; have q4_ := S.cell_of w _ 4 _ 90 _ hSw rfl; have q5_ := S.cell_of w _ 5 _ 90 _ hSw rfl; have q6_ := S.cell_of w _ 6 _ 90 _ hSw rfl; have q7_ := S.cell_of w _ 7 _ 90 _ hSw rfl; have q8_ := S.cell_of w _ 8 _ 90 _ hSw rfl; go_simp; try with_reducible rfl)
      simp only [Act.put, List.getElem_toArray, List.getElem_cons_zero, List.getElem_cons_succ, List.setIfInBounds_toArray, List.set_cons_zero, List.set_cons_succ]
      refine wpAnyH_take (i := 7) (v := ?_) rfl (by kernel_rfl) (by kernel_rfl) (by kernel_rfl) (fun c a w h => h) (Or.inl ⟨by rfl, ?_⟩) hHeld ?_
      rotate_left
      · (intro w hSw; have q0_ := S.cell_of w _ 0 _ 90 _ hSw rfl; have q1_ := S.cell_of w _ 1 _ 90 _ hSw rfl; have q2_ := S.cell_of w _ 2 _ 90 _ hSw rfl; have q3_ := S.cell_of w _ 3 _ 90 _ hSw rfl; have q4_ := S.cell_of w _ 4 _ 90 _ hSw rfl; have q5_ := S.cell_of w _ 5 _ 90 _ hSw rfl; have q6_ := S.cell_of w _ 6 _ 90 _ hSw rfl; have q7_ := S.cell_of w _ 7 _ 90 _ hSw rfl; have q8_ := S.cell_of w _ 8 _ 90 _ hSw rfl; go_simp; try with_reducible rfl)
      simp only [Act.put, List.getElem_toArray, List.getElem_cons_zero, List.getElem_cons_succ, List.setIfInBounds_toArray, List.set_cons_zero, List.set_cons_succ]
      refine wpAnyH_take (i := 8) (v := ?_) rfl (by kernel_rfl) (by kernel_rfl) (by kernel_rfl) (fun c a w h => h) (Or.inl ⟨by rfl, ?_⟩) hHeld ?_
      rotate_left
      · (intro w hSw; have q0_ := S.cell_of w _ 0 _ 90 _ hSw rfl; have q1_ := S.cell_of w _ 1 _ 90 _ hSw rfl; have q2_ := S.cell_of w _ 2 _ 90 _ hSw rfl; have q3_ := S.cell_of w _ 3 _ 90 _ hSw rfl; have q4_ := S.cell_of w _ 4 _ 90 _ hSw rfl; have q5_ := S.cell_of w _ 5 _ 90 _ hSw rfl; have q6_ := S.cell_of w _ 6 _ 90 _ hSw rfl; have q7_ := S.cell_of w _ 7 _ 90 _ hSw rfl; have q8_ := S.cell_of w _ 8 _ 90 _ hSw rfl; go_simp; try with_reducible rfl)
      simp only [Act.put, List.getElem_toArray, List.getElem_cons_zero, List.getElem_cons_succ, List.setIfInBounds_toArray, List.set_cons_zero, List.set_cons_succ]
      refine wpAnyH_take (i := 10) (v := ?_) rfl (by kernel_rfl) (by kernel_rfl) (by kernel_rfl) (fun c a w h => h) (Or.inl ⟨by rfl, ?_⟩) hHeld ?_
      rotate_left
      · (intro w hSw; have q0_ := S.cell_of w _ 0 _ 90 _ hSw rfl; have q1_ := S.cell_of w _ 1 _ 90 _ hSw rfl; have q2_ := S.cell_of w _ 2 _ 90 _ hSw rfl; have q3_ := S.cell_of w _ 3 _ 90 _ hSw rfl; have q4_ := S.cell_of w _ 4 _ 90 _ hSw rfl; have q5_ := S.cell_of w _ 5 _ 90 _ hSw rfl; have q6_ := S.cell_of w _ 6 _ 90 _ hSw rfl; have q7_ := S.cell_of w _ 7 _ 90 _ hSw rfl; have q8_ := S.cell_of w _ 8 _ 90 _ hSw rfl; go_simp; try with_reducible rfl)
      simp only [Act.put, List.getElem_toArray, List.getElem_cons_zero, List.getElem_cons_succ, List.setIfInBounds_toArray, List.set_cons_zero, List.set_cons_succ]
      refine wpAnyH_take (i := 11) (v := ?_) rfl (by kernel_rfl) (by kernel_rfl) (by kernel_rfl) (fun c a w h => h) (Or.inl ⟨by rfl, ?_⟩) hHeld ?_
      rotate_left
      · (intro w hSw; have q0_ := S.cell_of w _ 0 _ 90 _ hSw rfl; have q1_ := S.cell_of w _ 1 _ 90 _ hSw rfl; have q2_ := S.cell_of w _ 2 _ 90 _ hSw rfl; have q3_ := S.cell_of w _ 3 _ 90 _ hSw rfl; have q4_ := S.cell_of w _ 4 _ 90 _ hSw rfl; have q5_ := S.cell_of w _ 5 _ 90 _ hSw rfl; have q6_ := S.cell_of w _ 6 _ 90 _ hSw rfl; have q7_ := S.cell_of w _ 7 _ 90 _ hSw rfl; have q8_ := S.cell_of w _ 8 _ 90 _ hSw rfl; go_simp; try with_reducible rfl)
      simp only [Act.put, List.getElem_toArray, List.getElem_cons_zero, List.getElem_cons_succ, List.setIfInBounds_toArray, List.set_cons_zero, List.set_cons_succ]
      refine wpAnyH_take (i := 12) (v := ?_) rfl (by kernel_rfl) (by kernel_rfl) (by kernel_rfl) (fun c a w h => h) (Or.inl ⟨by rfl, ?_⟩) hHeld ?_
      rotate_left
      · (intro w hSw; have q0_ := S.cell_of w _ 0 _ 90 _ hSw rfl; have q1_ := S.cell_of w _ 1 _ 90 _ hSw rfl; have q2_ := S.cell_of w _ 2 _ 90 _ hSw rfl; have q3_ := S.cell_of w _ 3 _ 90 _ hSw rfl; have q4_ := S.cell_of w _ 4 _ 90 _ hSw rfl; have q5_ := S.cell_of w _ 5 _ 90 _ hSw rfl; have q6_ := S.cell_of w _ 6 _ 90 _ hSw rfl; have q7_ := S.cell_of w _ 7 _ 90 _ hSw rfl; have q8_ := S.cell_of w _ 8 _ 90 _ hSw rfl; go_simp; try with_reducible rfl)
      simp only [Act.put, List.getElem_toArray, List.getElem_cons_zero, List.getElem_cons_succ, List.setIfInBounds_toArray, List.set_cons_zero, List.set_cons_succ]
      refine wpAnyH_take (i := 14) (v := ?_) rfl (by kernel_rfl) (by kernel_rfl) (by kernel_rfl) (fun c a w h => h) (Or.inl ⟨by rfl, ?_⟩) hHeld ?_
      rotate_left
      · (intro w hSw; have q0_ := S.cell_of w _ 0 _ 90 _ hSw rfl; have q1_ := S.cell_of w _ 1 _ 90 _ hSw rfl; have q2_ := S.cell_of w _ 2 _ 90 _ hSw rfl; have q3_ := S.cell_of w _ 3 _ 90 _ hSw rfl; have q4_ := S.cell_of w _ 4 _ 90 _ hSw rfl; have q5_ := S.cell_of w _ 5 _ 90 _ hSw rfl; have q6_ := S.cell_of w _ 6 _ 90 _ hSw rfl; have q7_ := S.cell_of w _ 7 _ 90 _ hSw rfl; have q8_ := S.cell_of w _ 8 _ 90 _ hSw rfl; go_simp; try with_reducible rfl)
      simp only [Act.put, List.getElem_toArray, List.getElem_cons_zero, List.getElem_cons_succ, List.setIfInBounds_toArray, List.set_cons_zero, List.set_cons_succ]
      refine wpAnyH_take (i := 15) (v := ?_) rfl (by kernel_rfl) (by kernel_rfl) (by kernel_rfl) (fun c a w h => h) (Or.inl ⟨by rfl, ?_⟩) hHeld ?_
      rotate_left
      · (intro w hSw; have q0_ := S.cell_of w _ 0 _ 90 _ hSw rfl; have q1_ := S.cell_of w _ 1 _ 90 _ hSw rfl; have q2_ := S.cell_of w _ 2 _ 90 _ hSw rfl; have q3_ := S.cell_of w _ 3 _ 90 _ hSw rfl; have q4_ := S.cell_of w _ 4 _ 90 _ hSw rfl; have q5_ := S.cell_of w _ 5 _ 90 _ hSw rfl; have q6_ := S.cell_of w _ 6 _ 90 _ hSw rfl; have q7_ := S.cell_of w _ 7 _ 90 _ hSw rfl; have q8_ := S.cell_of w _ 8 _ 90 _ hSw rfl; go_simp; try with_reducible rfl)
      simp only [Act.put, List.getElem_toArray, List.getElem_cons_zero, List.getElem_cons_succ, List.setIfInBounds_toArray, List.set_cons_zero, List.set_cons_succ]
      refine wpAnyH_ready (rs := [3]) (by kernel_rfl) (by simp) ?_
      refine AllReadyH.cons rfl (fun K hK => ?_) AllReadyH.nil
      go_simp
      refine (HIN.out q1 q2 tn d1 en d2 O y0 (HO.out.2.2.1.kept ((HL.out.1.trans (HB0.out.1.mono hBx)).block _ HO.out.2.2.1.lt)) (HO.out.2.2.2.kept' (HL.out.1.trans (HB0.out.1.mono hBx)) HO.out.2.1)).mono ?_
      rintro e y1 ⟨wq, rfl, hwq, kk⟩
      have hH1 : y1.heap[bx]? = some (.cells [.int .i64 nk, .int .i64 nop, .int .u16 nv, .string nnm, .slice q1 tn d1, .slice q2 en d2, .bool nhas, .int .i64 np1, .int .i64 np2].toArray 90 (0, 0)) := (kk.block _ HB0.out.2).trans hHeld
      have HB1 := hid (And.intro (HB0.out.1.trans (kk.mono (Nat.le_of_lt HB0.out.2))) (And.intro (Nat.lt_of_lt_of_le HB0.out.2 kk.size) (And.intro (WP.keep hwq (fun i hi => kk.block i (Nat.lt_of_lt_of_le (HO.out.2.1 i hi) (Nat.le_trans hBx (Nat.le_of_lt HB0.out.2)))) fun _ h => h) trivial)))
      clear hwq kk
      refine hK.out _ _ hH1 (fun hHeld => ?_)
      clear hK K
      try simp only [Act.put, List.getElem_toArray, List.getElem_cons_zero, List.getElem_cons_succ, List.setIfInBounds_toArray, List.set_cons_zero, List.set_cons_succ]
      refine wpAnyH_ready (rs := [9]) (by kernel_rfl) (by simp) ?_
      refine AllReadyH.cons rfl (fun K hK => ?_) AllReadyH.nil
      go_simp
      refine (HN.out.2.2.1.1 E L mb (.slice q1 tn d1) O1 O y1 (fun i hi => Nat.lt_of_lt_of_le (HO.out.1 i hi) (Nat.le_trans hBx (Nat.le_of_lt HB1.out.2.1))) (fun i hi => Nat.lt_of_lt_of_le (HO.out.2.1 i hi) (Nat.le_trans hBx (Nat.le_of_lt HB1.out.2.1))) (HN.out.1.below (HL.out.1.trans (HB1.out.1.mono hBx)) HO.out.1) (HO.out.2.2.1.kept ((HL.out.1.trans (HB1.out.1.mono hBx)).block _ HO.out.2.2.1.lt)) (HO.out.2.2.2.kept' (HL.out.1.trans (HB1.out.1.mono hBx)) HO.out.2.1) HN.out.2.2.2.1).mono ?_
      rintro e y2 ⟨v9, rfl, hv9, kk⟩
      have hH1 : y2.heap[bx]? = some (.cells [.int .i64 nk, .int .i64 nop, .int .u16 nv, .string nnm, .slice q1 tn d1, .slice q2 en d2, .bool nhas, .int .i64 np1, .int .i64 np2].toArray 90 (0, 0)) := (kk.block _ HB1.out.2.1).trans hHeld
      obtain ⟨pt, ct, rfl, hct, _⟩ := hv9.ex
      have HB2 := hid (And.intro (HB1.out.1.trans (kk.mono (Nat.le_of_lt HB1.out.2.1))) (And.intro (Nat.lt_of_lt_of_le HB1.out.2.1 kk.size) (And.intro (WP.keep HB1.out.2.2.1 (fun i hi => kk.block i (Nat.lt_of_lt_of_le (HO.out.2.1 i hi) (Nat.le_trans hBx (Nat.le_of_lt HB1.out.2.1)))) fun _ h => h) (MNV.kept (W' := y2) (O' := nw O wr y2) hv9 (fun _ _ => rfl) (fun i hi => hi.elim .inl fun h => .inr ⟨by have := HB1.out.2.1; rw [HX.out]; omega, h.2⟩)))))
      clear hv9 kk
      refine hK.out _ _ hH1 (fun hHeld => ?_)
      clear hK K
      try simp only [Act.put, List.getElem_toArray, List.getElem_cons_zero, List.getElem_cons_succ, List.setIfInBounds_toArray, List.set_cons_zero, List.set_cons_succ]
      refine wpAnyH_ready (rs := [13]) (by kernel_rfl) (by simp) ?_
      refine AllReadyH.cons rfl (fun K hK => ?_) AllReadyH.nil
      go_simp
      refine (HN.out.2.2.1.2 E L mb (.slice q2 en d2) O1 O y2 (fun i hi => Nat.lt_of_lt_of_le (HO.out.1 i hi) (Nat.le_trans hBx (Nat.le_of_lt HB2.out.2.1))) (fun i hi => Nat.lt_of_lt_of_le (HO.out.2.1 i hi) (Nat.le_trans hBx (Nat.le_of_lt HB2.out.2.1))) (HN.out.2.1.below (HL.out.1.trans (HB2.out.1.mono hBx)) HO.out.1) (HO.out.2.2.1.kept ((HL.out.1.trans (HB2.out.1.mono hBx)).block _ HO.out.2.2.1.lt)) (HO.out.2.2.2.kept' (HL.out.1.trans (HB2.out.1.mono hBx)) HO.out.2.1) HN.out.2.2.2.2).mono ?_
      rintro e y3 ⟨v13, rfl, hv13, kk⟩
      have hH1 : y3.heap[bx]? = some (.cells [.int .i64 nk, .int .i64 nop, .int .u16 nv, .string nnm, .slice q1 tn d1, .slice q2 en d2, .bool nhas, .int .i64 np1, .int .i64 np2].toArray 90 (0, 0)) := (kk.block _ HB2.out.2.1).trans hHeld
      obtain ⟨pe, ce', rfl, hce, _⟩ := hv13.ex
      have hup : ∀ i, nw O wr y2 i -> y3.heap[i]? = y2.heap[i]? := fun i hi => kk.block i (by rcases hi with hi | hi; exact Nat.lt_of_lt_of_le (HO.out.2.1 i hi) (Nat.le_trans hBx (Nat.le_of_lt HB2.out.2.1)); exact hi.2)
      have HB3 := hid (And.intro (HB2.out.1.trans (kk.mono (Nat.le_of_lt HB2.out.2.1))) (And.intro (Nat.lt_of_lt_of_le HB2.out.2.1 kk.size) (And.intro (WP.keep (O' := nw O wr y3) HB2.out.2.2.1 (fun i hi => hup i (.inl hi)) fun _ h => .inl h) (And.intro (MNV.kept (W' := y3) (O' := nw O wr y3) HB2.out.2.2.2 hup (fun i hi => hi.elim .inl fun h => .inr ⟨h.1, Nat.lt_of_lt_of_le h.2 kk.size⟩)) (MNV.kept (W' := y3) (O' := nw O wr y3) hv13 (fun _ _ => rfl) (fun i hi => hi.elim .inl fun h => .inr ⟨by have := HB2.out.2.1; rw [HX.out]; omega, h.2⟩))))))
      clear hup
      clear hv13 kk
      refine hK.out _ _ hH1 (fun hHeld => ?_)
      clear hK K
      try simp only [Act.put, List.getElem_toArray, List.getElem_cons_zero, List.getElem_cons_succ, List.setIfInBounds_toArray, List.set_cons_zero, List.set_cons_succ]
      try simp only [List.length_map] at *
      try rw [HTN.out.1]
      try rw [HTN.out.2]
      refine wpAnyH_take (i := 16) (v := ?_) rfl (by kernel_rfl) (by kernel_rfl) (by kernel_rfl) (fun c a w h => h) (Or.inl ⟨by rfl, ?_⟩) hHeld ?_
      rotate_left
      · (intro w hSw; have q0_ := S.cell_of w _ 0 _ 90 _ hSw rfl; have q1_ := S.cell_of w _ 1 _ 90 _ hSw rfl; have q2_ := S.cell_of w _ 2 _ 90 _ hSw rfl; have q3_ := S.cell_of w _ 3 _ 90 _ hSw rfl; have q4_ := S.cell_of w _ 4 _ 90 _ hSw rfl; have q5_ := S.cell_of w _ 5 _ 90 _ hSw rfl; have q6_ := S.cell_of w _ 6 _ 90 _ hSw rfl; have q7_ := S.cell_of w _ 7 _ 90 _ hSw rfl; have q8_ := S.cell_of w _ 8 _ 90 _ hSw rfl; go_simp; try with_reducible rfl)
      simp only [Act.put, List.getElem_toArray, List.getElem_cons_zero, List.getElem_cons_succ, List.setIfInBounds_toArray, List.set_cons_zero, List.set_cons_succ]
      have hcs := one9 y3 (.int .i64 I.op) (.int .u16 I.v) (.pointer wq) (.int .i64 np1) (.int .i64 np2) (.int .i64 nk) (.slice pt tn ct) (.slice pe en ce') (.bool nhas) 173 (by intro u hu; simp only [List.mem_cons, List.not_mem_nil, or_false] at hu; rcases hu with rfl | rfl | rfl | rfl | rfl | rfl | rfl | rfl | rfl <;> rfl)
      have hb4 : Below bx wr (y3.alloc (.cells #[.int .i64 I.op, .int .u16 I.v, .pointer wq, .int .i64 np1, .int .i64 np2, .int .i64 nk, .slice pt tn ct, .slice pe en ce', .bool nhas] 173)) := HB3.out.1.alloc (Nat.le_of_lt HB3.out.2.1) _
      have hrow : (y3.alloc (.cells #[.int .i64 I.op, .int .u16 I.v, .pointer wq, .int .i64 np1, .int .i64 np2, .int .i64 nk, .slice pt tn ct, .slice pe en ce', .bool nhas] 173)).ownsRow W.heap.size 173 9 (.slice p3 k c3) k cs := S.own_kept HL.out.2.2.2 fun g hg _ => hb4.block g (HG.out g hg).2
      have hH4 : (y3.alloc (.cells #[.int .i64 I.op, .int .u16 I.v, .pointer wq, .int .i64 np1, .int .i64 np2, .int .i64 nk, .slice pt tn ct, .slice pe en ce', .bool nhas] 173)).heap[bx]? = some (.cells [.int .i64 nk, .int .i64 nop, .int .u16 nv, .string nnm, .slice q1 tn d1, .slice q2 en d2, .bool nhas, .int .i64 np1, .int .i64 np2].toArray 90 (0, 0)) := (Below.heap_alloc _ _ _ HB3.out.2.1).trans hHeld
      have hs4 : (y3.alloc (.cells #[.int .i64 I.op, .int .u16 I.v, .pointer wq, .int .i64 np1, .int .i64 np2, .int .i64 nk, .slice pt tn ct, .slice pe en ce', .bool nhas] 173)).heap.size = y3.heap.size + 1 := by simp
      have hal : ∀ i, i < y3.heap.size -> (y3.alloc (.cells #[.int .i64 I.op, .int .u16 I.v, .pointer wq, .int .i64 np1, .int .i64 np2, .int .i64 nk, .slice pt tn ct, .slice pe en ce', .bool nhas] 173)).heap[i]? = y3.heap[i]? := fun i hi => Below.heap_alloc _ _ _ hi
      refine wpAnyH_ready (rs := [17]) (by kernel_rfl) (by simp) ?_
      refine AllReadyH.cons rfl (fun K hK => ?_) AllReadyH.nil
      go_simp
      refine hK.out _ _ hH4 (fun hHeld => ?_)
      clear hK K
      try simp only [Act.put, List.getElem_toArray, List.getElem_cons_zero, List.getElem_cons_succ, List.setIfInBounds_toArray, List.set_cons_zero, List.set_cons_succ]
      generalize y3.alloc (.cells #[.int .i64 I.op, .int .u16 I.v, .pointer wq, .int .i64 np1, .int .i64 np2, .int .i64 nk, .slice pt tn ct, .slice pe en ce', .bool nhas] 173) = y4 at *
      refine wpAnyH_ready (rs := [18]) (by kernel_rfl) (by simp) ?_
      refine AllReadyH.cons rfl (fun K hK => ?_) AllReadyH.nil
      rw [if_pos (by rfl)]
      refine S.wp_append_row _ _ _ 146 173 zM 9 104 Tryz.underlying146 infoM rfl (by decide) rfl W.heap.size _ k cs rfl hrow _ 1 _ rfl hcs (by unfold S.room; omega) (by unfold maxLen; omega) (by have := HB3.out.2.1; omega) (fun v5 w5 hr5 hg5 => ?_)
      have hne : ∀ g, Value.ownBlock (.slice p3 k c3) = some g -> g ≠ bx := fun g hg e => by have := (HG.out g hg).2; omega
      have hH5 : w5.heap[bx]? = some (.cells [.int .i64 nk, .int .i64 nop, .int .u16 nv, .string nnm, .slice q1 tn d1, .slice q2 en d2, .bool nhas, .int .i64 np1, .int .i64 np2].toArray 90 (0, 0)) := (hg5.block bx (S.lt_of hH4) (fun e => hne bx e.symm rfl)).trans hH4
      refine hK.out _ _ hH5 (fun hHeld => ?_)
      clear hK K
      try simp only [Act.put, List.getElem_toArray, List.getElem_cons_zero, List.getElem_cons_succ, List.setIfInBounds_toArray, List.set_cons_zero, List.set_cons_succ]
      refine wpAnyH_take (i := 19) (v := ?_) rfl (by kernel_rfl) (by kernel_rfl) (by kernel_rfl) (fun c a w h => h) (Or.inl ⟨by rfl, ?_⟩) hHeld ?_
      rotate_left
      · (intro w hSw; have q0_ := S.cell_of w _ 0 _ 90 _ hSw rfl; have q1_ := S.cell_of w _ 1 _ 90 _ hSw rfl; have q2_ := S.cell_of w _ 2 _ 90 _ hSw rfl; have q3_ := S.cell_of w _ 3 _ 90 _ hSw rfl; have q4_ := S.cell_of w _ 4 _ 90 _ hSw rfl; have q5_ := S.cell_of w _ 5 _ 90 _ hSw rfl; have q6_ := S.cell_of w _ 6 _ 90 _ hSw rfl; have q7_ := S.cell_of w _ 7 _ 90 _ hSw rfl; have q8_ := S.cell_of w _ 8 _ 90 _ hSw rfl; go_simp; try with_reducible rfl)
      simp only [Act.put, List.getElem_toArray, List.getElem_cons_zero, List.getElem_cons_succ, List.setIfInBounds_toArray, List.set_cons_zero, List.set_cons_succ]
      refine wpAnyH_done (by kernel_rfl) ?_ _
      have hfin : ML W w5 O E l (k + 1) v5 := by
        have hb5 : Below W.heap.size W w5 := HL.out.1.trans (Below.trans (hb4.mono hBx) (hg5.below (fun g hg => (HG.out g hg).1) (by have := HB3.out.2.1; omega)))
        refine ⟨hb5, fun i => U i \/ O i \/ (bx <= i /\ i < y3.heap.size), _, fun i hi => ?_, ?_, hr5⟩
        · have hs5 := hg5.size
          have hown := hg5.own
          rcases hi with hi | hi | hi
          · obtain ⟨h1, h2⟩ := HL.out.2.1 i hi
            have hi2 : i < bx := by
              rcases h1 with h1 | h1
              · have := HO.out.2.1 i h1; omega
              · rw [<- HX.out]; exact h1.2
            refine ⟨h1.elim .inl fun h => .inr ⟨h.1, by have := hb4.size; rw [HX.out] at this; omega⟩, fun e => ?_⟩
            rcases hown with hown | hown
            · rw [hown] at e; exact h2 e
            · have := hown i e; have := hb4.size; rw [HX.out] at this; omega
          · refine ⟨.inl hi, fun e => ?_⟩
            have h1 := HO.out.2.1 i hi
            have := (World.ownsRow.lt hr5 i e).1
            omega
          · refine ⟨.inr ⟨by omega, by omega⟩, fun e => ?_⟩
            rcases hown with hown | hown
            · rw [hown] at e; have := (HG.out i e).2; omega
            · have := hown i e; omega
        · have k5 : ∀ i, (U i \/ O i \/ (bx <= i /\ i < y3.heap.size)) -> Value.ownBlock (.slice p3 k c3) ≠ some i -> w5.heap[i]? = y4.heap[i]? := fun i hi hne => hg5.block i (by
            rcases hi with hi | hi | hi
            · rcases (HL.out.2.1 i hi).1 with h | h
              · have := HO.out.2.1 i h; have := hb4.size; rw [HX.out] at this; omega
              · have := h.2; have := hb4.size; omega
            · have := HO.out.2.1 i hi; have := hb4.size; rw [HX.out] at this; omega
            · omega) fun e => hne e.symm
          have kn : ∀ i, nw O wr y3 i -> (w5.heap[i]? = y3.heap[i]?) /\ (U i \/ O i \/ (bx <= i /\ i < y3.heap.size)) := fun i hi => by
            rcases hi with hi | hi
            · have h1 := HO.out.2.1 i hi
              refine ⟨(k5 i (.inr (.inl hi)) fun e => ?_).trans (hal i (by have := HB3.out.2.1; omega)), .inr (.inl hi)⟩
              have := (HG.out i e).1; omega
            · rw [HX.out] at hi
              refine ⟨(k5 i (.inr (.inr hi)) fun e => ?_).trans (hal i hi.2), .inr (.inr hi)⟩
              have := (HG.out i e).2; omega
          rw [HE.out]
          refine MC.app (MC.kept (fun i hi => (k5 i (.inl hi) (HL.out.2.1 i hi).2).trans (hb4.block i ?_)) (fun i hi => .inl hi) HL.out.2.2.1) ⟨wq, .slice pt tn ct, .slice pe en ce', [], ?_, ?_, ?_, ?_, rfl⟩
          · rcases (HL.out.2.1 i hi).1 with h | h
            · have := HO.out.2.1 i h; omega
            · rw [<- HX.out]; exact h.2
          · rw [HT.out]; rfl
          · rw [HT.out]; exact WP.keep HB3.out.2.2.1 (fun i hi => (kn i hi).1) fun i hi => (kn i hi).2
          · rw [HT.out]; have h := HB3.out.2.2.2.1; rw [HTN.out.1] at h; exact h.kept (fun i hi => (kn i hi).1) fun i hi => (kn i hi).2
          · rw [HT.out]; have h := HB3.out.2.2.2.2; rw [HTN.out.2] at h; exact h.kept (fun i hi => (kn i hi).1) fun i hi => (kn i hi).2
      have HFIN := hid hfin
      clear hfin hr5 hg5 hHeld hH5 hH4 hrow hcs hb4 hal hs4 hne
      go_wp2
      go_roundw
      case rel => exact ⟨k + 1, by omega, by go_num, HFIN.out⟩
      case measure => simp only [intOf]; omega
theorem nodes_all (n : Nd) : LC n.th /\ LC n.el := Nd.ind (P := fun n => LC n.th /\ LC n.el) (fun n h1 h2 => ⟨nodes_of n.th h1, nodes_of n.el h2⟩) n
theorem nodes_any (l : List Nd) : LC l := nodes_of l fun m _ => nodes_all m
end Go.Proofs.YtoemoiehjdmheaaGreat.Z
