import Derived.Test.YtlljelfplffglabDoorHScr
import Derived.Test.YtlljelfplffglabDoorKWriter
import Derived.Test.YtlljelfplffglabDoorSRow
/-! Digest. -/
namespace Go.Proofs.YtlljelfplffglabDoor.H
open Go.RowKit
open Go.Proofs
open Go.Proofs.YtlljelfplffglabDoor.K
set_option linter.unusedVariables false
set_option linter.unusedSimpArgs false
set_option maxHeartbeats 2000000
set_option maxRecDepth 100000
/-- A tone. -/
structure Tn where
  c : Int
  p : UInt16
  v : UInt8
def eT (t : Tn) : List Value := [.int .i64 t.c, .int .u16 (t.p.toNat : Int), .int .u8 (t.v.toNat : Int)]
theorem hT3 (t : Tn) : (eT t).length = 3 := rfl
/-- A number's lowest 32 bits. -/
def lo (z : Int) : Nat := (z % 4294967296).toNat
theorem lo_lt (z : Int) : lo z < 4294967296 := by unfold lo; omega
theorem lo_u32 (z : Int) : IntKind.u32.wrap z = (lo z : Int) := by
  unfold lo
  simp [IntKind.wrap, IntKind.bits, IntKind.signed]
  omega
def w4 (z : Int) : List UInt8 := low 4 (lo z)
theorem w4_len (z : Int) : (w4 z).length = 4 := by unfold w4; rw [low4]; rfl
def tb (t : Tn) : List UInt8 := w4 t.c ++ low 2 t.p.toNat ++ [t.v]
theorem tb_len (t : Tn) : (tb t).length = 7 := by unfold tb; rw [List.length_append, List.length_append, w4_len, low2]; rfl
theorem tbs_len (ts : List Tn) : (ts.flatMap tb).length = 7 * ts.length := by
  induction ts with
  | nil => rfl
  | cons t r ih => rw [List.flatMap_cons, List.length_append, tb_len, ih, List.length_cons]; omega
def ws (ns : List Int) : List UInt8 := ns.flatMap w4
theorem ws_len (ns : List Int) : (ws ns).length = 4 * ns.length := by
  unfold ws
  induction ns with
  | nil => rfl
  | cons t r ih => rw [List.flatMap_cons, List.length_append, w4_len, ih, List.length_cons]; omega
theorem ws_snoc (ns : List Int) (z : Int) : ws (ns ++ [z]) = ws ns ++ w4 z := by unfold ws; rw [List.flatMap_append]; simp
/-- What the sum is taken of. -/
def dgB (a b c d e : Int) (s : List UInt8) (ts : List Tn) : List UInt8 := ws [a, b, c, d, e, (s.length : Int)] ++ (s ++ (w4 (ts.length : Int) ++ ts.flatMap tb))
theorem tab_bel {W W' : World} (h : Tab W) (b : Below W.heap.size W W') : Tab W' := fun i hi => by
  have e := h i hi
  rw [b.cell (World.block_lt_of_cell? W _ e)]; exact e
/-- Digest's own: the boxed out at B, the writers at B + 1 and B + 2. -/
structure DG (B : Nat) (cs : Array Value) (w W : World) (va vb : Value) (la lb : List UInt8) : Prop where
  below : Below B w W
  size : B + 3 ≤ W.heap.size
  box : W.heap[B]? = some (.cells cs 44 (0, 0))
  a : Wr W (B + 3) (B + 1) va la
  b : Wr W (B + 3) (B + 2) vb lb
  sep : ∀ g, va.ownBlock = some g → vb.ownBlock ≠ some g
theorem DG.next {B : Nat} {cs : Array Value} {w W W' : World} {va vb : Value} {la lb : List UInt8} (h : DG B cs w W va vb la lb) (b : Below W.heap.size W W') : DG B cs w W' va vb la lb :=
  ⟨h.below.trans (b.mono (by have := h.size; omega)), Nat.le_trans h.size b.size, (b.block _ (by have := h.size; omega)).trans h.box, h.a.below b, h.b.below b, h.sep⟩
theorem DG.putA {B : Nat} {cs : Array Value} {w W W' : World} {va vb va' : Value} {la lb la' : List UInt8} (h : DG B cs w W va vb la lb) (hB : B = w.heap.size) (hw : Wr W' (B + 3) (B + 1) va' la') (s : WStep (B + 1) W W' va va') : DG B cs w W' va' vb la' lb := by
  have hz := h.size
  have ha : ∀ g, va.ownBlock = some g → B + 3 ≤ g := fun g e => (h.a.row.lt g e).1
  have hb : ∀ g, vb.ownBlock = some g → B + 3 ≤ g ∧ g < W.heap.size := fun g e => h.b.row.lt g e
  refine ⟨h.below.trans ⟨s.os, s.tape, s.output, s.size, fun k hk => s.block k (by omega) (by omega) (fun e => by have := ha k e.symm; omega)⟩, Nat.le_trans hz s.size, ?_, hw, ⟨?_, ?_⟩, ?_⟩
  · rw [s.block B (by omega) (by omega) (fun e => by have := ha _ e.symm; omega)]; exact h.box
  · rw [s.block (B + 2) (by omega) (by omega) (fun e => by have := ha _ e.symm; omega)]; exact h.b.blk
  · exact h.b.row.kept fun g e hg => s.block g hg (by have := (hb g e).1; omega) (fun e2 => h.sep g e2.symm e)
  · intro g e e2
    rcases s.own with k | k
    · rw [k] at e; exact h.sep g e e2
    · have := k g e; have := (hb g e2).2; omega
theorem DG.putB {B : Nat} {cs : Array Value} {w W W' : World} {va vb vb' : Value} {la lb lb' : List UInt8} (h : DG B cs w W va vb la lb) (hB : B = w.heap.size) (hw : Wr W' (B + 3) (B + 2) vb' lb') (s : WStep (B + 2) W W' vb vb') : DG B cs w W' va vb' la lb' := by
  have hz := h.size
  have hb : ∀ g, vb.ownBlock = some g → B + 3 ≤ g := fun g e => (h.b.row.lt g e).1
  have ha : ∀ g, va.ownBlock = some g → B + 3 ≤ g ∧ g < W.heap.size := fun g e => h.a.row.lt g e
  refine ⟨h.below.trans ⟨s.os, s.tape, s.output, s.size, fun k hk => s.block k (by omega) (by omega) (fun e => by have := hb k e.symm; omega)⟩, Nat.le_trans hz s.size, ?_, ⟨?_, ?_⟩, hw, ?_⟩
  · rw [s.block B (by omega) (by omega) (fun e => by have := hb _ e.symm; omega)]; exact h.box
  · rw [s.block (B + 1) (by omega) (by omega) (fun e => by have := hb _ e.symm; omega)]; exact h.a.blk
  · exact h.a.row.kept fun g e hg => s.block g hg (by have := (ha g e).1; omega) (fun e2 => h.sep g e e2.symm)
  · intro g e e2
    rcases s.own with k | k
    · rw [k] at e2; exact h.sep g e e2
    · have := k g e2; have := (ha g e).2; omega
theorem DG.start (w : World) (cs : Array Value) : DG w.heap.size cs w (((w.alloc (.cells cs 44)).alloc (.cells #[.slice none 0 0] 67)).alloc (.cells #[.slice none 0 0] 67)) (.slice none 0 0) (.slice none 0 0) [] [] := by
  refine ⟨(((Below.refl _ w).alloc (Nat.le_refl _) _).alloc (by simp) _).alloc (by simp; omega) _, by simp, ?_, ⟨?_, row_nil _ _⟩, ⟨?_, row_nil _ _⟩, fun g e => by simp [Value.ownBlock] at e⟩
  · exact (Below.heap_alloc _ _ _ (by simp; omega)).trans ((Below.heap_alloc _ _ _ (by simp)).trans (heap_alloc_new w _))
  · exact (Below.heap_alloc _ _ _ (by simp)).trans (heap_alloc2_new w _ _)
  · have := heap_alloc_new ((w.alloc (.cells cs 44)).alloc (.cells #[.slice none 0 0] 67)) (.cells #[.slice none 0 0] 67)
    simpa using this
/-- A tone of a slice. -/
theorem lt_at {W : World} {v : Value} {l : List Tn} (h : S.Ls eT 3 W v l) (k : Nat) (hk : k < l.length) : ∃ b o c, v = .slice (some ⟨b, o, none⟩) l.length c ∧ W.cell? ⟨b, o + k * 3, none⟩ = some (.int .i64 l[k].c) ∧ W.cell? ⟨b, o + k * 3 + 1, none⟩ = some (.int .u16 (l[k].p.toNat : Int)) ∧ W.cell? ⟨b, o + k * 3 + 2, none⟩ = some (.int .u8 (l[k].v.toNat : Int)) := by
  rcases h with ⟨rfl, rfl⟩ | ⟨x, c, rfl, _, h⟩
  · simp at hk
  · obtain ⟨b, o, e, h2⟩ := h k l[k] (List.getElem?_eq_getElem hk)
    cases e
    exact ⟨b, o, c, rfl, h2 0 _ rfl, h2 1 _ rfl, h2 2 _ rfl⟩
theorem ix_six (a b c d e f : Int) (W : World) :
    (Instr.index 68 (.agg #[.int .i64 a, .int .i64 b, .int .i64 c, .int .i64 d, .int .i64 e, .int .i64 f]) (.int .i64 0)).run Tryd.prog W = .ok (.int .i64 a) W ∧
    (Instr.index 68 (.agg #[.int .i64 a, .int .i64 b, .int .i64 c, .int .i64 d, .int .i64 e, .int .i64 f]) (.int .i64 1)).run Tryd.prog W = .ok (.int .i64 b) W ∧
    (Instr.index 68 (.agg #[.int .i64 a, .int .i64 b, .int .i64 c, .int .i64 d, .int .i64 e, .int .i64 f]) (.int .i64 2)).run Tryd.prog W = .ok (.int .i64 c) W ∧
    (Instr.index 68 (.agg #[.int .i64 a, .int .i64 b, .int .i64 c, .int .i64 d, .int .i64 e, .int .i64 f]) (.int .i64 3)).run Tryd.prog W = .ok (.int .i64 d) W ∧
    (Instr.index 68 (.agg #[.int .i64 a, .int .i64 b, .int .i64 c, .int .i64 d, .int .i64 e, .int .i64 f]) (.int .i64 4)).run Tryd.prog W = .ok (.int .i64 e) W ∧
    (Instr.index 68 (.agg #[.int .i64 a, .int .i64 b, .int .i64 c, .int .i64 d, .int .i64 e, .int .i64 f]) (.int .i64 5)).run Tryd.prog W = .ok (.int .i64 f) W := by
  refine ⟨?_, ?_, ?_, ?_, ?_, ?_⟩ <;> simp [Instr.index, run_underlying Tryd.underlying68, asIntOf, go_sem]
theorem dg_done {w : World} {va vb : Value} {cs : Array Value} {W : World} {la lb : List UInt8} (h : DG w.heap.size cs w W va vb la lb) : Below w.heap.size w W := h.below
theorem digest_any (z0 z1 z2 z3 z4 : Int) (vs vt : Value) (sc : List UInt8) (ts : List Tn) (hl1 : sc.length + 4096 ≤ room) (hl2 : 7 * ts.length + 4096 ≤ room) (w : World) (hs : Sl w vs sc) (ht : S.Ls eT 3 w vt ts) (hTb : Tab w) :
    Calls Tryd.prog 14 #[.agg #[.int .i64 z0, .int .i64 z1, .int .i64 z2, .int .i64 z3, .int .i64 z4, vs, vt]] w fun e w' => e = .returned (.int .u32 (crc (dgB z0 z1 z2 z3 z4 sc ts) : Int)) ∧ Below w.heap.size w w' := by
  obtain ⟨ps, cs, rfl, _⟩ := hs.ex
  obtain ⟨pt, ct, rfl, _, _⟩ := ht.ex
  unfold room at hl1 hl2
  have HT := hid ht
  have HSC := hid hs
  have HTB := hid hTb
  clear ht hs hTb
  have hD := DG.start w #[.int .i64 z0, .int .i64 z1, .int .i64 z2, .int .i64 z3, .int .i64 z4, .slice ps sc.length cs, .slice pt ts.length ct]
  obtain ⟨w0, hw0⟩ : ∃ w0, ((w.alloc (.cells #[.int .i64 z0, .int .i64 z1, .int .i64 z2, .int .i64 z3, .int .i64 z4, .slice ps sc.length cs, .slice pt ts.length ct] 44)).alloc (.cells #[.slice none 0 0] 67)).alloc (.cells #[.slice none 0 0] 67) = w0 := ⟨_, rfl⟩
  rw [hw0] at hD
  have HBX := hid (fun (W : World) (va vb : Value) (la lb : List UInt8) (h : DG w.heap.size #[.int .i64 z0, .int .i64 z1, .int .i64 z2, .int .i64 z3, .int .i64 z4, .slice ps sc.length cs, .slice pt ts.length ct] w W va vb la lb) => show (W.cell? ⟨w.heap.size, 0, none⟩ = some (.int .i64 z0) ∧ W.cell? ⟨w.heap.size, 1, none⟩ = some (.int .i64 z1) ∧ W.cell? ⟨w.heap.size, 2, none⟩ = some (.int .i64 z2) ∧ W.cell? ⟨w.heap.size, 3, none⟩ = some (.int .i64 z3) ∧ W.cell? ⟨w.heap.size, 4, none⟩ = some (.int .i64 z4) ∧ W.cell? ⟨w.heap.size, 5, none⟩ = some (.slice ps sc.length cs) ∧ W.cell? ⟨w.heap.size, 6, none⟩ = some (.slice pt ts.length ct)) from ⟨cell_of_any _ _ 0 _ _ _ h.box, cell_of_any _ _ 1 _ _ _ h.box, cell_of_any _ _ 2 _ _ _ h.box, cell_of_any _ _ 3 _ _ _ h.box, cell_of_any _ _ 4 _ _ _ h.box, cell_of_any _ _ 5 _ _ _ h.box, cell_of_any _ _ 6 _ _ _ h.box⟩)
  obtain ⟨CS, hCS⟩ : ∃ CS : Array Value, CS = #[.int .i64 z0, .int .i64 z1, .int .i64 z2, .int .i64 z3, .int .i64 z4, .slice ps sc.length cs, .slice pt ts.length ct] := ⟨_, rfl⟩
  rw [← hCS] at hD HBX
  clear hCS
  have HD := hid hD
  obtain ⟨c0, c1, c2, c3, c4, c5, c6⟩ := HBX.out _ _ _ _ _ hD
  clear hD
  go_enter Tryd.func14, Tryd.ntmps14
  go_upto_region 2 with fail
  try rw [hw0]
  clear hw0
  obtain ⟨ns, hns⟩ : ∃ ns : List Int, ns = [z0, z1, z2, z3, z4, (sc.length : Int)] := ⟨_, rfl⟩
  have HNS := hid hns
  clear hns
  obtain ⟨Bw, hBw⟩ : ∃ Bw, Bw = w.heap.size := ⟨_, rfl⟩
  have HBW := hid hBw
  rw [← hBw] at HD HBX c0 c1 c2 c3 c4 c5 c6
  try rw [← hBw]
  clear hBw
  go_wp2
  clear c0 c1 c2 c3 c4 c5 c6
  go_loopw [23] (fun i wr => ∃ (k : Nat) (z : Int) (va : Value), z = (k : Int) ∧ k ≤ 6 ∧ i = .int .i64 z ∧ DG Bw CS w wr va (.slice none 0 0) (ws (ns.take k)) []) (fun i _ => 6 - (intOf i).toNat)
  case atStart => exact ⟨0, 0, _, rfl, by omega, rfl, HD.out⟩
  case round =>
    clear HD
    obtain ⟨k, z, va, hz, hk, rfl, hD⟩ := hrel
    by_cases hlt : k < 6
    · have hk6 : k = 0 ∨ k = 1 ∨ k = 2 ∨ k = 3 ∨ k = 4 ∨ k = 5 := by omega
      have hwl := ws_len (ns.take k)
      rw [List.length_take] at hwl
      have hw : ∀ x, (ns[k]?) = some x → Calls Tryd.prog 29 #[.pointer (some ⟨Bw + 1, 0, none⟩), .int .u32 (lo x : Int)] wr fun e w' => e = .returned (.tuple #[]) ∧ ∃ v', DG Bw CS w w' v' (.slice none 0 0) (ws (ns.take (k + 1))) [] := fun x hx => by
        refine (wword_any (Bw + 3) (Bw + 1) va (lo x) (lo_lt x) (ws (ns.take k)) (by unfold room; omega) wr hD.a (by have := hD.size; omega)).mono ?_
        rintro e w' ⟨rfl, v', h1, h2⟩
        refine ⟨rfl, v', ?_⟩
        rw [List.take_add_one, hx, Option.toList_some, ws_snoc]
        exact hD.putA HBW.out h1 h2
      clear hwl hD
      rcases hk6 with rfl | rfl | rfl | rfl | rfl | rfl
      · obtain rfl : z = 0 := by omega
        have hw1 := hw z0 (by rw [HNS.out]; rfl)
        have hu := lo_u32 z0
        have hix := fun W => (ix_six z0 z1 z2 z3 z4 (sc.length : Int) W).1
        generalize lo z0 = x at *
        clear hw hz hlt hk
        go_wp2_with fail
        refine hw1.mono ?_
        rintro e w1 ⟨rfl, v', hD⟩
        have HE := hid hD
        clear hD hw1
        go_wp2
        go_roundw
        case rel => exact ⟨1, 1, v', rfl, by omega, by go_num, HE.out⟩
        case measure => simp [intOf]
      · obtain rfl : z = 1 := by omega
        have hw1 := hw z1 (by rw [HNS.out]; rfl)
        have hu := lo_u32 z1
        have hix := fun W => (ix_six z0 z1 z2 z3 z4 (sc.length : Int) W).2.1
        generalize lo z1 = x at *
        clear hw hz hlt hk
        go_wp2_with fail
        refine hw1.mono ?_
        rintro e w1 ⟨rfl, v', hD⟩
        have HE := hid hD
        clear hD hw1
        go_wp2
        go_roundw
        case rel => exact ⟨2, 2, v', rfl, by omega, by go_num, HE.out⟩
        case measure => simp [intOf]
      · obtain rfl : z = 2 := by omega
        have hw1 := hw z2 (by rw [HNS.out]; rfl)
        have hu := lo_u32 z2
        have hix := fun W => (ix_six z0 z1 z2 z3 z4 (sc.length : Int) W).2.2.1
        generalize lo z2 = x at *
        clear hw hz hlt hk
        go_wp2_with fail
        refine hw1.mono ?_
        rintro e w1 ⟨rfl, v', hD⟩
        have HE := hid hD
        clear hD hw1
        go_wp2
        go_roundw
        case rel => exact ⟨3, 3, v', rfl, by omega, by go_num, HE.out⟩
        case measure => simp [intOf]
      · obtain rfl : z = 3 := by omega
        have hw1 := hw z3 (by rw [HNS.out]; rfl)
        have hu := lo_u32 z3
        have hix := fun W => (ix_six z0 z1 z2 z3 z4 (sc.length : Int) W).2.2.2.1
        generalize lo z3 = x at *
        clear hw hz hlt hk
        go_wp2_with fail
        refine hw1.mono ?_
        rintro e w1 ⟨rfl, v', hD⟩
        have HE := hid hD
        clear hD hw1
        go_wp2
        go_roundw
        case rel => exact ⟨4, 4, v', rfl, by omega, by go_num, HE.out⟩
        case measure => simp [intOf]
      · obtain rfl : z = 4 := by omega
        have hw1 := hw z4 (by rw [HNS.out]; rfl)
        have hu := lo_u32 z4
        have hix := fun W => (ix_six z0 z1 z2 z3 z4 (sc.length : Int) W).2.2.2.2.1
        generalize lo z4 = x at *
        clear hw hz hlt hk
        go_wp2_with fail
        refine hw1.mono ?_
        rintro e w1 ⟨rfl, v', hD⟩
        have HE := hid hD
        clear hD hw1
        go_wp2
        go_roundw
        case rel => exact ⟨5, 5, v', rfl, by omega, by go_num, HE.out⟩
        case measure => simp [intOf]
      · obtain rfl : z = 5 := by omega
        have hw1 := hw (sc.length : Int) (by rw [HNS.out]; rfl)
        have hu := lo_u32 (sc.length : Int)
        have hix := fun W => (ix_six z0 z1 z2 z3 z4 (sc.length : Int) W).2.2.2.2.2
        generalize lo (sc.length : Int) = x at *
        clear hw hz hlt hk
        go_wp2_with fail
        refine hw1.mono ?_
        rintro e w1 ⟨rfl, v', hD⟩
        have HE := hid hD
        clear hD hw1
        go_wp2
        go_roundw
        case rel => exact ⟨6, 6, v', rfl, by omega, by go_num, HE.out⟩
        case measure => simp [intOf]
    · obtain rfl : k = 6 := by omega
      have e6 : ns.take 6 = ns := by rw [HNS.out]; rfl
      rw [e6] at hD
      have hwl := ws_len ns
      rw [show ns.length = 6 by rw [HNS.out]; rfl] at hwl
      obtain ⟨c0, c1, c2, c3, c4, c5, c6⟩ := HBX.out _ _ _ _ _ hD
      clear c0 c1 c2 c3 c4 c5
      obtain rfl : z = 6 := by omega
      have hw1 : Calls Tryd.prog 29 #[.pointer (some ⟨Bw + 2, 0, none⟩), .int .u32 (lo (ts.length : Int) : Int)] wr fun e w' => e = .returned (.tuple #[]) ∧ ∃ v', DG Bw CS w w' va v' (ws ns) (w4 (ts.length : Int)) := by
        refine (wword_any (Bw + 3) (Bw + 2) _ (lo (ts.length : Int)) (lo_lt _) [] (by unfold room; simp) wr hD.b (by have := hD.size; omega)).mono ?_
        rintro e w' ⟨rfl, v', h1, h2⟩
        exact ⟨rfl, v', hD.putB HBW.out h1 h2⟩
      have hu := lo_u32 (ts.length : Int)
      have HWL := hid hwl
      clear hD hwl e6 hz hlt hk
      generalize lo (ts.length : Int) = xl at *
      go_wp2_with fail
      refine hw1.mono ?_
      rintro e w1 ⟨rfl, v', hD⟩
      obtain ⟨c0, c1, c2, c3, c4, c5, c6⟩ := HBX.out _ _ _ _ _ hD
      have HD := hid hD
      clear hD hw1 c0 c1 c2 c3 c4 c5 hu
      go_wp2
      clear c6
      go_loopw [38] (fun i wr => ∃ (k : Nat) (vb : Value), k ≤ ts.length ∧ i = .int .i64 (k : Int) ∧ DG Bw CS w wr va vb (ws ns) (w4 (ts.length : Int) ++ (ts.take k).flatMap tb)) (fun i _ => ts.length - (intOf i).toNat)
      case atStart => exact ⟨0, v', by omega, rfl, by rw [List.take_zero, List.flatMap_nil, List.append_nil]; exact HD.out⟩
      case round =>
        clear HD
        obtain ⟨k, vb, hk, rfl, hD⟩ := hrel
        by_cases hlt : k < ts.length
        · have i1 : (k : Int) < ts.length := by omega
          obtain ⟨b, ob, cb, eb, a0, a1, a2⟩ := lt_at HT.out k hlt
          simp only [Value.slice.injEq] at eb
          obtain ⟨rfl, _, rfl⟩ := eb
          have hstep : (ts.take (k + 1)).flatMap tb = (ts.take k).flatMap tb ++ w4 ts[k].c ++ low 2 ts[k].p.toNat ++ [ts[k].v] := by
            rw [List.take_succ_eq_append_getElem hlt, List.flatMap_append, List.flatMap_cons, List.flatMap_nil, List.append_nil, tb, List.append_assoc, List.append_assoc, List.append_assoc]
          have hbl := tbs_len (ts.take k)
          rw [List.length_take] at hbl
          generalize ts[k] = t at *
          obtain ⟨tc, tp, tv⟩ := t
          simp only at a0 a1 a2 hstep
          have hbw := hD.below
          rw [HBW.out] at hbw
          have c0 := (hbw.cell (World.block_lt_of_cell? w _ a0)).trans a0
          have c1 := (hbw.cell (World.block_lt_of_cell? w _ a1)).trans a1
          have c2 := (hbw.cell (World.block_lt_of_cell? w _ a2)).trans a2
          obtain ⟨wa, hwa⟩ : ∃ wa, wa = wr.alloc (.cells #[.int .i64 tc, .int .u16 (tp.toNat : Int), .int .u8 (tv.toNat : Int)] 39) := ⟨_, rfl⟩
          have hba : Below wr.heap.size wr wa := by rw [hwa]; exact (Below.refl _ _).alloc (Nat.le_refl _) _
          have hna : wa.heap[wr.heap.size]? = some (.cells #[.int .i64 tc, .int .u16 (tp.toNat : Int), .int .u8 (tv.toNat : Int)] 39 (0, 0)) := by rw [hwa]; exact heap_alloc_new wr _
          have hDa := hD.next hba
          have hne : wr.heap.size ≠ Bw + 2 ∧ some wr.heap.size ≠ vb.ownBlock := ⟨by have := hD.size; omega, fun e => by have := (hD.b.row.lt _ e.symm).2; omega⟩
          obtain ⟨Bx, hBx⟩ : ∃ Bx, wr.heap.size = Bx := ⟨_, rfl⟩
          have hza : Bx < wa.heap.size := by rw [← hBx]; exact (Array.getElem?_eq_some_iff.1 hna).1
          rw [hBx] at hna hne
          have k0 : wa.cell? ⟨Bx, 0, none⟩ = some (.int .i64 tc) := cell_of_any _ _ 0 _ _ _ hna
          have HNA := hid hna
          have HDA := hid hDa
          have HNE := hid hne
          have HBL := hid (show (w4 (ts.length : Int)).length + ((ts.take k).flatMap tb).length + 7 ≤ 140737488355328 by rw [w4_len]; omega)
          have HST := hid hstep
          clear hD hDa hba hbw hna hne a0 a1 a2 hbl hstep
          go_upto_region 11 with fail
          try rw [hBx]
          rw [← hwa]
          clear hwa c0 c1 c2 hBx
          have hw1 : Calls Tryd.prog 29 #[.pointer (some ⟨Bw + 2, 0, none⟩), .int .u32 (lo tc : Int)] wa fun e w' => e = .returned (.tuple #[]) ∧ ∃ v', DG Bw CS w w' va v' (ws ns) (w4 (ts.length : Int) ++ (ts.take k).flatMap tb ++ w4 tc) ∧ (w'.heap[Bx]? = wa.heap[Bx]?) ∧ (Bx < w'.heap.size ∧ some Bx ≠ v'.ownBlock) := by
            refine (wword_any (Bw + 3) (Bw + 2) _ (lo tc) (lo_lt _) _ (by have := HBL.out; unfold room; rw [List.length_append]; omega) wa HDA.out.b (by have := HDA.out.size; omega)).mono ?_
            rintro e w' ⟨rfl, v', h1, h2⟩
            refine ⟨rfl, v', HDA.out.putB HBW.out h1 h2, h2.block _ hza HNE.out.1 HNE.out.2, Nat.lt_of_lt_of_le hza h2.size, fun e => ?_⟩
            rcases h2.own with q | q
            · exact HNE.out.2 (e.trans q)
            · have := q _ e.symm; omega
          have hu := lo_u32 tc
          generalize hx : lo tc = xc at *
          have HX := hid hx
          clear hx
          go_wp2_with fail
          refine hw1.mono ?_
          rintro e w2 ⟨rfl, vb2, hD2, hk2, hz2, hn2⟩
          have k1 : w2.cell? ⟨Bx, 1, none⟩ = some (.int .u16 (tp.toNat : Int)) := cell_of_any _ _ 1 _ _ _ (hk2.trans HNA.out)
          have hp16 := tp.toNat_lt
          have hw2 : Calls Tryd.prog 30 #[.pointer (some ⟨Bw + 2, 0, none⟩), .int .u16 (tp.toNat : Int)] w2 fun e w' => e = .returned (.tuple #[]) ∧ ∃ v', DG Bw CS w w' va v' (ws ns) (w4 (ts.length : Int) ++ (ts.take k).flatMap tb ++ w4 tc ++ low 2 tp.toNat) ∧ (w'.heap[Bx]? = w2.heap[Bx]?) := by
            refine (wcell_any (Bw + 3) (Bw + 2) _ tp.toNat hp16 _ (by have := HBL.out; have := w4_len tc; unfold room; rw [List.length_append, List.length_append]; omega) w2 hD2.b (by have := hD2.size; omega)).mono ?_
            rintro e w' ⟨rfl, v', h1, h2⟩
            exact ⟨rfl, v', hD2.putB HBW.out h1 h2, h2.block _ hz2 HNE.out.1 hn2⟩
          have HK2 := hid hk2
          clear hD2 hz2 hn2 hw1 hu k0 hk2
          go_wp2_with fail
          refine hw2.mono ?_
          rintro e w3 ⟨rfl, vb3, hD3, hk3⟩
          have k2 : w3.cell? ⟨Bx, 2, none⟩ = some (.int .u8 (tv.toNat : Int)) := cell_of_any _ _ 2 _ _ _ (hk3.trans (HK2.out.trans HNA.out))
          have hw3 : Calls Tryd.prog 31 #[.pointer (some ⟨Bw + 2, 0, none⟩), .int .u8 (tv.toNat : Int)] w3 fun e w' => e = .returned (.tuple #[]) ∧ ∃ v', DG Bw CS w w' va v' (ws ns) (w4 (ts.length : Int) ++ (ts.take (k + 1)).flatMap tb) := by
            refine (wbyte_any (Bw + 3) (Bw + 2) _ tv _ (by have := HBL.out; have := w4_len tc; have h2l : (low 2 tp.toNat).length = 2 := (by rw [low2]; rfl); unfold room; rw [List.length_append, List.length_append, List.length_append]; omega) w3 hD3.b (by have := hD3.size; omega)).mono ?_
            rintro e w' ⟨rfl, v', h1, h2⟩
            refine ⟨rfl, v', ?_⟩
            rw [HST.out, ← List.append_assoc, ← List.append_assoc, ← List.append_assoc]
            exact hD3.putB HBW.out h1 h2
          clear hD3 hw2 k1 hk3 hp16
          go_wp2_with fail
          refine hw3.mono ?_
          rintro e w4' ⟨rfl, vb4, hD4⟩
          have HE := hid hD4
          clear hD4 hw3 k2
          go_wp2
          go_roundw
          case rel => exact ⟨k + 1, vb4, by omega, by go_num, HE.out⟩
          case measure => simp [intOf]; omega
        · obtain rfl : k = ts.length := by omega
          rw [List.take_length] at hD
          obtain ⟨c0, c1, c2, c3, c4, c5, c6⟩ := HBX.out _ _ _ _ _ hD
          clear c0 c1 c2 c3 c4 c6
          have hbl := tbs_len ts
          have h4 := w4_len (ts.length : Int)
          have HLN := hid (show (ws ns).length ≤ room ∧ (w4 (ts.length : Int) ++ ts.flatMap tb).length ≤ room ∧ sc.length ≤ maxLen by have := HWL.out; unfold room maxLen; rw [List.length_append]; omega)
          have HD := hid hD
          clear hD hbl h4
          generalize hLB : w4 (ts.length : Int) ++ ts.flatMap tb = LB at *
          generalize hLA : ws ns = LA at *
          have HLA := hid hLA
          have HLB := hid hLB
          clear hLA hLB
          go_wp2_with fail
          refine wp_region_held_drew (S := (fun wz : World => wz.cell? ⟨Bw, 5, none⟩ = some (.slice ps sc.length cs))) (by kernel_rfl) (show wr.drew.cell? ⟨Bw, 5, none⟩ = _ from c5) (fun hHeld => ?_)
          have hDd : DG Bw CS w wr.drew va vb LA LB := HD.out.next ⟨rfl, rfl, rfl, Nat.le_refl _, fun _ _ => rfl⟩
          have c5d : wr.drew.cell? ⟨Bw, 5, none⟩ = some (.slice ps sc.length cs) := c5
          generalize wr.drew = y0 at *
          clear c5 HD
          refine wpAnyH_take (i := 1) (v := ?_) rfl (by kernel_rfl) (by kernel_rfl) (by kernel_rfl) (fun c a w h => h) (Or.inl ⟨by rfl, ?_⟩) hHeld ?_
          rotate_left
          · (intro w hSw; (try dsimp only at hSw); go_simp; try with_reducible rfl)
          simp only [Act.put, List.getElem_toArray, List.getElem_cons_zero, List.getElem_cons_succ, List.setIfInBounds_toArray, List.set_cons_zero, List.set_cons_succ]
          refine wpAnyH_take (i := 2) (v := ?_) rfl (by kernel_rfl) (by kernel_rfl) (by kernel_rfl) (fun c a w h => h) (Or.inl ⟨by rfl, ?_⟩) hHeld ?_
          rotate_left
          · (intro w hSw; (try dsimp only at hSw); go_simp; try with_reducible rfl)
          simp only [Act.put, List.getElem_toArray, List.getElem_cons_zero, List.getElem_cons_succ, List.setIfInBounds_toArray, List.set_cons_zero, List.set_cons_succ]
          refine wpAnyH_ready (rs := [0]) (by kernel_rfl) (by simp) ?_
          refine AllReadyH.cons rfl (fun K hK => ?_) AllReadyH.nil
          rw [if_pos (by rfl)]
          go_simp
          refine (wdone_any (Bw + 3) (Bw + 1) va LA HLN.out.1 y0 hDd.a).mono ?_
          rintro e y1 ⟨ua, rfl, hra, hb1⟩
          have hD1 := hDd.next hb1
          have c51 : y1.cell? ⟨Bw, 5, none⟩ = some (.slice ps sc.length cs) := (hb1.cell (World.block_lt_of_cell? y0 _ c5d)).trans c5d
          refine hK.out _ _ c51 (fun hHeld => ?_)
          clear hK K
          try simp only [Act.put, List.getElem_toArray, List.getElem_cons_zero, List.getElem_cons_succ, List.setIfInBounds_toArray, List.set_cons_zero, List.set_cons_succ]
          refine wpAnyH_ready (rs := [3]) (by kernel_rfl) (by simp) ?_
          refine AllReadyH.cons rfl (fun K hK => ?_) AllReadyH.nil
          rw [if_pos (by rfl)]
          go_simp
          refine (wdone_any (Bw + 3) (Bw + 2) vb _ HLN.out.2.1 y1 hD1.b).mono ?_
          rintro e y2 ⟨ub, rfl, hrb, hb2⟩
          have hD2 := hD1.next hb2
          have c52 : y2.cell? ⟨Bw, 5, none⟩ = some (.slice ps sc.length cs) := (hb2.cell (World.block_lt_of_cell? y1 _ c51)).trans c51
          refine hK.out _ _ c52 (fun hHeld => ?_)
          clear hK K
          try simp only [Act.put, List.getElem_toArray, List.getElem_cons_zero, List.getElem_cons_succ, List.setIfInBounds_toArray, List.set_cons_zero, List.set_cons_succ]
          have hra2 := hra.below hb2
          obtain ⟨pa, ca, hea⟩ := own_val hra2
          obtain ⟨pb, cb, heb⟩ := own_val hrb
          subst hea heb
          have hbW := hD2.below
          rw [HBW.out] at hbW
          obtain ⟨y3, hy3⟩ : ∃ y3, y2.alloc (.cells #[.slice pa LA.length ca, .slice ps sc.length cs, .slice pb LB.length cb] 23) = y3 := ⟨_, rfl⟩
          have hb3 : Below y2.heap.size y2 y3 := by rw [← hy3]; exact (Below.refl _ _).alloc (Nat.le_refl _) _
          have hn3 : y3.heap[y2.heap.size]? = some (.cells #[.slice pa LA.length ca, .slice ps sc.length cs, .slice pb LB.length cb] 23 (0, 0)) := by rw [← hy3]; exact heap_alloc_new _ _
          have hbW3 := hbW.trans (hb3.mono hbW.size)
          have c53 : y3.cell? ⟨Bw, 5, none⟩ = some (.slice ps sc.length cs) := (hb3.cell (World.block_lt_of_cell? y2 _ c52)).trans c52
          have hPs : Parts y3 (some ⟨y2.heap.size, 0, none⟩) [LA, sc, LB] := fun i l hi => by
            obtain ⟨m1, m2, m3⟩ := HLN.out
            have hm : ∀ n, n ≤ room → n ≤ maxLen := fun n h => by unfold room at h; unfold maxLen; omega
            match i, hi with
            | 0, hi => simp at hi; subst hi; exact ⟨_, pa, ca, rfl, cell_of_any _ _ 0 _ _ _ hn3, by obtain ⟨q, c', e, h⟩ := (hra2.below hb3).sl.ex; simp only [Value.slice.injEq] at e; rw [e.1]; exact h, hm _ m1⟩
            | 1, hi => simp at hi; subst hi; exact ⟨_, ps, cs, rfl, cell_of_any _ _ 1 _ _ _ hn3, by obtain ⟨q, c', e, h⟩ := (HSC.out.below (hbW3)).ex; simp only [Value.slice.injEq] at e; rw [e.1]; exact h, m3⟩
            | 2, hi => simp at hi; subst hi; exact ⟨_, pb, cb, rfl, cell_of_any _ _ 2 _ _ _ hn3, by obtain ⟨q, c', e, h⟩ := (hrb.below hb3).sl.ex; simp only [Value.slice.injEq] at e; rw [e.1]; exact h, hm _ m2⟩
            | j + 3, hi => simp at hi
          have hsum := sum_any (some ⟨y2.heap.size, 0, none⟩) 3 [LA, sc, LB] (by unfold maxLen; simp) y3 hPs (tab_bel HTB.out hbW3)
          have hfl : [LA, sc, LB].flatten = dgB z0 z1 z2 z3 z4 sc ts := by simp only [List.flatten_cons, List.flatten_nil, List.append_nil]; rw [← HLA.out, ← HLB.out, HNS.out]; rfl
          rw [hfl] at hsum
          refine wpAnyH_ready (rs := [4]) (by kernel_rfl) (by simp) ?_
          refine AllReadyH.cons rfl (fun K hK => ?_) AllReadyH.nil
          go_simp
          try rw [hy3]
          refine hK.out _ _ c53 (fun hHeld => ?_)
          clear hK K
          try simp only [Act.put, List.getElem_toArray, List.getElem_cons_zero, List.getElem_cons_succ, List.setIfInBounds_toArray, List.set_cons_zero, List.set_cons_succ]
          refine wpAnyH_ready (rs := [5]) (by kernel_rfl) (by simp) ?_
          refine AllReadyH.cons rfl (fun K hK => ?_) AllReadyH.nil
          rw [if_pos (by rfl)]
          go_simp
          refine (hsum).mono ?_
          rintro e y4 ⟨rfl, rfl⟩
          refine hK.out _ _ c53 (fun hHeld => ?_)
          clear hK K
          try simp only [Act.put, List.getElem_toArray, List.getElem_cons_zero, List.getElem_cons_succ, List.setIfInBounds_toArray, List.set_cons_zero, List.set_cons_succ]
          refine wpAnyH_take (i := 6) (v := ?_) rfl (by kernel_rfl) (by kernel_rfl) (by kernel_rfl) (fun c a w h => h) (Or.inl ⟨by rfl, ?_⟩) hHeld ?_
          rotate_left
          · (intro w hSw; (try dsimp only at hSw); go_simp; try with_reducible rfl)
          simp only [Act.put, List.getElem_toArray, List.getElem_cons_zero, List.getElem_cons_succ, List.setIfInBounds_toArray, List.set_cons_zero, List.set_cons_succ]
          refine wpAnyH_done (by kernel_rfl) ?_ _
          have HE := hid hbW3
          clear hHeld hsum hPs hbW3 c53 hn3 hb3 hbW hra2 hrb hra hD1 hD2 hDd c51 c52 c5d hb1 hb2
          go_wp2
          go_ret
          exact ⟨rfl, HE.out⟩
end Go.Proofs.YtlljelfplffglabDoor.H
