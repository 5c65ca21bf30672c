import Derived.Test.YteldjmecomngeaaGreatG9
import Derived.Deep.DeepCutAuto
import Derived.Deep.QuietTactic
import Derived.Test.YteldjmecomngeaaGreatRows
import Derived.ProofKit
import Derived.OpenShut
import Derived.LaidMore
import Derived.Deep.DeepHandedRow
import Derived.Lib.LaidTab
import Derived.ChangeOld
import Derived.Below
import Derived.WalkKit
import Derived.Deep.Slices
import Derived.Deep.SlicePairs
import Derived.SizedLaws
/-! VmAsOne. -/
namespace Go.Proofs.YteldjmecomngeaaGreat.V
open Go.RowKit
open Go.Proofs
set_option linter.unusedVariables false
set_option linter.unusedSimpArgs false
set_option maxHeartbeats 40000000
set_option maxRecDepth 100000
theorem ml3072' : 3072 ≤ maxLen := by unfold maxLen; omega
theorem fresh_mono' {n m g bd br bm : Nat} {kv : Value} {F : Nat → Prop} (h : Fresh n g bd br bm kv F) (k : m ≤ n) : Fresh m g bd br bm kv F :=
  ⟨Nat.le_trans k h.g, Nat.le_trans k h.d, Nat.le_trans k h.r, fun i e => Nat.le_trans k (h.k i e), fun i e => Nat.le_trans k (h.f i e)⟩
/-- Has the last one been yield? -/
def yv (u : VS) : Nat → Bool
  | 0 => false
  | j + 1 => (look (it j u 0).1).op == 10
theorem yv_no {u : VS} {N : Nat} (h : ∀ i, i + 1 < N → (look (it i u 0).1).op ≠ 10) (j : Nat) (hj : j < N) : yv u j = false := by
  cases j with
  | zero => rfl
  | succ j => exact beq_eq_false_iff_ne.mpr (h j hj)
theorem yv_no' {u : VS} {N : Nat} (h : ∀ i, i < N → (look (it i u 0).1).op ≠ 10) : yv u N = false := by
  cases N with
  | zero => rfl
  | succ j => exact beq_eq_false_iff_ne.mpr (h j (by omega))
theorem yv_yes {u : VS} {N : Nat} (h0 : 0 < N) (h : (look (it (N - 1) u 0).1).op = 10) : yv u N = true := by
  cases N with
  | zero => omega
  | succ j => exact beq_iff_eq.mpr h
theorem a_tn {j N : Nat} (h : j < N) (k : (N : Int) ≤ 16384) : 0 + 3 * j ≤ 60000 := by omega
theorem a_w2 {j N : Nat} (h : j < N) (k : (N : Int) ≤ 16384) : wrap64 ((j : Int) + 1) = ((j + 1 : Nat) : Int) := by simp [wrap64]; omega
theorem a_w3 {j n : Nat} (h : j < n) (k : n ≤ 70000) : wrap64 ((j : Int) + 1) = ((j + 1 : Nat) : Int) := by simp [wrap64]; omega
theorem a_f2 {j N : Nat} {s r : Int} (h1 : 0 + (j : Int) ≤ s ∧ s ≤ 0 + 4 * (j : Int)) (hr : 1 ≤ r ∧ r ≤ 4) (h : j < N) (k : (N : Int) ≤ 16384) : wrap64 (s + r) = s + r := by simp [wrap64]; omega
theorem prC_op (op : Nat) (h : 1 ≤ op) : prC op = #[.int .i64 (op : Int), .string (P.nm op), .int .i64 (P.ri op), .int .i64 (P.ro op), .int .i64 (P.rc op), .bool (P.rb op)] := by unfold prC; rw [if_neg (by omega)]
theorem prV_op (op : Nat) (h : 1 ≤ op) : prV op = .agg #[.int .i64 (op : Int), .string (P.nm op), .int .i64 (P.ri op), .int .i64 (P.ro op), .int .i64 (P.rc op), .bool (P.rb op)] := by unfold prV; rw [if_neg (by omega)]; rfl
theorem prV_0 : prV 0 = .agg #[.int .i64 0, .string { data := #[] }, .int .i64 0, .int .i64 0, .int .i64 0, .bool false] := rfl
/-- How the twin and the machine stand behind the steps. -/
theorem end_no {u0 : VS} {B sN : Int} {N : Nat} {uu xN : VS} (hend : (0 < N ∧ (look (it (N - 1) u0 0).1).op = 10 ∧ uu = xN) ∨ (endI B xN sN uu ∧ ∀ i, i < N → (look (it i u0 0).1).op ≠ 10)) (hb : ¬ (yv u0 N = false ∧ 0 < B - sN ∧ xN.st = 1)) : uu = xN := by
  rcases hend with ⟨_, _, h⟩ | ⟨h, hy⟩
  · exact h
  · rcases h with ⟨h, _⟩ | ⟨h1, h2, _⟩ | ⟨h1, h2, _⟩
    · exact h
    · exact absurd ⟨yv_no' hy, by omega, h1⟩ hb
    · exact absurd ⟨yv_no' hy, by omega, h1⟩ hb
theorem end_yes {u0 : VS} {B sN : Int} {N : Nat} {uu xN : VS} (hend : (0 < N ∧ (look (it (N - 1) u0 0).1).op = 10 ∧ uu = xN) ∨ (endI B xN sN uu ∧ ∀ i, i < N → (look (it i u0 0).1).op ≠ 10)) (hb : yv u0 N = false ∧ 0 < B - sN ∧ xN.st = 1) :
    ((look xN).f = 0 ∧ 1 ≤ (look xN).op ∧ B - sN < P.rc (look xN).op ∧ uu = xN) ∨ ((look xN).f ≠ 0 ∧ (look xN).op = 0 ∧ step xN = (false, uu)) ∨ ((look xN).f = 0 ∧ 1 ≤ (look xN).op ∧ P.rc (look xN).op ≤ B - sN ∧ ∃ y, step xN = (false, y) ∧ y.st = 3 ∧ uu = cyc sN y) := by
  obtain ⟨b1, b2, b3⟩ := hb
  rcases hend with ⟨h0, h, _⟩ | ⟨h, hy⟩
  · rw [yv_yes h0 h] at b1; cases b1
  · rcases h with ⟨h, h1 | h1 | ⟨h1, h2⟩⟩ | ⟨h1, h2, h3, h4⟩ | ⟨h1, h2, h3, h4, h5, h6⟩
    · exact absurd b3 h1
    · omega
    · exact .inl ⟨h1, (look_ok xN b3 h1).1, h2, h⟩
    · exact .inr (.inl ⟨h3, look_no xN h3, by rw [step_no xN h1 h3, h4]⟩)
    · exact .inr (.inr ⟨h3, (look_ok xN b3 h3).1, h4, _, step_bad xN sN h1 h3 h5, rfl, h6⟩)
/-- What stands ahead of each frame. -/
structure OT (w wr : World) (g bd br bm g' bd' br' bm' : Nat) (kv : Value) (F G : Nat → Prop) (u x : VS) : Prop where
  tw : TW w.heap.size wr g bd br bm g' bd' br' bm' kv F G u x
  bl : Below w.heap.size w wr
  cy : ∃ s, u = cyc s x
theorem OT.first {w w3 w4 : World} {n g bd br bm g' bd' br' bm' : Nat} {kv : Value} {F G : Nat → Prop} {u : VS} (hM : MV w3 g bd br bm kv F u) (hf : Fresh n g bd br bm kv F) (hn : w.heap.size ≤ n) (hB : Below w.heap.size w w3) (hT : MV w4 g' bd' br' bm' kv G u) (hT' : w3.heap.size ≤ g' ∧ w3.heap.size ≤ bd' ∧ w3.heap.size ≤ br' ∧ ∀ k, G k → w3.heap.size ≤ k) (h4 : Below w3.heap.size w3 w4) : OT w w4 g bd br bm g' bd' br' bm' kv F G u u := by
  obtain ⟨t1, t2, t3, t4⟩ := hT'
  have s := hB.size
  have hf' := fresh_mono' hf hn
  refine ⟨⟨hM.below h4, hT, fun k e f => ?_, hf', ⟨by omega, by omega, by omega, hf'.k, fun i e => by have := t4 i e; omega⟩, Nat.le_trans s h4.size⟩, trB hB h4 s, ⟨u.m.cyc, cyc_self u⟩⟩
  have := hM.tv_lt k e
  rcases f with rfl | rfl | rfl | f
  · omega
  · omega
  · omega
  · have := t4 k f; omega
theorem KI.out {w wo wc : World} {lo g bd br bm g' bd' br' bm' : Nat} {kv : Value} {F G : Nat → Prop} {u x : VS} (h : KI w wo wc lo g bd br bm g' bd' br' bm' kv F G u x) (s : Int) (e : u = cyc s x) : OT w wc g bd br bm g' bd' br' bm' kv F G u x := ⟨h.tw, h.bl, s, e⟩
theorem field_st (W : World) (pc st fa : Int) (p q : Option Addr) (n m c d : Nat) : (Instr.field 46 (.agg #[.int .u16 pc, .int .i64 st, .int .i64 fa, .slice p n c, .slice q m d]) 1).run Tryz.prog W = .ok (.int .i64 st) W := by
  simp [Instr.field, run_underlying Tryz.underlying46, Value.cells, Tryz.sizeOf23, Tryz.sizeOf35, go_sem, asAgg]
theorem slU {W : World} {B : Nat} {p : Option Addr} {c : Nat} {l : List Int} (h : S.RowU W B (.slice p l.length c) l) : S.Sl S.eU 1 W p l := by
  obtain ⟨p', c', e, _, k⟩ := h.ls.ex
  cases e
  exact k
theorem slK {W : World} {B : Nat} {p : Option Addr} {c : Nat} {l : List (Int × Int)} (h : S.RowK W B (.slice p l.length c) l) : S.Sl S.eK 2 W p l := by
  obtain ⟨p', c', e, _, k⟩ := (S.own_sl S.hK h).ex
  cases e
  exact k
theorem tc_get : ∀ (l : List (Int × Int × Int)) (k : Nat) (t : Int × Int × Int), l[k]? = some t → (M.tc l)[k * 3]? = some (.int .i64 t.1) ∧ (M.tc l)[k * 3 + 1]? = some (.int .u16 t.2.1) ∧ (M.tc l)[k * 3 + 2]? = some (.int .u8 t.2.2)
  | [], k, t, h => by simp at h
  | a :: l, 0, t, h => by simp at h; subst h; simp [M.tc, M.tcell]
  | a :: l, k + 1, t, h => by
    have := tc_get l k t (by simpa using h)
    rw [show (k + 1) * 3 = k * 3 + 3 by omega, show k * 3 + 3 + 1 = k * 3 + 1 + 3 by omega, show k * 3 + 3 + 2 = k * 3 + 2 + 3 by omega]
    simpa [M.tc, M.tcell] using this
theorem trow_get {w : World} {B : Nat} {p : Option Addr} {c : Nat} {l : List (Int × Int × Int)} (h : M.TRow w B (.slice p l.length c) l) (k : Nat) (t : Int × Int × Int) (hk : l[k]? = some t) : ∃ b o, p = some ⟨b, o, none⟩ ∧ w.cell? ⟨b, o + k * 3, none⟩ = some (.int .i64 t.1) ∧ w.cell? ⟨b, o + k * 3 + 1, none⟩ = some (.int .u16 t.2.1) ∧ w.cell? ⟨b, o + k * 3 + 2, none⟩ = some (.int .u8 t.2.2) := by
  rcases h.2 with ⟨e, h0⟩ | ⟨g, cap, cur, e, _⟩
  · have := (List.getElem?_eq_some_iff.1 hk).1; omega
  · cases e
    obtain ⟨e1, e2, e3⟩ := tc_get l k t hk
    have c1 := World.ownsRow.cells h (g := g) rfl _ _ e1
    have c2 := World.ownsRow.cells h (g := g) rfl _ _ e2
    have c3 := World.ownsRow.cells h (g := g) rfl _ _ e3
    rw [Addr.add_lit] at c1 c2 c3
    exact ⟨g, 0, rfl, c1, by rw [← Nat.add_assoc] at c2; exact c2, by rw [← Nat.add_assoc] at c3; exact c3⟩
theorem state_as (g bd br bm : Nat) (kv : Value) (F : Nat → Prop) (u y : VS) (s : Int) (e : u = cyc s y) (w : World) (h : MV w g bd br bm kv F u) :
    Calls Tryz.prog 14 #[.pointer (some ⟨g, 0, none⟩)] w fun e w' => ∃ p1 c1 p2 c2, e = .returned (StV y (.slice p1 y.D.length c1) (.slice p2 y.R.length c2)) ∧ S.RowU w' w.heap.size (.slice p1 y.D.length c1) y.D ∧ S.RowK w' w.heap.size (.slice p2 y.R.length c2) y.R ∧ Below w.heap.size w w' := by
  subst e
  exact state_any g bd br bm kv F (cyc s y) w h
theorem tones_cyc {u y : VS} {s : Int} (e : u = cyc s y) : u.m.tones = y.m.tones := by rw [e]; rfl
theorem below_drew (W : World) : Below W.heap.size W W.drew := ⟨rfl, rfl, rfl, Nat.le_refl _, fun _ _ => rfl⟩
theorem sizeT : (Tryz.prog.info? 66).map (·.size) = some 3 := by kernel_rfl
theorem neq_tone (W : World) (a b c : Int) : (binOp .neq 66 (.agg #[.int .i64 a, .int .u16 b, .int .u8 c]) (.agg #[.int .i64 a, .int .u16 b, .int .u8 c])).run Tryz.prog W = .ok (.bool false) W := by
  have hs : Tryz.prog.underlying 66 = some (.struct (Tryz.prog.fieldsOf 66)) := by kernel_rfl
  have hf : Tryz.prog.fieldsOf 66 = #[⟨ "Cycle", 3, 0, false, "", "", 0⟩, ⟨ "Pitch", 23, 1, false, "", "", 8⟩, ⟨ "Volume", 5, 2, false, "", "", 10⟩] := by kernel_rfl
  have hp : Tryz.prog.stoodInHeld 66 = false := by kernel_rfl
  have k1 : Tryz.prog.cellsOf 23 = 1 := by kernel_rfl
  have k2 : Tryz.prog.cellsOf 3 = 1 := by kernel_rfl
  have k3 : Tryz.prog.cellsOf 5 = 1 := by kernel_rfl
  rw [run_neq_struct, run_equalIn_agg W 9999 _ _ _ hs hp, hf]
  simp [go_sem, Tryz.underlying23, Tryz.underlying3, Tryz.underlying5, k1, k2, k3, Result.andThen]
theorem asone_walk (v : Value) (c : T.Ct) (ep : Option Addr) (ec : Nat) (bp : Option Addr) (bc : Nat) (kv : Value) (pp : Option Addr) (pcap : Nat) (ps : List UInt8) (zp : Option Addr) (zc : Nat) (zs : List Int) (w : World) (h : T.IsC w v c ep ec bp bc kv) (hn : ep = none → ec = 0) (hp : M.Sl w (.slice pp ps.length pcap) ps) (hz : Is w zp zs) :
    Calls Tryz.prog 5 #[v, .slice pp ps.length pcap, .slice zp zs.length zc] w fun e w' => e = .returned (.bool true) ∧ Below w.heap.size w w' := by
  have hv := h.val
  obtain ⟨kp, kc, hk, _⟩ := h.code.ex
  subst hk
  subst hv
  have hcvv : T.cv (.slice kp c.code.length kc) c.entry ep c.effs.length ec bp c.banks.length bc = .agg #[.slice kp c.code.length kc, .int .u16 (c.entry : Int), .slice ep c.effs.length ec, .slice bp c.banks.length bc] := rfl
  have hb := P.bel_alloc w (.cells #[.slice kp c.code.length kc, .int .u16 (c.entry : Int), .slice ep c.effs.length ec, .slice bp c.banks.length bc] 27)
  have hzz := heap_alloc_new w (.cells #[.slice kp c.code.length kc, .int .u16 (c.entry : Int), .slice ep c.effs.length ec, .slice bp c.banks.length bc] 27)
  have k1 := ownCart_any _ c ep ec bp bc _ _ (h.below hb) hn
  rw [hcvv] at k1
  unfold T.cv
  have HB := S.hid hb
  have HP := S.hid hp
  have HQ := S.hid hz
  have na := awake_any
  clear h hb hcvv hp hz
  go_enter Tryz.func5, Tryz.ntmps5
  go_wp2_with (refine wpList_load_row rfl 27 _ rfl w.heap.size rfl 27 _ (0, 0) _ hzz Tryz.underlying27 rfl (by exact size27) ?_)
  refine k1.mono ?_
  rintro e w1 ⟨v', ep', ec', bp', bc', kv', rfl, hI, h1⟩
  have HB1 := S.hid (trB HB.out h1 HB.out.size)
  clear k1 h1 hzz
  by_cases hm : T.may c = true
  case neg =>
    have k2 := new_no v' c ep' ec' bp' bc' kv' w1 hI (by simpa using hm)
    go_wp2_with fail
    refine k2.mono ?_
    rintro e w2 ⟨rfl, h2⟩
    have HB2 := S.hid (trB HB1.out h2 HB1.out.size)
    clear k2 h2 hI
    go_wp2_with (first | (go_at_call 11; refine (na _).mono ?_; rintro e we ⟨rfl, he⟩))
    go_ret
    exact ⟨rfl, trB HB2.out he HB2.out.size⟩
  have k2 := new_yes v' c ep' ec' bp' bc' kv' w1 hI hm
  go_wp2_with fail
  refine k2.mono ?_
  rintro e w2 ⟨g, bd, br, bm, ku, F, rfl, hM, hF, h2⟩
  have HB2 := S.hid (trB HB1.out h2 HB1.out.size)
  have HM := S.hid hM
  have HF := S.hid hF
  have h01 : w.heap.size ≤ w1.heap.size := HB1.out.size
  clear k2 h2 hI hM hF
  go_wp2_with (first | (go_at_call 11; refine (na _).mono ?_; rintro e w3 ⟨rfl, h3⟩))
  have hMc := HM.out.below h3
  have kc := copy_any g bd br bm ku F (born c) rfl (by simp [born, M.m0]) w3 hMc
  have HM3 := S.hid hMc
  have HB3 := S.hid (trB HB2.out h3 HB2.out.size)
  clear HB1 HB2 HM h3 na hm HB hMc
  go_wp2_with fail
  refine kc.mono ?_
  rintro e w4 ⟨g', bd', br', bm', G, rfl, hT, hT', h4⟩
  have HI := S.hid (OT.first HM3.out HF.out h01 HB3.out hT hT' h4)
  clear HM3 HF HB3 kc hT hT' h4 h01
  go_wp2
  go_loopw [10] (fun i wr => ∃ (k : Nat) (F' G' : Nat → Prop) (u x : VS), k ≤ 12 ∧ i = .int .i64 (k : Int) ∧ OT w wr g bd br bm g' bd' br' bm' ku F' G' u x) (fun i _ => 12 - (intOf i).toNat)
  case atStart => exact ⟨0, F, G, born c, born c, by omega, rfl, HI.out⟩
  case round =>
    clear HI
    obtain ⟨k, F', G', u, x, hk, rfl, I⟩ := hrel
    have w1' : wrap64 ((k : Int) + 1) = ((k + 1 : Nat) : Int) := by simp [wrap64]; omega
    by_cases hk1 : k < ps.length
    case neg =>
      have d1 : decide ((k : Int) < (ps.length : Int)) = false := decide_eq_false (by omega)
      have HBe := S.hid I.bl
      clear I HP HQ
      go_wp2
      go_ret
      exact ⟨rfl, HBe.out⟩
    have d1 : decide ((k : Int) < (ps.length : Int)) = true := decide_eq_true (by omega)
    by_cases hk2 : k < zs.length
    case neg =>
      have d2 : decide ((k : Int) < (zs.length : Int)) = false := decide_eq_false (by omega)
      have HBe := S.hid I.bl
      clear I HP HQ
      go_wp2
      go_ret
      exact ⟨rfl, HBe.out⟩
    have d2 : decide ((k : Int) < (zs.length : Int)) = true := decide_eq_true (by omega)
    by_cases hk12 : k < 12
    case neg =>
      have d3 : decide ((k : Int) < 12) = false := decide_eq_false (by omega)
      have HBe := S.hid I.bl
      clear I HP HQ
      go_wp2
      go_ret
      exact ⟨rfl, HBe.out⟩
    have d3 : decide ((k : Int) < 12) = true := decide_eq_true (by omega)
    have i1 : (k : Int) < (ps.length : Int) := by omega
    have i2 : (k : Int) < (zs.length : Int) := by omega
    obtain ⟨zb, zo, rfl, ez⟩ := (HQ.out.below rfl I.bl) k zs[k] (List.getElem?_eq_getElem hk2)
    obtain ⟨pp', cc', epp, hbs⟩ := HP.out.ex
    cases epp
    obtain ⟨px, hpx, epw⟩ := hbs.at k ps[k] (List.getElem?_eq_getElem hk1)
    subst hpx
    have epx := T.below_cell I.bl _ _ epw
    have HEP := S.hid epw
    clear epw
    generalize zs[k] = z at *
    generalize ps[k] = pad at *
    have kb := budget_any z wr
    obtain ⟨b0, b1⟩ := bud_r z
    have k3 := frame_any pad (bud z) b0 b1 g bd br bm ku F' u wr I.tw.a
    obtain ⟨sx, hux⟩ := I.cy
    have hfr : frame u (pad.toNat : Int) (bud z) = wk (bud z).toNat (bud z) { x with m := M.bg x.m (pad.toNat : Int) } 0 0 := by rw [hux]; rfl
    have hrr := wk_r (bud z) (bud z).toNat { x with m := M.bg x.m (pad.toNat : Int) } 0 0 (by omega)
    obtain ⟨N, hN1, hN2, hN3, hN4, hN5⟩ := wk_it (bud z) (bud z).toNat { x with m := M.bg x.m (pad.toNat : Int) } 0 0 (by omega)
    have hit := it_tones N { x with m := M.bg x.m (pad.toNat : Int) } 0
    rw [← hfr] at hrr hN1 hN2 hN5
    have htn := wk_tones (bud z) (bud z).toNat { x with m := M.bg x.m (pad.toNat : Int) } 0 0
    rw [← hfr] at htn
    have htz : ({ x with m := M.bg x.m (pad.toNat : Int) } : VS).m.tones.length = 0 := rfl
    rw [htz] at htn
    obtain ⟨r, hr⟩ : ∃ r, r = frame u (pad.toNat : Int) (bud z) := ⟨_, rfl⟩
    rw [← hr] at hrr hN1 hN2 hN5 k3 htn
    obtain ⟨u0, hu0⟩ : ∃ u0 : VS, u0 = { x with m := M.bg x.m (pad.toNat : Int) } := ⟨_, rfl⟩
    rw [← hu0] at hN2 hN3 hN4 hN5 hit
    have ht0 : u0.m.tones.length = 0 := by rw [hu0]; rfl
    obtain ⟨B, hB⟩ : ∃ B, B = bud z := ⟨_, rfl⟩
    rw [← hB] at k3 kb b0 b1 hrr hN5
    clear hfr hr
    have htl : r.v.m.tones.length ≤ 60000 := by omega
    clear hB htn htz
    obtain ⟨uu, n, s⟩ := r
    simp only [Int.sub_zero, Int.zero_add] at k3 hrr hN1 hN2 hN5 htl
    obtain ⟨n0, n1, n2, n3⟩ := hrr
    obtain ⟨sN, hsN⟩ : ∃ sN, sN = (it N u0 0).2 := ⟨_, rfl⟩
    rw [← hsN] at hN2 hN5
    subst hN1 hN2
    have hNB : (N : Int) ≤ 16384 := by omega
    unfold OutV at k3
    simp only at k3
    have HII := S.hid I
    have HOK := S.hid hN3
    have HNY := S.hid hN4
    have HEND := S.hid hN5
    have HU0 := S.hid hu0
    have HSN := S.hid hsN
    have HT0 := S.hid ht0
    have HSB := S.hid (show 0 ≤ s ∧ s ≤ B ∧ B ≤ 16384 from ⟨by omega, n3, b1⟩)
    clear b0 HP HQ hbs n0 n1 n2 n3 I hN3 hN4 hN5 hk hk1 hk2 hu0 hsN ht0 hit b1 hux
    go_wp2_with (first | (go_at_call 12; refine kb.mono ?_; rintro e wb ⟨rfl, hwb⟩; obtain rfl := hwb.symm))
    refine k3.mono ?_
    rintro e w1 ⟨p1, c1, p2, c2, rfl, hrw, htr, hV⟩
    have hscr : uu.m.scr.length = 3072 := hV.s.ps.m.wf.scr
    obtain ⟨z3, r3, b3⟩ := mkRow w1 #[.int .i64 0, .int .i64 0, .int .i64 0, .int .i64 0, .int .i64 0, .slice none 0 0, .slice none 0 0] #[.int .i64 uu.st, .int .i64 uu.fa, .int .i64 (N : Int), .int .i64 s, .int .i64 (B - s), .slice p1 3072 c1, .slice p2 uu.m.tones.length c2] 39
    have hKI := KI.first HII.out.tw HII.out.bl hV b3
    have HTR := S.hid (S.own_kept htr fun i e hi => b3.block i hi)
    have HRW := S.hid (S.own_kept hrw fun i e hi => b3.block i hi)
    have HSC := S.hid hscr
    have HL0 := S.hid (show wr.heap.size ≤ w1.heap.size from hV.t.size)
    have hso : ((w1.alloc (.cells #[.int .i64 0, .int .i64 0, .int .i64 0, .int .i64 0, .int .i64 0, .slice none 0 0, .slice none 0 0] 39)).setRow w1.heap.size #[.int .i64 uu.st, .int .i64 uu.fa, .int .i64 (N : Int), .int .i64 s, .int .i64 (B - s), .slice p1 3072 c1, .slice p2 uu.m.tones.length c2]).heap.size = w1.heap.size + 1 := by rw [setRow_size]; simp
    rw [hscr]
    clear k3 kb hrw hV ez hscr b3 htr HII
    go_wp2_with (refine wpList_store_row rfl 39 _ _ rfl w1.heap.size _ rfl rfl 39 #[.int .i64 0, .int .i64 0, .int .i64 0, .int .i64 0, .int .i64 0, .slice none 0 0, .slice none 0 0] z3 (by exact size39) (by rfl) (by simp [Value.oneCell']) ?_)
    generalize hwo : ((w1.alloc (.cells #[.int .i64 0, .int .i64 0, .int .i64 0, .int .i64 0, .int .i64 0, .slice none 0 0, .slice none 0 0] 39)).setRow w1.heap.size #[.int .i64 uu.st, .int .i64 uu.fa, .int .i64 (N : Int), .int .i64 s, .int .i64 (B - s), .slice p1 3072 c1, .slice p2 uu.m.tones.length c2]) = wo at *
    clear hwo z3
    generalize hF1 : M.gr F' wr w1 = F1 at *
    clear hF1
    have HR3 := S.hid r3
    have HLo := S.hid (show w1.heap.size < wo.heap.size by omega)
    clear epx r3 hso
    have HKI := S.hid hKI
    clear hKI
    have hKd := HKI.out.below (w2 := wo.drew) ⟨rfl, rfl, rfl, Nat.le_refl _, fun _ _ => rfl⟩
    have km := memory_any g' bd' br' bm' ku G' x wo.drew hKd.tw.b
    have kg := M.begin_any bm' pad wo.drew hKd.tw.b.ps.m
    have s0 : (fun w' : World => w'.cell? (px.add k) = some (.int .u8 (pad.toNat : Int))) wo.drew := T.below_cell hKd.bl _ _ HEP.out
    have HKd := S.hid hKd
    clear hKd
    refine wp_region_held_drew (S := (fun w' => w'.cell? (px.add k) = some (.int .u8 (pad.toNat : Int)))) (by kernel_rfl) s0 (fun hHeld => ?_)
    refine wpAnyH_take (i := 0) (v := ?_) rfl (by kernel_rfl) (by kernel_rfl) (by kernel_rfl) (fun c a w h => h) (Or.inl ⟨by rfl, ?_⟩) hHeld ?_
    rotate_left
    · (intro w hSw; (try dsimp only at hSw); go_simp; try with_reducible rfl)
    simp only [Act.put, List.getElem_toArray, List.getElem_cons_zero, List.getElem_cons_succ, List.setIfInBounds_toArray, List.set_cons_zero, List.set_cons_succ]
    refine wpAnyH_take (i := 2) (v := ?_) rfl (by kernel_rfl) (by kernel_rfl) (by kernel_rfl) (fun c a w h => h) (Or.inl ⟨by rfl, ?_⟩) hHeld ?_
    rotate_left
    · (intro w hSw; (try dsimp only at hSw); go_simp; try with_reducible rfl)
    simp only [Act.put, List.getElem_toArray, List.getElem_cons_zero, List.getElem_cons_succ, List.setIfInBounds_toArray, List.set_cons_zero, List.set_cons_succ]
    refine wpAnyH_take (i := 3) (v := ?_) rfl (by kernel_rfl) (by kernel_rfl) (by kernel_rfl) (fun c a w h => h) (Or.inl ⟨by rfl, ?_⟩) hHeld ?_
    rotate_left
    · (intro w hSw; (try dsimp only at hSw); go_simp; try with_reducible rfl)
    simp only [Act.put, List.getElem_toArray, List.getElem_cons_zero, List.getElem_cons_succ, List.setIfInBounds_toArray, List.set_cons_zero, List.set_cons_succ]
    refine wpAnyH_take (i := 4) (v := ?_) rfl (by kernel_rfl) (by kernel_rfl) (by kernel_rfl) (fun c a w h => h) (Or.inl ⟨by rfl, ?_⟩) hHeld ?_
    rotate_left
    · (intro w hSw; (try dsimp only at hSw); go_simp; try with_reducible rfl)
    simp only [Act.put, List.getElem_toArray, List.getElem_cons_zero, List.getElem_cons_succ, List.setIfInBounds_toArray, List.set_cons_zero, List.set_cons_succ]
    refine wpAnyH_take (i := 5) (v := ?_) rfl (by kernel_rfl) (by kernel_rfl) (by kernel_rfl) (fun c a w h => h) (Or.inl ⟨by rfl, ?_⟩) hHeld ?_
    rotate_left
    · (intro w hSw; (try dsimp only at hSw); go_simp; try with_reducible rfl)
    simp only [Act.put, List.getElem_toArray, List.getElem_cons_zero, List.getElem_cons_succ, List.setIfInBounds_toArray, List.set_cons_zero, List.set_cons_succ]
    refine wpAnyH_ready (rs := [1]) (by kernel_rfl) (by simp) ?_
    refine AllReadyH.cons rfl (fun K hK => ?_) AllReadyH.nil
    go_simp
    refine km.mono ?_
    rintro e wm ⟨rfl, hwm⟩
    obtain rfl := hwm.symm
    refine hK.out _ _ s0 (fun hHeld => ?_)
    clear hK K
    try simp only [Act.put, List.getElem_toArray, List.getElem_cons_zero, List.getElem_cons_succ, List.setIfInBounds_toArray, List.set_cons_zero, List.set_cons_succ]
    refine wpAnyH_ready (rs := [6]) (by kernel_rfl) (by simp) ?_
    refine AllReadyH.cons rfl (fun K hK => ?_) AllReadyH.nil
    go_simp
    refine kg.mono ?_
    rintro e w2 ⟨rfl, hd⟩
    have hV2 : VD wo.drew w2 g' bd' br' bm' ku G' { x with m := M.bg x.m (pad.toNat : Int) } := HKd.out.tw.b.goes (HKd.out.tw.b.ps.mem hd) HKd.out.tw.b.wf.d HKd.out.tw.b.wf.r
    have hK2 := HKd.out.right hV2
    rw [← HU0.out] at hK2
    have HK2 := S.hid hK2
    have s2 : (fun w' : World => w'.cell? (px.add k) = some (.int .u8 (pad.toNat : Int))) w2 := T.below_cell hK2.bl _ _ HEP.out
    clear hV2 hK2 hd
    refine hK.out _ _ s2 (fun hHeld => ?_)
    clear hK K
    refine wpAnyH_done (by kernel_rfl) ?_ _
    clear km kg s0 HKd HKI
    obtain ⟨lo, hlo⟩ : ∃ lo, lo = wr.heap.size := ⟨_, rfl⟩
    rw [← hlo] at HK2 HL0 HTR HRW
    clear hlo
    go_wp2
    go_loopw [14, 15, 16] (fun sp yl kk wq => ∃ (j : Nat) (G : Nat → Prop), j ≤ N ∧ kk = .int .i64 (j : Int) ∧ sp = .int .i64 (it j u0 0).2 ∧ yl = .bool (yv u0 j) ∧ KI w wo wq lo g bd br bm g' bd' br' bm' ku F1 G uu (it j u0 0).1) (fun _ _ kk _ => N - (intOf kk).toNat)
    case atStart => exact ⟨0, _, by omega, rfl, rfl, rfl, HK2.out⟩
    case round =>
      clear HK2
      obtain ⟨j, G, hj, rfl, rfl, hyl, K⟩ := hrel
      have rO := (K.kp _ HL0.out HLo.out).trans HR3.out
      by_cases hjN : j < N
      · have hy := yv_no HNY.out j hjN
        rw [hy] at hyl
        subst hyl
        obtain ⟨o1, o2, o3⟩ := HOK.out j hjN
        have hit := it_r j u0 0
        have htn := it_tones j u0 0
        rw [HT0.out] at htn
        have es := step_it _ _ ⟨o1, o2, o3⟩
        have esu := it_succ j u0 0
        have hop := look_ok _ o1 o2
        have kl := look_any g' bd' br' bm' ku G _ wr K.tw.b
        rw [prV_op _ hop.1, o2] at kl
        have hyv : yv u0 (j + 1) = ((look (it j u0 0).1).op == 10) := rfl
        obtain ⟨xj, hxj⟩ : ∃ xj, xj = (it j u0 0).1 := ⟨_, rfl⟩
        obtain ⟨sj, hsj⟩ : ∃ sj, sj = (it j u0 0).2 := ⟨_, rfl⟩
        rw [← hxj] at o1 o2 o3 htn es esu hop kl hyv K
        rw [← hsj] at o3 hit es esu
        rw [← hsj]
        clear hxj hsj
        obtain ⟨op, hop'⟩ : ∃ op, op = (look xj).op := ⟨_, rfl⟩
        rw [← hop'] at hop kl hyv es esu o3
        clear hop'
        have HTN := S.hid (Nat.le_trans htn (a_tn hjN hNB))
        have hrc := rc_r op
        have f1 : decide (P.rc op < 1) = false := decide_eq_false (Int.not_lt.mpr hrc.1)
        have f2 : wrap64 (sj + P.rc op) = sj + P.rc op := a_f2 hit hrc hjN hNB
        have f3 : decide ((j : Int) < (N : Int)) = true := decide_eq_true (Int.ofNat_lt.mpr hjN)
        have w2' : wrap64 ((j : Int) + 1) = ((j + 1 : Nat) : Int) := a_w2 hjN hNB
        have x2 := S.cell_of _ _ 2 [.int .i64 uu.st, .int .i64 uu.fa, .int .i64 (N : Int), .int .i64 s, .int .i64 (B - s), .slice p1 3072 c1, .slice p2 uu.m.tones.length c2] _ _ rO rfl
        have HK := S.hid K
        have HES := S.hid es
        have HEU := S.hid esu
        have HYV := S.hid hyv
        have HST := S.hid o1
        generalize (look xj).x = lx at kl
        clear K es esu hyv o1 o2 o3 htn hop hrc hit rO
        go_wp2_with fail
        refine kl.mono ?_
        rintro e w5 ⟨rfl, h5⟩
        obtain ⟨z6, r6, b6⟩ := mkRow w5 #[.int .i64 0, .string { data := #[] }, .int .i64 0, .int .i64 0, .int .i64 0, .bool false] #[.int .i64 (op : Int), .string (P.nm op), .int .i64 (P.ri op), .int .i64 (P.ro op), .int .i64 (P.rc op), .bool (P.rb op)] 49
        have hK6 := HK.out.below (trB h5 b6 h5.size)
        have k4 := state_any g' bd' br' bm' ku G xj _ hK6.tw.b
        unfold StV at k4
        rw [HST.out] at k4
        have x4 := S.cell_of _ _ 4 [.int .i64 (op : Int), .string (P.nm op), .int .i64 (P.ri op), .int .i64 (P.ro op), .int .i64 (P.rc op), .bool (P.rb op)] _ _ r6 rfl
        have HR6 := S.hid r6
        have HK6 := S.hid hK6
        have HS5 := S.hid (show wr.heap.size ≤ w5.heap.size from h5.size)
        clear r6 b6 hK6 kl h5 x2 f3
        go_wp2_with (refine wpList_store_row rfl 49 _ _ rfl w5.heap.size _ rfl rfl 49 #[.int .i64 0, .string { data := #[] }, .int .i64 0, .int .i64 0, .int .i64 0, .bool false] z6 (by exact P.sizeR) (by rfl) (by simp [Value.oneCell']) ?_)
        refine k4.mono ?_
        rintro e w7 ⟨q1, d1', q2, d2', rfl, _, _, h7⟩
        have hK7 := HK6.out.below h7
        have hr7 := (h7.block _ (S.lt_of HR6.out)).trans HR6.out
        have km := memory_any g' bd' br' bm' ku G xj w7 hK7.tw.b
        have nf := field_st
        have ka := M.at_any bm' sj w7 hK7.tw.b.ps.m
        have HK7 := S.hid hK7
        have HR7 := S.hid hr7
        clear k4 h7 HK6 HR6 hK7 hr7 z6 x4 f1
        go_wp2_with fail
        refine km.mono ?_
        rintro e wm ⟨rfl, hwm⟩
        obtain rfl := hwm.symm
        go_wp2_with fail
        refine ka.mono ?_
        rintro e w8 ⟨rfl, hd⟩
        have hV8 : VD w7 w8 g' bd' br' bm' ku G (cyc sj xj) := HK7.out.tw.b.goes (HK7.out.tw.b.ps.mem hd) HK7.out.tw.b.wf.d HK7.out.tw.b.wf.r
        have ks := step_any (cyc sj xj) (Nat.le_trans HTN.out (by omega)) g' bd' br' bm' ku _ w8 hV8.s
        rw [HES.out] at ks
        have HV8 := S.hid hV8
        clear km ka hd hV8 nf
        go_wp2_with fail
        refine ks.mono ?_
        rintro e w9 ⟨rfl, h9⟩
        have hV9 := VD.trans HK7.out.tw.b HV8.out h9
        have hr9 := (hV9.other HK.out.tw.b (Nat.le_trans HS5.out (Nat.le_of_lt (S.lt_of HR7.out))) w5.heap.size HS5.out (S.lt_of HR7.out)).trans HR7.out
        have x4 := S.cell_of _ _ 4 [.int .i64 (op : Int), .string (P.nm op), .int .i64 (P.ri op), .int .i64 (P.ro op), .int .i64 (P.rc op), .bool (P.rb op)] _ _ hr9 rfl
        have HK9 := S.hid (HK7.out.right hV9)
        clear ks h9 hV9 hr9 HV8 HK7 HR7 HK HS5
        go_wp2
        go_roundw
        case rel =>
          rw [← HYV.out]
          exact ⟨j + 1, _, hjN, (by first | rfl | rw [w2']), (by rw [HEU.out, f2]), rfl, (by rw [HEU.out]; exact HK9.out)⟩
        case measure => exact msr2 N _ _ j (by first | rfl | rw [w2']) rfl hjN
      · skip
        obtain rfl : N = j := by omega
        have hit := it_tones N u0 0
        rw [HT0.out] at hit
        have HTX := S.hid (show (it N u0 0).1.m.tones.length ≤ 60000 from Nat.le_trans hit (by clear hit; omega))
        rw [← HSN.out]
        have hEND := HEND.out
        obtain ⟨xN, hxN⟩ : ∃ xN, xN = (it N u0 0).1 := ⟨_, rfl⟩
        rw [← hxN] at K HTX hEND
        have HE := S.hid hEND
        subst hyl
        have x2 := S.cell_of _ _ 2 [.int .i64 uu.st, .int .i64 uu.fa, .int .i64 (N : Int), .int .i64 s, .int .i64 (B - s), .slice p1 3072 c1, .slice p2 uu.m.tones.length c2] _ _ rO rfl
        have x3 := S.cell_of _ _ 3 [.int .i64 uu.st, .int .i64 uu.fa, .int .i64 (N : Int), .int .i64 s, .int .i64 (B - s), .slice p1 3072 c1, .slice p2 uu.m.tones.length c2] _ _ rO rfl
        have f3 : decide ((N : Int) < (N : Int)) = false := decide_eq_false (Int.lt_irrefl _)
        have HK := S.hid K
        have HRO := S.hid rO
        clear K rO hit hxN hEND HEND HOK HNY HSN
        go_upto_region 28 with fail
        try simp only [Act.put, List.setIfInBounds_toArray, List.set_cons_zero, List.set_cons_succ]
        go_cut [15, 144] (fun s15 sb wc => s15 = .bool (yv u0 N) ∧ ∃ b : Bool, sb = .bool b ∧ (b = true ↔ (yv u0 N = false ∧ 0 < B - s ∧ xN.st = 1)) ∧ KI w wo wc lo g bd br bm g' bd' br' bm' ku F1 G uu xN)
        case first =>
          as_aux_lemma =>
            have x4 := S.cell_of _ _ 4 [.int .i64 uu.st, .int .i64 uu.fa, .int .i64 (N : Int), .int .i64 s, .int .i64 (B - s), .slice p1 3072 c1, .slice p2 uu.m.tones.length c2] _ _ HRO.out rfl
            by_cases hy : yv u0 N = true
            · rw [hy]
              go_wp2
              go_meet
              case rel => exact ⟨by rw [hy], false, rfl, ⟨fun e => Bool.noConfusion e, fun e => by rw [hy] at e; exact Bool.noConfusion e.1⟩, HK.out⟩
            · have hy : yv u0 N = false := by simpa using hy
              rw [hy]
              by_cases hb : 0 < B - s
              · have f4 : decide (0 < B - s) = true := decide_eq_true hb
                have k4 := state_any g' bd' br' bm' ku G xN _ HK.out.tw.b
                unfold StV at k4
                have nf := field_st
                by_cases hst : xN.st = 1
                · rw [hst] at k4
                  go_wp2_with (first | (go_at_call 14; refine k4.mono ?_; rintro e w7 ⟨q1, d1', q2, d2', rfl, _, _, h7⟩))
                  go_meet
                  case rel => exact ⟨by rw [hy], true, rfl, ⟨fun _ => ⟨hy, hb, hst⟩, fun _ => rfl⟩, HK.out.below h7⟩
                · have f5 : (xN.st == 1) = false := beq_eq_false_iff_ne.mpr hst
                  go_wp2_with (first | (go_at_call 14; refine k4.mono ?_; rintro e w7 ⟨q1, d1', q2, d2', rfl, _, _, h7⟩))
                  go_meet
                  case rel => exact ⟨by rw [hy], false, rfl, ⟨fun e => Bool.noConfusion e, fun e => absurd e.2.2 hst⟩, HK.out.below h7⟩
              · have f4 : decide (0 < B - s) = false := decide_eq_false hb
                go_wp2
                go_meet
                case rel => exact ⟨by rw [hy], false, rfl, ⟨fun e => Bool.noConfusion e, fun e => absurd e.2.1 (Int.not_lt.mpr hb)⟩, HK.out⟩
        case rest =>
          obtain ⟨rfl, b, rfl, hb, K⟩ := hcut
          have HBB := S.hid hb
          have HK1 := S.hid K
          clear hb K HK x2 x3 f3 HRO
          go_upto_if 144 with fail
          try simp only [Act.put, List.setIfInBounds_toArray, List.set_cons_zero, List.set_cons_succ]
          go_cut [] (fun wd => ∃ (G2 : Nat → Prop) (y : VS) (s2 : Int), uu = cyc s2 y ∧ y.m.tones.length ≤ 70000 ∧ KI w wo wd lo g bd br bm g' bd' br' bm' ku F1 G2 uu y)
          case first =>
            as_aux_lemma =>
              cases b
              · have e := end_no HE.out (fun h => by have := HBB.out.mpr h; cases this)
                go_wp2
                go_meet
                case rel => exact ⟨G, xN, _, e.trans (cyc_self xN), Nat.le_trans HTX.out (by decide), HK1.out⟩
              · rcases end_yes HE.out (HBB.out.mp rfl) with ⟨e1, e2, e3, e4⟩ | ⟨e1, e2, e3⟩ | ⟨e1, e2, e3, y, e4, e5, e6⟩
                · have kl := look_any g' bd' br' bm' ku G xN _ HK1.out.tw.b
                  rw [prV_op _ e2, e1] at kl
                  generalize (look xN).op = op at *
                  have f5 : decide (P.rc op ≤ B - s) = false := decide_eq_false (Int.not_le.mpr e3)
                  generalize (look xN).x = lx at kl
                  clear HBB e1 e2 e3 HE
                  go_wp2_with fail
                  refine kl.mono ?_
                  rintro e w5 ⟨rfl, h5⟩
                  obtain ⟨z6, r6, b6⟩ := mkRow w5 #[.int .i64 0, .string { data := #[] }, .int .i64 0, .int .i64 0, .int .i64 0, .bool false] #[.int .i64 (op : Int), .string (P.nm op), .int .i64 (P.ri op), .int .i64 (P.ro op), .int .i64 (P.rc op), .bool (P.rb op)] 49
                  have hK6 := HK1.out.below (trB h5 b6 h5.size)
                  have rO := (hK6.kp _ HL0.out HLo.out).trans HR3.out
                  have x4 := S.cell_of _ _ 4 [.int .i64 uu.st, .int .i64 uu.fa, .int .i64 (N : Int), .int .i64 s, .int .i64 (B - s), .slice p1 3072 c1, .slice p2 uu.m.tones.length c2] _ _ rO rfl
                  have y4 := S.cell_of _ _ 4 [.int .i64 (op : Int), .string (P.nm op), .int .i64 (P.ri op), .int .i64 (P.ro op), .int .i64 (P.rc op), .bool (P.rb op)] _ _ r6 rfl
                  have HK6 := S.hid hK6
                  clear r6 b6 hK6 kl h5 rO
                  go_wp2_with (refine wpList_store_row rfl 49 _ _ rfl w5.heap.size _ rfl rfl 49 #[.int .i64 0, .string { data := #[] }, .int .i64 0, .int .i64 0, .int .i64 0, .bool false] z6 (by exact P.sizeR) (by rfl) (by simp [Value.oneCell']) ?_)
                  go_meet
                  case rel => exact ⟨G, xN, _, e4.trans (cyc_self xN), Nat.le_trans HTX.out (by decide), HK6.out⟩
                · have kl := look_any g' bd' br' bm' ku G xN _ HK1.out.tw.b
                  rw [e2, prV_0] at kl
                  generalize (look xN).f = lf at *
                  have f5 : (lf == 0) = false := beq_eq_false_iff_ne.mpr e1
                  have f6 : (lf != 0) = true := by simpa using e1
                  generalize (look xN).x = lx at kl
                  clear HBB e1 e2 HE
                  go_wp2_with fail
                  refine kl.mono ?_
                  rintro e w5 ⟨rfl, h5⟩
                  obtain ⟨z6, r6, b6⟩ := mkRow w5 #[.int .i64 0, .string { data := #[] }, .int .i64 0, .int .i64 0, .int .i64 0, .bool false] #[.int .i64 0, .string { data := #[] }, .int .i64 0, .int .i64 0, .int .i64 0, .bool false] 49
                  have hK6 := HK1.out.below (trB h5 b6 h5.size)
                  have ks := step_any xN (Nat.le_trans HTX.out (by decide)) g' bd' br' bm' ku _ _ hK6.tw.b
                  rw [e3] at ks
                  have HK6 := S.hid hK6
                  clear r6 b6 hK6 kl h5
                  go_wp2_with (refine wpList_store_row rfl 49 _ _ rfl w5.heap.size _ rfl rfl 49 #[.int .i64 0, .string { data := #[] }, .int .i64 0, .int .i64 0, .int .i64 0, .bool false] z6 (by exact P.sizeR) (by rfl) (by simp [Value.oneCell']) ?_)
                  refine ks.mono ?_
                  rintro e w9 ⟨rfl, h9⟩
                  have HK9 := S.hid (HK6.out.right h9)
                  clear ks h9 HK6
                  go_wp2
                  go_meet
                  case rel => exact ⟨_, uu, _, cyc_self uu, Nat.le_trans htl (by decide), HK9.out⟩
                · have kl := look_any g' bd' br' bm' ku G xN _ HK1.out.tw.b
                  rw [prV_op _ e2, e1] at kl
                  generalize (look xN).op = op at *
                  have f5 : decide (P.rc op ≤ B - s) = true := decide_eq_true e3
                  generalize (look xN).x = lx at kl
                  clear HBB e1 e2 e3 HE
                  go_wp2_with fail
                  refine kl.mono ?_
                  rintro e w5 ⟨rfl, h5⟩
                  obtain ⟨z6, r6, b6⟩ := mkRow w5 #[.int .i64 0, .string { data := #[] }, .int .i64 0, .int .i64 0, .int .i64 0, .bool false] #[.int .i64 (op : Int), .string (P.nm op), .int .i64 (P.ri op), .int .i64 (P.ro op), .int .i64 (P.rc op), .bool (P.rb op)] 49
                  have hK6 := HK1.out.below (trB h5 b6 h5.size)
                  have ks := step_any xN (Nat.le_trans HTX.out (by decide)) g' bd' br' bm' ku _ _ hK6.tw.b
                  rw [e4] at ks
                  have rO := (hK6.kp _ HL0.out HLo.out).trans HR3.out
                  have x4 := S.cell_of _ _ 4 [.int .i64 uu.st, .int .i64 uu.fa, .int .i64 (N : Int), .int .i64 s, .int .i64 (B - s), .slice p1 3072 c1, .slice p2 uu.m.tones.length c2] _ _ rO rfl
                  have y4 := S.cell_of _ _ 4 [.int .i64 (op : Int), .string (P.nm op), .int .i64 (P.ri op), .int .i64 (P.ro op), .int .i64 (P.rc op), .bool (P.rb op)] _ _ r6 rfl
                  have HK6 := S.hid hK6
                  clear r6 b6 hK6 kl h5 rO
                  go_wp2_with (refine wpList_store_row rfl 49 _ _ rfl w5.heap.size _ rfl rfl 49 #[.int .i64 0, .string { data := #[] }, .int .i64 0, .int .i64 0, .int .i64 0, .bool false] z6 (by exact P.sizeR) (by rfl) (by simp [Value.oneCell']) ?_)
                  refine ks.mono ?_
                  rintro e w9 ⟨rfl, h9⟩
                  have hK9 := HK6.out.right h9
                  have k4 := state_any g' bd' br' bm' ku _ y _ hK9.tw.b
                  unfold StV at k4
                  rw [e5] at k4
                  have nf := field_st
                  have HK9 := S.hid hK9
                  clear ks h9 HK6 hK9 x4 y4 f5 z6
                  go_wp2_with fail
                  refine k4.mono ?_
                  rintro e w7 ⟨q1, d1', q2, d2', rfl, _, _, h7⟩
                  have HK7 := S.hid (HK9.out.below h7)
                  have hty : y.m.tones.length ≤ 70000 := by rw [← tones_cyc e6]; exact Nat.le_trans htl (by decide)
                  clear k4 h7 HK9
                  go_wp2
                  go_meet
                  case rel => exact ⟨_, y, _, e6, hty, HK7.out⟩
          case rest =>
            as_aux_lemma =>
              obtain ⟨G2, y, s2, hy2, hty, K2⟩ := hcut
              have eT : uu.m.tones = y.m.tones := by rw [hy2]; rfl
              have eS : uu.m.scr = y.m.scr := by rw [hy2]; rfl
              have hTR := K2.row HTR.out
              have hRW := K2.row HRW.out
              have rO := (K2.kp _ HL0.out HLo.out).trans HR3.out
              rw [eT] at hTR rO
              have hsc := HSC.out
              rw [eS] at hRW hsc
              rw [hsc] at hRW
              have hsl : M.Sl wc (.slice p1 3072 c1) y.m.scr := by
                have := M.Row.sl (W := wc) (B := lo) (v := .slice p1 3072 c1) (l := y.m.scr) (by unfold M.Row; rw [hsc]; exact hRW)
                exact this
              obtain ⟨ss, hss⟩ : ∃ ss : ByteArray, ss = ⟨y.m.scr.toArray⟩ := ⟨_, rfl⟩
              have hS : ∀ W', Below wc.heap.size wc W' → (fun w' : World => w'.cell? ⟨w1.heap.size, 5, none⟩ = some (.slice p1 3072 c1) ∧ w'.cell? ⟨w1.heap.size, 6, none⟩ = some (.slice p2 y.m.tones.length c2) ∧ (convert 22 9 (.slice p1 3072 c1)).run Tryz.prog w' = .ok (.string ss) w') W' := fun W' hb => ⟨T.below_cell hb _ _ (S.cell_of _ _ 5 [.int .i64 uu.st, .int .i64 uu.fa, .int .i64 (N : Int), .int .i64 s, .int .i64 (B - s), .slice p1 3072 c1, .slice p2 y.m.tones.length c2] _ _ rO rfl), T.below_cell hb _ _ (S.cell_of _ _ 6 [.int .i64 uu.st, .int .i64 uu.fa, .int .i64 (N : Int), .int .i64 s, .int .i64 (B - s), .slice p1 3072 c1, .slice p2 y.m.tones.length c2] _ _ rO rfl), by rw [hss]; exact Sl_conv (hsl.below hb) (by rw [hsc]; exact ml3072')⟩
              have HS := S.hid hS
              have HSS := S.hid hss
              have HC := S.hid hsc
              have HTR2 := S.hid hTR
              have HD2 := S.hid (And.intro K2.tw.b.ps.d.2 K2.tw.b.ps.r.2)
              have HY2 := S.hid hy2
              have hKd := K2.below (below_drew wc)
              have k1 := state_as g bd br bm ku F1 uu y s2 hy2 wc.drew hKd.tw.a
              have s0 := hS _ (below_drew wc)
              have HK2 := S.hid K2
              have HKd := S.hid hKd
              clear hS hss hsc hTR hRW rO K2 hy2 eT eS hsl hKd HK1 HBB HE HTX HR3 HRW HTR
              go_upto_region 36 with fail
              refine wp_region_held_drew (S := (fun w' : World => w'.cell? ⟨w1.heap.size, 5, none⟩ = some (.slice p1 3072 c1) ∧ w'.cell? ⟨w1.heap.size, 6, none⟩ = some (.slice p2 y.m.tones.length c2) ∧ (convert 22 9 (.slice p1 3072 c1)).run Tryz.prog w' = .ok (.string ss) w')) (by kernel_rfl) s0 (fun hHeld => ?_)
              clear s0
              refine wpAnyH_take (i := 0) (v := ?_) rfl (by kernel_rfl) (by kernel_rfl) (by kernel_rfl) (fun c a w h => h) (Or.inl ⟨by rfl, ?_⟩) hHeld ?_
              rotate_left
              · (intro w hSw; (try dsimp only at hSw); go_simp; try with_reducible rfl)
              simp only [Act.put, List.getElem_toArray, List.getElem_cons_zero, List.getElem_cons_succ, List.setIfInBounds_toArray, List.set_cons_zero, List.set_cons_succ]
              refine wpAnyH_take (i := 2) (v := ?_) rfl (by kernel_rfl) (by kernel_rfl) (by kernel_rfl) (fun c a w h => h) (Or.inl ⟨by rfl, ?_⟩) hHeld ?_
              rotate_left
              · (intro w hSw; (try dsimp only at hSw); go_simp; try with_reducible rfl)
              simp only [Act.put, List.getElem_toArray, List.getElem_cons_zero, List.getElem_cons_succ, List.setIfInBounds_toArray, List.set_cons_zero, List.set_cons_succ]
              refine wpAnyH_ready (rs := [1]) (by kernel_rfl) (by simp) ?_
              refine AllReadyH.cons rfl (fun K hK => ?_) AllReadyH.nil
              go_simp
              refine k1.mono ?_
              rintro e wa ⟨a1, ac1, a2, ac2, rfl, ra1, ra2, ha⟩
              have hKa := HKd.out.below ha
              have k2 := state_any g' bd' br' bm' ku G2 y wa hKa.tw.b
              have HBa := S.hid (trB (below_drew wc) ha (Nat.le_refl _))
              have sa := HS.out wa HBa.out
              have HA1 := S.hid ra1
              have HA2 := S.hid ra2
              have HKa := S.hid hKa
              clear k1 ra1 ra2 ha hKa HKd
              refine hK.out _ _ sa (fun hHeld => ?_)
              clear hK K
              refine wpAnyH_ready (rs := [3]) (by kernel_rfl) (by simp) ?_
              refine AllReadyH.cons rfl (fun K hK => ?_) AllReadyH.nil
              go_simp
              refine k2.mono ?_
              rintro e wb ⟨b1, bc1, b2, bc2, rfl, rb1, rb2, hb⟩
              have hKb := HKa.out.below hb
              have k3 := same_true y a1 a2 b1 b2 ac1 ac2 bc1 bc2 HD2.out.1 HD2.out.2 wb (slU (S.own_kept HA1.out fun i e hi => hb.block i hi)) (slK (S.own_kept HA2.out fun i e hi => hb.block i hi)) (slU rb1) (slK rb2)
              have HBb := S.hid (trB HBa.out hb HBa.out.size)
              have sb := HS.out wb HBb.out
              have HKb := S.hid hKb
              clear k2 rb1 rb2 hb hKb HKa HA1 HA2 HBa sa
              refine hK.out _ _ sb (fun hHeld => ?_)
              clear hK K
              refine wpAnyH_ready (rs := [4]) (by kernel_rfl) (by simp) ?_
              refine AllReadyH.cons rfl (fun K hK => ?_) AllReadyH.nil
              go_simp
              refine k3.mono ?_
              rintro e wz ⟨rfl, hz⟩
              have hKz := HKb.out.below hz
              have km := memory_any g' bd' br' bm' ku G2 y wz hKz.tw.b
              have kn := M.screen_any bm' wz hKz.tw.b.ps.m
              have HBz := S.hid (trB HBb.out hz HBb.out.size)
              have sz := HS.out wz HBz.out
              have HKz := S.hid hKz
              clear k3 hz hKz HKb HBb sb
              refine hK.out _ _ sz (fun hHeld => ?_)
              clear hK K
              refine wpAnyH_take (i := 5) (v := ?_) rfl (by kernel_rfl) (by kernel_rfl) (by kernel_rfl) (fun c a w h => h) (Or.inl ⟨by rfl, ?_⟩) hHeld ?_
              rotate_left
              · (intro w hSw; (try dsimp only at hSw); go_simp; try with_reducible rfl)
              simp only [Act.put, List.getElem_toArray, List.getElem_cons_zero, List.getElem_cons_succ, List.setIfInBounds_toArray, List.set_cons_zero, List.set_cons_succ]
              refine wpAnyH_take (i := 6) (v := ?_) rfl (by kernel_rfl) (by kernel_rfl) (by kernel_rfl) (fun c a w h => h) (Or.inl ⟨by rfl, ?_⟩) hHeld ?_
              rotate_left
              · (intro w hSw; (try dsimp only at hSw); go_simp; try with_reducible rfl)
              simp only [Act.put, List.getElem_toArray, List.getElem_cons_zero, List.getElem_cons_succ, List.setIfInBounds_toArray, List.set_cons_zero, List.set_cons_succ]
              refine wpAnyH_take (i := 7) (v := ?_) rfl (by kernel_rfl) (by kernel_rfl) (by kernel_rfl) (fun c a w h => h) (Or.inl ⟨by rfl, ?_⟩) hHeld ?_
              rotate_left
              · (intro w hSw; (try dsimp only at hSw); go_simp; try with_reducible rfl)
              simp only [Act.put, List.getElem_toArray, List.getElem_cons_zero, List.getElem_cons_succ, List.setIfInBounds_toArray, List.set_cons_zero, List.set_cons_succ]
              refine wpAnyH_take (i := 8) (v := ?_) rfl (by kernel_rfl) (by kernel_rfl) (by kernel_rfl) (fun c a w h => h) (Or.inl ⟨by rfl, ?_⟩) hHeld ?_
              rotate_left
              · (intro w hSw; (try dsimp only at hSw); go_simp; try with_reducible rfl)
              simp only [Act.put, List.getElem_toArray, List.getElem_cons_zero, List.getElem_cons_succ, List.setIfInBounds_toArray, List.set_cons_zero, List.set_cons_succ]
              refine wpAnyH_take (i := 9) (v := ?_) rfl (by kernel_rfl) (by kernel_rfl) (by kernel_rfl) (fun c a w h => h) (Or.inl ⟨by rfl, ?_⟩) hHeld ?_
              rotate_left
              · (intro w hSw; (try dsimp only at hSw); go_simp; try with_reducible rfl)
              simp only [Act.put, List.getElem_toArray, List.getElem_cons_zero, List.getElem_cons_succ, List.setIfInBounds_toArray, List.set_cons_zero, List.set_cons_succ]
              refine wpAnyH_take (i := 10) (v := ?_) rfl (by kernel_rfl) (by kernel_rfl) (by kernel_rfl) (fun c a w h => h) (Or.inl ⟨by rfl, ?_⟩) hHeld ?_
              rotate_left
              · (intro w hSw; (try dsimp only at hSw); go_simp; try with_reducible rfl)
              simp only [Act.put, List.getElem_toArray, List.getElem_cons_zero, List.getElem_cons_succ, List.setIfInBounds_toArray, List.set_cons_zero, List.set_cons_succ]
              refine wpAnyH_ready (rs := [11]) (by kernel_rfl) (by simp) ?_
              refine AllReadyH.cons rfl (fun K hK => ?_) AllReadyH.nil
              go_simp
              refine km.mono ?_
              rintro e wm ⟨rfl, hwm⟩
              obtain rfl := hwm.symm
              refine hK.out _ _ sz (fun hHeld => ?_)
              clear hK K
              refine wpAnyH_ready (rs := [12]) (by kernel_rfl) (by simp) ?_
              refine AllReadyH.cons rfl (fun K hK => ?_) AllReadyH.nil
              go_simp
              refine kn.mono ?_
              rintro e wt ⟨us, rfl, rs, ht⟩
              obtain ⟨t1, tc1, rfl⟩ := own_form rs
              have hKt := HKz.out.below ht
              have cv2 := Sl_conv (M.Row.sl rs) (by rw [HC.out]; exact ml3072')
              rw [← HSS.out] at cv2
              have km2 := memory_any g' bd' br' bm' ku G2 y wt hKt.tw.b
              have kn2 := M.tones_any bm' wt hKt.tw.b.ps.m (Nat.le_trans hty (by decide))
              have HBt := S.hid (trB HBz.out ht HBz.out.size)
              have st := HS.out wt HBt.out
              have HKt := S.hid hKt
              clear km kn hKt HKz HBz sz ht rs
              refine hK.out _ _ st (fun hHeld => ?_)
              clear hK K
              refine wpAnyH_ready (rs := [13]) (by kernel_rfl) (by simp) ?_
              refine AllReadyH.cons rfl (fun K hK => ?_) AllReadyH.nil
              go_simp
              refine hK.out _ _ st (fun hHeld => ?_)
              clear hK K
              refine wpAnyH_take (i := 14) (v := ?_) rfl (by kernel_rfl) (by kernel_rfl) (by kernel_rfl) (fun c a w h => h) (Or.inl ⟨by rfl, ?_⟩) hHeld ?_
              rotate_left
              · (intro w hSw; (try dsimp only at hSw); go_simp; try with_reducible rfl)
              simp only [Act.put, List.getElem_toArray, List.getElem_cons_zero, List.getElem_cons_succ, List.setIfInBounds_toArray, List.set_cons_zero, List.set_cons_succ]
              refine wpAnyH_take (i := 15) (v := ?_) rfl (by kernel_rfl) (by kernel_rfl) (by kernel_rfl) (fun c a w h => h) (Or.inl ⟨by rfl, ?_⟩) hHeld ?_
              rotate_left
              · (intro w hSw; (try dsimp only at hSw); go_simp; try with_reducible rfl)
              simp only [Act.put, List.getElem_toArray, List.getElem_cons_zero, List.getElem_cons_succ, List.setIfInBounds_toArray, List.set_cons_zero, List.set_cons_succ]
              refine wpAnyH_take (i := 16) (v := ?_) rfl (by kernel_rfl) (by kernel_rfl) (by kernel_rfl) (fun c a w h => h) (Or.inl ⟨by rfl, ?_⟩) hHeld ?_
              rotate_left
              · (intro w hSw; (try dsimp only at hSw); go_simp; try with_reducible rfl)
              simp only [Act.put, List.getElem_toArray, List.getElem_cons_zero, List.getElem_cons_succ, List.setIfInBounds_toArray, List.set_cons_zero, List.set_cons_succ]
              refine wpAnyH_take (i := 17) (v := ?_) rfl (by kernel_rfl) (by kernel_rfl) (by kernel_rfl) (fun c a w h => h) (Or.inl ⟨by rfl, ?_⟩) hHeld ?_
              rotate_left
              · (intro w hSw; (try dsimp only at hSw); go_simp; try with_reducible rfl)
              simp only [Act.put, List.getElem_toArray, List.getElem_cons_zero, List.getElem_cons_succ, List.setIfInBounds_toArray, List.set_cons_zero, List.set_cons_succ]
              refine wpAnyH_take (i := 18) (v := ?_) rfl (by kernel_rfl) (by kernel_rfl) (by kernel_rfl) (fun c a w h => h) (Or.inl ⟨by rfl, ?_⟩) hHeld ?_
              rotate_left
              · (intro w hSw; (try dsimp only at hSw); go_simp; try with_reducible rfl)
              simp only [Act.put, List.getElem_toArray, List.getElem_cons_zero, List.getElem_cons_succ, List.setIfInBounds_toArray, List.set_cons_zero, List.set_cons_succ]
              refine wpAnyH_take (i := 19) (v := ?_) rfl (by kernel_rfl) (by kernel_rfl) (by kernel_rfl) (fun c a w h => h) (Or.inl ⟨by rfl, ?_⟩) hHeld ?_
              rotate_left
              · (intro w hSw; (try dsimp only at hSw); go_simp; try with_reducible rfl)
              simp only [Act.put, List.getElem_toArray, List.getElem_cons_zero, List.getElem_cons_succ, List.setIfInBounds_toArray, List.set_cons_zero, List.set_cons_succ]
              refine wpAnyH_take (i := 20) (v := ?_) rfl (by kernel_rfl) (by kernel_rfl) (by kernel_rfl) (fun c a w h => h) (Or.inl ⟨by rfl, ?_⟩) hHeld ?_
              rotate_left
              · (intro w hSw; (try dsimp only at hSw); go_simp; try with_reducible rfl)
              simp only [Act.put, List.getElem_toArray, List.getElem_cons_zero, List.getElem_cons_succ, List.setIfInBounds_toArray, List.set_cons_zero, List.set_cons_succ]
              refine wpAnyH_ready (rs := [21]) (by kernel_rfl) (by simp) ?_
              refine AllReadyH.cons rfl (fun K hK => ?_) AllReadyH.nil
              go_simp
              refine km2.mono ?_
              rintro e wm ⟨rfl, hwm⟩
              obtain rfl := hwm.symm
              refine hK.out _ _ st (fun hHeld => ?_)
              clear hK K
              refine wpAnyH_ready (rs := [22]) (by kernel_rfl) (by simp) ?_
              refine AllReadyH.cons rfl (fun K hK => ?_) AllReadyH.nil
              go_simp
              refine kn2.mono ?_
              rintro e wu ⟨us2, rfl, rs2, hu⟩
              obtain ⟨t2, tc2, rfl⟩ := own_form rs2
              have hKu := HKt.out.below hu
              have km3 := memory_any g' bd' br' bm' ku G2 y wu hKu.tw.b
              have kn3 := M.tones_any bm' wu hKu.tw.b.ps.m (Nat.le_trans hty (by decide))
              have HBu := S.hid (trB HBt.out hu HBt.out.size)
              have su := HS.out wu HBu.out
              have HKu := S.hid hKu
              clear km2 kn2 cv2 hKu HKt HBt st hu rs2
              refine hK.out _ _ su (fun hHeld => ?_)
              clear hK K
              refine wpAnyH_take (i := 23) (v := ?_) rfl (by kernel_rfl) (by kernel_rfl) (by kernel_rfl) (fun c a w h => h) (Or.inl ⟨by rfl, ?_⟩) hHeld ?_
              rotate_left
              · (intro w hSw; (try dsimp only at hSw); go_simp; try with_reducible rfl)
              simp only [Act.put, List.getElem_toArray, List.getElem_cons_zero, List.getElem_cons_succ, List.setIfInBounds_toArray, List.set_cons_zero, List.set_cons_succ]
              refine wpAnyH_take (i := 24) (v := ?_) rfl (by kernel_rfl) (by kernel_rfl) (by kernel_rfl) (fun c a w h => h) (Or.inl ⟨by rfl, ?_⟩) hHeld ?_
              rotate_left
              · (intro w hSw; (try dsimp only at hSw); go_simp; try with_reducible rfl)
              simp only [Act.put, List.getElem_toArray, List.getElem_cons_zero, List.getElem_cons_succ, List.setIfInBounds_toArray, List.set_cons_zero, List.set_cons_succ]
              refine wpAnyH_take (i := 25) (v := ?_) rfl (by kernel_rfl) (by kernel_rfl) (by kernel_rfl) (fun c a w h => h) (Or.inl ⟨by rfl, ?_⟩) hHeld ?_
              rotate_left
              · (intro w hSw; (try dsimp only at hSw); go_simp; try with_reducible rfl)
              simp only [Act.put, List.getElem_toArray, List.getElem_cons_zero, List.getElem_cons_succ, List.setIfInBounds_toArray, List.set_cons_zero, List.set_cons_succ]
              refine wpAnyH_done (by kernel_rfl) ?_ _
              go_wp2_with fail
              refine km3.mono ?_
              rintro e wm ⟨rfl, hwm⟩
              obtain rfl := hwm.symm
              go_wp2_with fail
              refine kn3.mono ?_
              rintro e wv ⟨us3, rfl, rs3, hv⟩
              obtain ⟨t3, tc3, rfl⟩ := own_form rs3
              have HBv := S.hid (trB HBu.out hv HBu.out.size)
              have HKv := S.hid (HKu.out.below hv)
              have HR3v := S.hid rs3
              have HTRv := S.hid (show M.TRow wv lo (.slice p2 y.m.tones.length c2) y.m.tones from S.own_kept HTR2.out fun i e hi => HBv.out.block i hi)
              have HSv := S.hid (HS.out wv HBv.out).2.1
              clear km3 kn3 hv rs3 su HBu HKu HTR2 HS
              go_wp2
              go_loopw [200] (fun i wq => ∃ j : Nat, j ≤ y.m.tones.length ∧ i = .int .i64 (j : Int) ∧ Below wv.heap.size wv wq) (fun i _ => y.m.tones.length - (intOf i).toNat)
              case atStart => exact ⟨0, Nat.zero_le _, rfl, Below.refl _ _⟩
              case round =>
                obtain ⟨j, hj, rfl, hBj⟩ := hrel
                by_cases hjt : j < y.m.tones.length
                · have i9 : (j : Int) < y.m.tones.length := Int.ofNat_lt.mpr hjt
                  obtain ⟨eb, eo, rfl, g1, g2, g3⟩ := trow_get HR3v.out j y.m.tones[j] (List.getElem?_eq_getElem hjt)
                  obtain ⟨fb, fo, rfl, h1, h2, h3⟩ := trow_get HTRv.out j y.m.tones[j] (List.getElem?_eq_getElem hjt)
                  generalize y.m.tones[j] = tn at *
                  obtain ⟨ta, tb, tcc⟩ := tn
                  have g1 := T.below_cell hBj _ _ g1
                  have g2 := T.below_cell hBj _ _ g2
                  have g3 := T.below_cell hBj _ _ g3
                  have w2' : wrap64 ((j : Int) + 1) = ((j + 1 : Nat) : Int) := a_w3 hjt hty
                  obtain ⟨z6, r6, b6⟩ := mkRow wr #[.int .i64 0, .int .u16 0, .int .u8 0] #[.int .i64 ta, .int .u16 tb, .int .u8 tcc] 66
                  have hB6 := trB hBj b6 hBj.size
                  generalize hW6 : ((wr.alloc (.cells #[.int .i64 0, .int .u16 0, .int .u8 0] 66)).setRow wr.heap.size #[.int .i64 ta, .int .u16 tb, .int .u8 tcc]) = W6 at *
                  have q0 : ∀ q, (W6.drewN q).cell? ⟨w1.heap.size, 6, none⟩ = some (.slice (some ⟨fb, fo, none⟩) y.m.tones.length c2) := fun q => T.below_cell hB6 _ _ HSv.out
                  have q1 : ∀ q, (W6.drewN q).cell? ⟨fb, fo + j * 3, none⟩ = some (.int .i64 ta) := fun q => T.below_cell hB6 _ _ h1
                  have q2 : ∀ q, (W6.drewN q).cell? ⟨fb, fo + j * 3 + 1, none⟩ = some (.int .u16 tb) := fun q => T.below_cell hB6 _ _ h2
                  have q3 : ∀ q, (W6.drewN q).cell? ⟨fb, fo + j * 3 + 2, none⟩ = some (.int .u8 tcc) := fun q => T.below_cell hB6 _ _ h3
                  have q4 : ∀ q, (W6.drewN q).cell? ⟨wr.heap.size, 0, none⟩ = some (.int .i64 ta) := fun q => S.cell_of W6 _ 0 [.int .i64 ta, .int .u16 tb, .int .u8 tcc] _ _ r6 rfl
                  have q5 : ∀ q, (W6.drewN q).cell? ⟨wr.heap.size, 1, none⟩ = some (.int .u16 tb) := fun q => S.cell_of W6 _ 1 [.int .i64 ta, .int .u16 tb, .int .u8 tcc] _ _ r6 rfl
                  have q6 : ∀ q, (W6.drewN q).cell? ⟨wr.heap.size, 2, none⟩ = some (.int .u8 tcc) := fun q => S.cell_of W6 _ 2 [.int .i64 ta, .int .u16 tb, .int .u8 tcc] _ _ r6 rfl
                  have nq := neq_tone
                  have HB6 := S.hid hB6
                  have HW6 := S.hid hW6
                  clear h1 h2 h3 hB6 hBj b6 r6 hW6
                  go_upto_region 41 with (refine wpList_store_row rfl 66 _ _ rfl wr.heap.size _ rfl rfl 66 #[.int .i64 0, .int .u16 0, .int .u8 0] z6 (by exact sizeT) (by rfl) (by simp [Value.oneCell']) ?_)
                  rw [HW6.out]
                  go_quiet (fail)
                  go_wp2
                  go_roundw
                  case rel =>
                    first
                      | exact ⟨j + 1, hjt, (by first | rfl | rw [w2']), dnB HB6.out _⟩
                      | ((repeat apply Exists.intro); refine ⟨⟨j + 1, hjt, ?_, dnB HB6.out _⟩, rfl⟩; first | rfl | rw [w2'])
                  case measure => exact msr2 y.m.tones.length _ _ j (by first | rfl | rw [w2']) rfl hjt
                · have i9 : ¬ (j : Int) < y.m.tones.length := fun h => hjt (Int.ofNat_lt.mp h)
                  have HKe := S.hid (HKv.out.below hBj)
                  clear hBj HKv HSv HTRv HR3v
                  go_wp2
                  go_roundw
                  case rel =>
                    first
                      | exact ⟨k + 1, _, _, _, _, hk12, (by first | rfl | rw [w1']), HKe.out.out s2 HY2.out⟩
                      | ((repeat apply Exists.intro); refine ⟨⟨k + 1, _, _, _, _, hk12, ?_, HKe.out.out s2 HY2.out⟩, rfl⟩; first | rfl | rw [w1'])
                  case measure => exact msr2 12 _ _ k (by first | rfl | rw [w1']) rfl hk12
end Go.Proofs.YteldjmecomngeaaGreat.V
/-! What the listed table gives a walk; what arguments give one. -/
namespace Go.Proofs.YteldjmecomngeaaGreat.T
open Go.RowKit Go.ChangeShapes Go.WideShapes Go.ChangeAt
open Go.Proofs.YteldjmecomngeaaGreat.M
set_option linter.unusedVariables false
set_option linter.unusedSimpArgs false
set_option maxRecDepth 100000
theorem own : ownKnob Tryz.prog.godebug = none := by kernel_rfl
theorem laidOut : laidOutB Tryz.prog = true := by kernel_rfl
section
variable {H : Type} {enc : TypeId × Value → H}
theorem bytes5 : Tryz.prog.bytesOf 5 = 1 := by kernel_rfl
theorem byte_nat (n : Int) (h0 : 0 ≤ n) (h1 : n ≤ 255) : (((UInt8.ofNat n.toNat).toNat : Nat) : Int) = n := by
  rw [UInt8.toNat_ofNat']
  have : n.toNat % 2 ^ 8 = n.toNat := Nat.mod_eq_of_lt (by omega)
  rw [this]; omega
theorem open_bytes1 {W : World} {a : Option Addr} {len cap : Nat} {d : DataW H} {p : List MemPlace} (h : DataW.Trod enc Tryz.prog W 0 (fun _ => true) true 22 (.slice a len cap) d p) :
    ∃ l : List UInt8, Sl W (.slice a len cap) l ∧ ((d.weights Tryz.prog 22).all (· ≤ reachBytes) = true → l.length + 4096 ≤ room) := by
  obtain ⟨fuel, hf⟩ := h
  rcases open_ints Tryz.underlying22 Tryz.underlying5 (by kernel_rfl) hf with ⟨hcs, hx⟩ | ⟨x, l, c, zs, hcs, _, hl, hm, hz, hx, hcell, hwz⟩
  · simp [Value.cells] at hcs
    obtain ⟨rfl, rfl, rfl⟩ := hcs
    exact ⟨[], .inl ⟨rfl, rfl⟩, fun _ => by decide⟩
  · simp [Value.cells] at hcs
    obtain ⟨rfl, rfl, rfl⟩ := hcs
    simp only [Prod.mk.injEq] at hx
    obtain ⟨rfl, rfl⟩ := hx
    simp only [if_true] at hz
    have hlen : ((zs.take len).map fun n => UInt8.ofNat n.toNat).length = len := by simp; omega
    refine ⟨(zs.take len).map fun n => UInt8.ofNat n.toNat, .inr ⟨x, cap, by rw [hlen], by rw [hlen]; exact hl, fun j b hj => ?_⟩, fun hw => ?_⟩
    · have hjl : j < len := by
        by_cases h : j < len
        · exact h
        · rw [List.getElem?_eq_none (by rw [hlen]; omega)] at hj; cases hj
      have hc := hcell j (by omega)
      rw [hc]
      have hb := range_u8 hwz j
      rw [List.getElem?_map, List.getElem?_take, if_pos hjl, List.getElem?_eq_getElem (by omega)] at hj
      simp only [Option.map_some, Option.some.injEq] at hj
      subst hj
      have e : zs.getD j 0 = zs[j]'(by omega) := by simp [List.getD, List.getElem?_eq_getElem (show j < zs.length by omega)]
      have e2 : zs[j]?.getD 0 = zs[j]'(by omega) := by rw [List.getElem?_eq_getElem (show j < zs.length by omega)]; rfl
      rw [e2] at hb
      rw [e, byte_nat _ (by omega) (by omega)]
    · rw [hlen]
      simp only [DataW.weights, Tryz.underlying22, List.all_cons, bytes5, Bool.and_eq_true, decide_eq_true_eq] at hw
      have h2 : (lits (H := H) .u8 (zs.take len)).length = len := by simp [lits]; omega
      have h3 := hw.1
      rw [h2] at h3
      unfold reachBytes at h3
      unfold room
      omega
theorem open_bytes0 {W : World} {fuel : Nat} {cs : List Value} {x : DataW H × List MemPlace} (h : DataW.trod enc Tryz.prog W 0 (fun _ => true) true fuel 22 cs = some x) :
    ∃ (v : Value) (l : List UInt8), cs = [v] ∧ Sl W v l ∧ ((x.1.weights Tryz.prog 22).all (· ≤ reachBytes) = true → l.length + 4096 ≤ room) := by
  have hcs : ∃ v, cs = [v] := by
    rcases open_ints Tryz.underlying22 Tryz.underlying5 (by kernel_rfl) h with ⟨hcs, hx⟩ | ⟨x, l, c, zs, hcs, _⟩
    · exact ⟨_, hcs⟩
    · exact ⟨_, hcs⟩
  obtain ⟨v, rfl⟩ := hcs
  have hv : ∃ a len cap, v = .slice a len cap := by
    rcases open_ints Tryz.underlying22 Tryz.underlying5 (by kernel_rfl) h with ⟨hcs, hx⟩ | ⟨x, l, c, zs, hcs, _⟩
    · simp at hcs; exact ⟨_, _, _, hcs⟩
    · simp at hcs; exact ⟨_, _, _, hcs⟩
  obtain ⟨a, len, cap, rfl⟩ := hv
  obtain ⟨l, h1, h3⟩ := open_bytes1 (a := a) (len := len) (cap := cap) (d := x.1) (p := x.2) ⟨fuel, h⟩
  exact ⟨_, l, rfl, h1, h3⟩
theorem weights_all (P : Program) (e : TypeId) (D : Nat → DataW H) (q : Nat → Bool) : ∀ (is : List Nat), (DataW.weightsAll P e (is.map D)).all q = true → ∀ i ∈ is, ((D i).weights P e).all q = true := by
  intro is
  induction is with
  | nil => intro _ i hi; simp at hi
  | cons j is ih =>
    intro h i hi
    simp only [List.map_cons, DataW.weightsAll, List.all_append, Bool.and_eq_true] at h
    rcases List.mem_cons.1 hi with rfl | hi
    · exact h.1
    · exact ih h.2 i hi
theorem und37 : Tryz.prog.underlying 81 = some (.struct #[⟨ "Num", 3, 0, false, "", "", 0⟩, ⟨ "Data", 22, 1, false, "", "", 8⟩]) := by kernel_rfl
theorem add_none {a : Addr} {W : World} {v : Value} (h : W.cell? (a.add 0) = some v) : a.spot = none := by
  have := World.cell?_spot h
  simpa [Addr.add] using this
theorem add_at (b o k : Nat) : (⟨b, o, none⟩ : Addr).add k = ⟨b, o + k, none⟩ := Addr.add_lit _ _ _
theorem open_banks0 {W : World} {a : Option Addr} {len cap : Nat} {d : DataW H} {p : List MemPlace} (h : DataW.Trod enc Tryz.prog W 0 (fun _ => true) true 25 (.slice a len cap) d p)
    (hw : (d.weights Tryz.prog 25).all (· ≤ reachBytes) = true) :
    ∃ (bs : List (Int × List UInt8)), len = bs.length ∧ BnS W a bs ∧ bs.length * 32 ≤ room ∧ (∀ t ∈ bs, t.2.length + 1 ≤ room) ∧ ∀ t ∈ bs, (Lit.int .i64 t.1).wf = true := by
  obtain ⟨fuel, hf⟩ := h
  rcases Deep.open_slice_pairs Tryz.underlying25 und37 (by kernel_rfl) rfl rfl (by kernel_rfl) (by kernel_rfl) hf with ⟨hcs, hx⟩ | ⟨x, l, c, m, n, V0, V1, D0, D1, P0, P1, hcs, _, hl, hm, hmm, hx, hel⟩
  · simp [Value.cells] at hcs
    obtain ⟨rfl, rfl, rfl⟩ := hcs
    exact ⟨[], rfl, fun i l hi => by simp at hi, by simp, by simp, by simp⟩
  · simp [Value.cells] at hcs
    obtain ⟨rfl, rfl, rfl⟩ := hcs
    simp only [Prod.mk.injEq] at hx
    obtain ⟨rfl, rfl⟩ := hx
    simp only [if_true] at hmm
    have hby : Tryz.prog.bytesOf 81 = 32 := by kernel_rfl
    simp only [DataW.weights, Tryz.underlying25, List.all_cons, List.all_append, Bool.and_eq_true, decide_eq_true_eq, hby, List.length_map, List.length_range] at hw
    have hw1 := hw.1
    unfold reachBytes at hw1
    have hwi := weights_all Tryz.prog 81 _ _ (List.range len) hw.2.1
    have hsp0 : 0 < len → x.spot = none := fun hp => add_none (hel 0 (by omega)).1
    have hex : ∀ i, i < len → ∃ t : Int × List UInt8, (∃ b o dv, some x = some (⟨b, o, none⟩ : Addr) ∧ W.cell? ⟨b, o + i * 2, none⟩ = some (.int .i64 t.1) ∧ W.cell? ⟨b, o + i * 2 + 1, none⟩ = some dv ∧ Sl W dv t.2 ∧ t.2.length + 4096 ≤ room ∧ (Lit.int .i64 t.1).wf = true) := fun i hi => by
      obtain ⟨g0, g1, t0, t1⟩ := hel i (by omega)
      obtain ⟨k, e0, _, w0⟩ := DataW.trod_int Tryz.underlying3 t0
      obtain ⟨dv, l, e1, hs, hlw⟩ := open_bytes0 t1
      simp at e0 e1
      rw [e0] at g0
      rw [e1] at g1
      have hsp := hsp0 (by omega)
      obtain ⟨b, o, sp⟩ := x
      simp only at hsp
      subst hsp
      rw [add_at] at g0 g1
      refine ⟨(k, l), b, o, dv, rfl, g0, by rw [Nat.add_assoc]; exact g1, hs, hlw ?_, w0⟩
      have hwk := hwi i (by simpa using hi)
      simp only [DataW.weights, und37, List.map_cons, List.map_nil, DataW.weightsEach, List.all_append, Bool.and_eq_true] at hwk
      exact hwk.2.1
    obtain ⟨f, hf2⟩ := Deep.choose_lt hex
    refine ⟨(List.range len).map f, by simp, fun i t hi => ?_, by simp; unfold room; omega, ?_, ?_⟩
    · have hil : i < len := by
        by_cases h : i < len
        · exact h
        · rw [List.getElem?_eq_none (by simp; omega)] at hi; cases hi
      simp [hil] at hi
      subst hi
      obtain ⟨b, o, dv, e1, e2, e3, e4, e5, e6⟩ := hf2 i hil
      exact ⟨b, o, dv, e1, e2, e3, e4, by omega⟩
    · intro t ht
      simp only [List.mem_map, List.mem_range] at ht
      obtain ⟨i, hi, rfl⟩ := ht
      obtain ⟨b, o, dv, e1, e2, e3, e4, e5, e6⟩ := hf2 i hi
      omega
    · intro t ht
      simp only [List.mem_map, List.mem_range] at ht
      obtain ⟨i, hi, rfl⟩ := ht
      obtain ⟨b, o, dv, e1, e2, e3, e4, e5, e6⟩ := hf2 i hi
      exact e6
theorem und80 : Tryz.prog.underlying 190 = some (.struct #[⟨ "At", 23, 0, false, "", "", 0⟩, ⟨ "In", 3, 1, false, "", "", 8⟩, ⟨ "Out", 3, 2, false, "", "", 16⟩]) := by kernel_rfl
theorem open_eff {W : World} {n : Nat} {cs : List Value} {D : DataW H} {Pl : List MemPlace} (h : DataW.trod enc Tryz.prog W 0 (fun _ => true) true n 190 cs = some (D, Pl)) :
    ∃ (a i o : Int), cs = [.int .u16 a, .int .i64 i, .int .i64 o] ∧ (Lit.int .u16 a).wf = true ∧ (Lit.int .i64 i).wf = true ∧ (Lit.int .i64 o).wf = true := by
  obtain ⟨xs, q, _, hxy, hcl, hxl, hf⟩ := DataW.trod_struct und80 h
  have hc3 : Tryz.prog.cellsOf 190 = 3 := by kernel_rfl
  rw [hc3] at hcl
  have c3 : Tryz.prog.cellsOf 3 = 1 := by kernel_rfl
  have c23 : Tryz.prog.cellsOf 23 = 1 := by kernel_rfl
  match xs, hxl, cs, hcl with
  | [x0, x1, x2], _, [a, b, c], _ =>
    have f0 := hf 0 _ rfl
    have f1 := hf 1 _ rfl
    have f2 := hf 2 _ rfl
    replace f0 : DataW.trod enc Tryz.prog W 0 (fun _ => true) true q 23 [a] = some x0 := by simpa [c23] using f0
    replace f1 : DataW.trod enc Tryz.prog W 0 (fun _ => true) true q 3 [b] = some x1 := by simpa [c23, c3] using f1
    replace f2 : DataW.trod enc Tryz.prog W 0 (fun _ => true) true q 3 [c] = some x2 := by simpa [c23, c3] using f2
    obtain ⟨k, e0, _, w0⟩ := DataW.trod_int Tryz.underlying23 f0
    obtain ⟨m, e1, _, w1⟩ := DataW.trod_int Tryz.underlying3 f1
    obtain ⟨o, e2, _, w2⟩ := DataW.trod_int Tryz.underlying3 f2
    simp at e0 e1 e2
    subst e0 e1 e2
    exact ⟨k, m, o, rfl, w0, w1, w2⟩
theorem open_effs0 {W : World} {a : Option Addr} {len cap : Nat} {d : DataW H} {p : List MemPlace} (h : DataW.Trod enc Tryz.prog W 0 (fun _ => true) true 24 (.slice a len cap) d p)
    (hw : (d.weights Tryz.prog 24).all (· ≤ reachBytes) = true) :
    ∃ (es : List Ef), len = es.length ∧ EfS W a es ∧ es.length * 24 ≤ room ∧ (∀ x ∈ es, x.1 < 65536) ∧ ∀ x ∈ es, (Lit.int .i64 x.2.1).wf = true ∧ (Lit.int .i64 x.2.2).wf = true := by
  obtain ⟨fuel, hf⟩ := h
  rcases Deep.open_slice Tryz.underlying24 hf with ⟨hcs, hx⟩ | ⟨x, l, c, m, n, D, Pl, hcs, _, hl, hm, hmm, hx, hel⟩
  · simp [Value.cells] at hcs
    obtain ⟨rfl, rfl, rfl⟩ := hcs
    exact ⟨[], rfl, fun i l hi => by simp at hi, by simp, by simp, by simp⟩
  · simp [Value.cells] at hcs
    obtain ⟨rfl, rfl, rfl⟩ := hcs
    simp only [Prod.mk.injEq] at hx
    obtain ⟨rfl, rfl⟩ := hx
    simp only [if_true] at hmm
    have hc3 : Tryz.prog.cellsOf 190 = 3 := by kernel_rfl
    rw [hc3] at hel
    have hby : Tryz.prog.bytesOf 190 = 24 := by kernel_rfl
    simp only [DataW.weights, Tryz.underlying24, List.all_cons, List.all_append, Bool.and_eq_true, decide_eq_true_eq, hby, List.length_map, List.length_range] at hw
    have hw1 := hw.1
    unfold reachBytes at hw1
    have hsp0 : 0 < len → x.spot = none := fun hp => by
      obtain ⟨cs', h1, h2⟩ := hel 0 (by omega)
      obtain ⟨_, hlen, hcell⟩ := World.cells?_some h1
      obtain ⟨k, m2, o2, rfl, _⟩ := open_eff h2
      have g0 := hcell 0 (by decide)
      rw [Deep.add_add] at g0
      exact add_none g0
    have hex : ∀ i, i < len → ∃ t : Ef, (∃ b o, some x = some (⟨b, o, none⟩ : Addr) ∧ W.cell? ⟨b, o + i * 3, none⟩ = some (.int .u16 (t.1 : Int)) ∧ W.cell? ⟨b, o + i * 3 + 1, none⟩ = some (.int .i64 t.2.1) ∧ W.cell? ⟨b, o + i * 3 + 2, none⟩ = some (.int .i64 t.2.2)) ∧ t.1 < 65536 ∧ (Lit.int .i64 t.2.1).wf = true ∧ (Lit.int .i64 t.2.2).wf = true := fun i hi => by
      obtain ⟨cs', h1, h2⟩ := hel i (by omega)
      obtain ⟨_, hlen, hcell⟩ := World.cells?_some h1
      obtain ⟨k, m2, o2, rfl, w0, w1, w2⟩ := open_eff h2
      have hb := bounds_u16 w0
      obtain ⟨kn, rfl⟩ : ∃ kn : Nat, k = (kn : Int) := ⟨k.toNat, by omega⟩
      have g0 := hcell 0 (by decide)
      have g1 := hcell 1 (by decide)
      have g2 := hcell 2 (by decide)
      simp only [List.getElem?_cons_zero, List.getElem?_cons_succ] at g0 g1 g2
      rw [Deep.add_add] at g0 g1 g2
      have hsp := hsp0 (by omega)
      obtain ⟨b, o, sp⟩ := x
      simp only at hsp
      subst hsp
      rw [add_at] at g0 g1 g2
      exact ⟨(kn, m2, o2), ⟨b, o, rfl, g0, by rw [Nat.add_assoc]; exact g1, by rw [Nat.add_assoc]; exact g2⟩, by show kn < 65536; omega, w1, w2⟩
    obtain ⟨f, hf2⟩ := Deep.choose_lt hex
    refine ⟨(List.range len).map f, by simp, fun i t hi => ?_, by simp; unfold room; omega, ?_, ?_⟩
    · have hil : i < len := by
        by_cases h : i < len
        · exact h
        · rw [List.getElem?_eq_none (by simp; omega)] at hi; cases hi
      simp [hil] at hi
      subst hi
      exact (hf2 i hil).1
    · intro t ht
      simp only [List.mem_map, List.mem_range] at ht
      obtain ⟨i, hi, rfl⟩ := ht
      exact (hf2 i hi).2.1
    · intro t ht
      simp only [List.mem_map, List.mem_range] at ht
      obtain ⟨i, hi, rfl⟩ := ht
      exact (hf2 i hi).2.2
theorem und27 : Tryz.prog.underlying 27 = some (.struct #[⟨ "Code", 22, 0, false, "", "", 0⟩, ⟨ "Entry", 23, 1, false, "", "", 24⟩, ⟨ "Effects", 24, 2, false, "", "", 32⟩, ⟨ "Banks", 25, 3, false, "", "", 56⟩]) := by kernel_rfl
theorem list4 {α : Type} (l : List α) (h : l.length = 4) : ∃ a0 a1 a2 a3, l = [a0, a1, a2, a3] := by
  rcases l with _ | ⟨a0, _ | ⟨a1, _ | ⟨a2, _ | ⟨a3, _ | ⟨b, l⟩⟩⟩⟩⟩
  all_goals first | exact ⟨_, _, _, _, rfl⟩ | (simp at h)
/-- A cartridge that came in. -/
theorem open_cart {W : World} {base : Nat} {v : Value} {d : DataW H} {p : List MemPlace} (hval : Value.okWide Tryz.prog W .any base 27 v) (h : DataW.Trod enc Tryz.prog W 0 (fun _ => true) true 27 v d p)
    (hw : (d.weights Tryz.prog 27).all (· ≤ reachBytes) = true) :
    ∃ (c : Ct) (ep : Option Addr) (ec : Nat) (bp : Option Addr) (bc : Nat) (kv : Value), IsC W v c ep ec bp bc kv ∧ (ep = none → ec = 0) ∧ c.code.length + 4096 ≤ room := by
  obtain ⟨cs, rfl, hsz⟩ := okWide_struct und27 hval
  obtain ⟨fuel, hf⟩ := h
  obtain ⟨xs, q, _, hxy, hcl, hxl, hff⟩ := DataW.trod_struct und27 hf
  have hc4 : Tryz.prog.cellsOf 27 = 4 := by kernel_rfl
  rw [hc4] at hcl
  have k22 : Tryz.prog.cellsOf 22 = 1 := by kernel_rfl
  have k23 : Tryz.prog.cellsOf 23 = 1 := by kernel_rfl
  have k24 : Tryz.prog.cellsOf 24 = 1 := by kernel_rfl
  have k25 : Tryz.prog.cellsOf 25 = 1 := by kernel_rfl
  have hcs : ∃ a0 a1 a2 a3, cs = #[a0, a1, a2, a3] := by
    obtain ⟨l⟩ := cs
    simp [Value.cells] at hcl
    obtain ⟨a0, a1, a2, a3, e⟩ := list4 l hcl
    exact ⟨a0, a1, a2, a3, by rw [e]⟩
  obtain ⟨a0, a1, a2, a3, rfl⟩ := hcs
  obtain ⟨x0, x1, x2, x3, rfl⟩ := list4 xs hxl
  have f0 := hff 0 _ rfl
  have f1 := hff 1 _ rfl
  have f2 := hff 2 _ rfl
  have f3 := hff 3 _ rfl
  replace f0 : DataW.trod enc Tryz.prog W 0 (fun _ => true) true q 22 [a0] = some x0 := by simpa [k22, Value.cells] using f0
  replace f1 : DataW.trod enc Tryz.prog W 0 (fun _ => true) true q 23 [a1] = some x1 := by simpa [k23, Value.cells] using f1
  replace f2 : DataW.trod enc Tryz.prog W 0 (fun _ => true) true q 24 [a2] = some x2 := by simpa [k24, Value.cells] using f2
  replace f3 : DataW.trod enc Tryz.prog W 0 (fun _ => true) true q 25 [a3] = some x3 := by simpa [k25, Value.cells] using f3
  have hd : d = .agg [x0.1, x1.1, x2.1, x3.1] := by
    simp only [Prod.mk.injEq] at hxy; rw [hxy.1]; rfl
  rw [hd] at hw
  simp only [DataW.weights, und27, List.map_cons, List.map_nil, DataW.weightsEach, List.all_append, Bool.and_eq_true] at hw
  obtain ⟨w0, w1, w2, w3, _⟩ := hw
  obtain ⟨kv, code, ek, hk, hkl⟩ := open_bytes0 f0
  simp at ek
  subst ek
  obtain ⟨z1, e1, _, b1⟩ := DataW.trod_int Tryz.underlying23 f1
  simp at e1
  subst e1
  have hb1 := bounds_u16 b1
  obtain ⟨en, rfl⟩ : ∃ en : Nat, z1 = (en : Int) := ⟨z1.toNat, by omega⟩
  have hv2 : ∃ p n c, a2 = .slice p n c ∧ (p = none → c = 0) := by
    rcases Deep.open_slice Tryz.underlying24 f2 with ⟨hcs, _⟩ | ⟨x, l, c, m, n, D, Pl, hcs, _⟩ <;> (simp at hcs; exact ⟨_, _, _, hcs, by simp⟩)
  obtain ⟨ep, n2, ec, rfl, hnn⟩ := hv2
  have hv3 : ∃ p n c, a3 = .slice p n c := by
    rcases Deep.open_slice Tryz.underlying25 f3 with ⟨hcs, _⟩ | ⟨x, l, c, m, n, D, Pl, hcs, _⟩ <;> (simp at hcs; exact ⟨_, _, _, hcs⟩)
  obtain ⟨bp, n3, bc, rfl⟩ := hv3
  obtain ⟨es, rfl, g1, g2, g3, g4⟩ := open_effs0 (d := x2.1) (p := x2.2) ⟨q, f2⟩ w2
  obtain ⟨bs, rfl, j1, j2, j3, j4⟩ := open_banks0 (d := x3.1) (p := x3.2) ⟨q, f3⟩ w3
  have hl0 := hkl w0
  exact ⟨⟨code, en, es, bs⟩, ep, ec, bp, bc, a0, ⟨rfl, hk, by show code.length ≤ room; omega, g1, g2, j1, j2, ⟨by show en < 65536; omega, g3⟩, g4, j4⟩, hnn, hl0⟩
end
end Go.Proofs.YteldjmecomngeaaGreat.T
/-! What arguments give a walk: numbers, bytes. -/
namespace Go.Proofs.YteldjmecomngeaaGreat.V
open Go.RowKit Go.ChangeShapes Go.WideShapes Go.ChangeAt
open Go.Proofs
set_option linter.unusedVariables false
set_option linter.unusedSimpArgs false
set_option maxRecDepth 100000
set_option maxHeartbeats 2000000
section
variable {H : Type} {enc : TypeId × Value → H}
theorem open_is {W : World} {base : Nat} {v : Value} {d : DataW H} {p : List MemPlace} (hval : Value.okWide Tryz.prog W .any base 28 v) (h : DataW.Trod enc Tryz.prog W 0 (fun _ => true) true 28 v d p) :
    ∃ (l : List Int) (pp : Option Addr) (c : Nat), v = .slice pp l.length c ∧ Is W pp l := by
  obtain ⟨a, len, cap, rfl⟩ := okWide_slice Tryz.underlying28 hval
  obtain ⟨fuel, hf⟩ := h
  rcases open_ints Tryz.underlying28 Tryz.underlying3 (by kernel_rfl) hf with ⟨hcs, hx⟩ | ⟨y, l, c, zs, hcs, _, hl, hm, hz, hx, hcell, hwz⟩
  · simp [Value.cells] at hcs
    obtain ⟨rfl, rfl, rfl⟩ := hcs
    exact ⟨[], none, 0, rfl, fun i a hi => by simp at hi⟩
  · simp [Value.cells] at hcs
    obtain ⟨rfl, rfl, rfl⟩ := hcs
    simp only [if_true] at hz
    have hlen : (zs.take len).length = len := by simp; omega
    refine ⟨zs.take len, some y, cap, by rw [hlen], fun i z hi => ?_⟩
    have hjl : i < len := by
      by_cases h : i < len
      · exact h
      · rw [List.getElem?_eq_none (by rw [hlen]; omega)] at hi; cases hi
    have hc := hcell i (by omega)
    rw [List.getElem?_take, if_pos hjl, List.getElem?_eq_getElem (by omega)] at hi
    simp only [Option.some.injEq] at hi
    subst hi
    have e : zs.getD i 0 = zs[i]'(by omega) := by simp [List.getD, List.getElem?_eq_getElem (show i < zs.length by omega)]
    rw [e] at hc
    have hsp : y.spot = none := T.add_none (hcell 0 (by omega))
    obtain ⟨b, o, sp⟩ := y
    simp only at hsp
    subst hsp
    rw [T.add_at] at hc
    exact ⟨b, o, rfl, hc⟩
theorem open_bs {W : World} {base : Nat} {v : Value} {d : DataW H} {p : List MemPlace} (hval : Value.okWide Tryz.prog W .any base 22 v) (h : DataW.Trod enc Tryz.prog W 0 (fun _ => true) true 22 v d p) :
    ∃ (l : List UInt8) (pp : Option Addr) (c : Nat), v = .slice pp l.length c ∧ M.Sl W (.slice pp l.length c) l := by
  obtain ⟨a, len, cap, rfl⟩ := okWide_slice Tryz.underlying22 hval
  obtain ⟨l, hs, _⟩ := T.open_bytes1 h
  obtain ⟨p', c', e, _⟩ := hs.ex
  cases e
  exact ⟨l, _, _, rfl, hs⟩
end
end Go.Proofs.YteldjmecomngeaaGreat.V
