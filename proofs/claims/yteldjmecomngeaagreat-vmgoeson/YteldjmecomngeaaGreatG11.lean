import Derived.Test.YteldjmecomngeaaGreatG10
import Derived.Deep.DeepCutAuto
import Derived.Deep.QuietTactic
import Derived.BigQuiet
/-! VmAsOne. -/
namespace Go.Proofs.YteldjmecomngeaaGreat.V
open Go.RowKit
open Go.Proofs
set_option linter.unusedVariables false
set_option linter.unusedSimpArgs false
set_option maxHeartbeats 40000000
set_option maxRecDepth 100000
theorem ml3072' : 3072 ≤ maxLen := by unfold maxLen; omega
theorem fresh_mono' {n m g bd br bm : Nat} {kv : Value} {F : Nat → Prop} (h : Fresh n g bd br bm kv F) (k : m ≤ n) : Fresh m g bd br bm kv F :=
  ⟨Nat.le_trans k h.g, Nat.le_trans k h.d, Nat.le_trans k h.r, fun i e => Nat.le_trans k (h.k i e), fun i e => Nat.le_trans k (h.f i e)⟩
/-- Has the last one been yield? -/
def yv (u : VS) : Nat → Bool
  | 0 => false
  | j + 1 => (look (it j u 0).1).op == 10
theorem yv_no {u : VS} {N : Nat} (h : ∀ i, i + 1 < N → (look (it i u 0).1).op ≠ 10) (j : Nat) (hj : j < N) : yv u j = false := by
  cases j with
  | zero => rfl
  | succ j => exact beq_eq_false_iff_ne.mpr (h j hj)
theorem yv_no' {u : VS} {N : Nat} (h : ∀ i, i < N → (look (it i u 0).1).op ≠ 10) : yv u N = false := by
  cases N with
  | zero => rfl
  | succ j => exact beq_eq_false_iff_ne.mpr (h j (by omega))
theorem yv_yes {u : VS} {N : Nat} (h0 : 0 < N) (h : (look (it (N - 1) u 0).1).op = 10) : yv u N = true := by
  cases N with
  | zero => omega
  | succ j => exact beq_iff_eq.mpr h
theorem a_tn {j N : Nat} (h : j < N) (k : (N : Int) ≤ 16384) : 0 + 3 * j ≤ 60000 := by omega
theorem a_w2 {j N : Nat} (h : j < N) (k : (N : Int) ≤ 16384) : wrap64 ((j : Int) + 1) = ((j + 1 : Nat) : Int) := by simp [wrap64]; omega
theorem a_w3 {j n : Nat} (h : j < n) (k : n ≤ 70000) : wrap64 ((j : Int) + 1) = ((j + 1 : Nat) : Int) := by simp [wrap64]; omega
theorem a_f2 {j N : Nat} {s r : Int} (h1 : 0 + (j : Int) ≤ s ∧ s ≤ 0 + 4 * (j : Int)) (hr : 1 ≤ r ∧ r ≤ 4) (h : j < N) (k : (N : Int) ≤ 16384) : wrap64 (s + r) = s + r := by simp [wrap64]; omega
theorem prC_op (op : Nat) (h : 1 ≤ op) : prC op = #[.int .i64 (op : Int), .string (P.nm op), .int .i64 (P.ri op), .int .i64 (P.ro op), .int .i64 (P.rc op), .bool (P.rb op)] := by unfold prC; rw [if_neg (by omega)]
theorem prV_op (op : Nat) (h : 1 ≤ op) : prV op = .agg #[.int .i64 (op : Int), .string (P.nm op), .int .i64 (P.ri op), .int .i64 (P.ro op), .int .i64 (P.rc op), .bool (P.rb op)] := by unfold prV; rw [if_neg (by omega)]; rfl
theorem prV_0 : prV 0 = .agg #[.int .i64 0, .string { data := #[] }, .int .i64 0, .int .i64 0, .int .i64 0, .bool false] := rfl
/-- How the twin and the machine stand behind the steps. -/
theorem end_no {u0 : VS} {B sN : Int} {N : Nat} {uu xN : VS} (hend : (0 < N ∧ (look (it (N - 1) u0 0).1).op = 10 ∧ uu = xN) ∨ (endI B xN sN uu ∧ ∀ i, i < N → (look (it i u0 0).1).op ≠ 10)) (hb : ¬ (yv u0 N = false ∧ 0 < B - sN ∧ xN.st = 1)) : uu = xN := by
  rcases hend with ⟨_, _, h⟩ | ⟨h, hy⟩
  · exact h
  · rcases h with ⟨h, _⟩ | ⟨h1, h2, _⟩ | ⟨h1, h2, _⟩
    · exact h
    · exact absurd ⟨yv_no' hy, by omega, h1⟩ hb
    · exact absurd ⟨yv_no' hy, by omega, h1⟩ hb
theorem end_yes {u0 : VS} {B sN : Int} {N : Nat} {uu xN : VS} (hend : (0 < N ∧ (look (it (N - 1) u0 0).1).op = 10 ∧ uu = xN) ∨ (endI B xN sN uu ∧ ∀ i, i < N → (look (it i u0 0).1).op ≠ 10)) (hb : yv u0 N = false ∧ 0 < B - sN ∧ xN.st = 1) :
    ((look xN).f = 0 ∧ 1 ≤ (look xN).op ∧ B - sN < P.rc (look xN).op ∧ uu = xN) ∨ ((look xN).f ≠ 0 ∧ (look xN).op = 0 ∧ step xN = (false, uu)) ∨ ((look xN).f = 0 ∧ 1 ≤ (look xN).op ∧ P.rc (look xN).op ≤ B - sN ∧ ∃ y, step xN = (false, y) ∧ y.st = 3 ∧ uu = cyc sN y) := by
  obtain ⟨b1, b2, b3⟩ := hb
  rcases hend with ⟨h0, h, _⟩ | ⟨h, hy⟩
  · rw [yv_yes h0 h] at b1; cases b1
  · rcases h with ⟨h, h1 | h1 | ⟨h1, h2⟩⟩ | ⟨h1, h2, h3, h4⟩ | ⟨h1, h2, h3, h4, h5, h6⟩
    · exact absurd b3 h1
    · omega
    · exact .inl ⟨h1, (look_ok xN b3 h1).1, h2, h⟩
    · exact .inr (.inl ⟨h3, look_no xN h3, by rw [step_no xN h1 h3, h4]⟩)
    · exact .inr (.inr ⟨h3, (look_ok xN b3 h3).1, h4, _, step_bad xN sN h1 h3 h5, rfl, h6⟩)
/-- What stands ahead of each frame. -/
structure OT (w wr : World) (g bd br bm g' bd' br' bm' : Nat) (kv : Value) (F G : Nat → Prop) (u x : VS) : Prop where
  tw : TW w.heap.size wr g bd br bm g' bd' br' bm' kv F G u x
  bl : Below w.heap.size w wr
  cy : ∃ s, u = cyc s x
theorem OT.first {w w3 w4 : World} {n g bd br bm g' bd' br' bm' : Nat} {kv : Value} {F G : Nat → Prop} {u : VS} (hM : MV w3 g bd br bm kv F u) (hf : Fresh n g bd br bm kv F) (hn : w.heap.size ≤ n) (hB : Below w.heap.size w w3) (hT : MV w4 g' bd' br' bm' kv G u) (hT' : w3.heap.size ≤ g' ∧ w3.heap.size ≤ bd' ∧ w3.heap.size ≤ br' ∧ ∀ k, G k → w3.heap.size ≤ k) (h4 : Below w3.heap.size w3 w4) : OT w w4 g bd br bm g' bd' br' bm' kv F G u u := by
  obtain ⟨t1, t2, t3, t4⟩ := hT'
  have s := hB.size
  have hf' := fresh_mono' hf hn
  refine ⟨⟨hM.below h4, hT, fun k e f => ?_, hf', ⟨by omega, by omega, by omega, hf'.k, fun i e => by have := t4 i e; omega⟩, Nat.le_trans s h4.size⟩, trB hB h4 s, ⟨u.m.cyc, cyc_self u⟩⟩
  have := hM.tv_lt k e
  rcases f with rfl | rfl | rfl | f
  · omega
  · omega
  · omega
  · have := t4 k f; omega
theorem KI.out {w wo wc : World} {lo g bd br bm g' bd' br' bm' : Nat} {kv : Value} {F G : Nat → Prop} {u x : VS} (h : KI w wo wc lo g bd br bm g' bd' br' bm' kv F G u x) (s : Int) (e : u = cyc s x) : OT w wc g bd br bm g' bd' br' bm' kv F G u x := ⟨h.tw, h.bl, s, e⟩
theorem field_st (W : World) (pc st fa : Int) (p q : Option Addr) (n m c d : Nat) : (Instr.field 46 (.agg #[.int .u16 pc, .int .i64 st, .int .i64 fa, .slice p n c, .slice q m d]) 1).run Tryz.prog W = .ok (.int .i64 st) W := by
  simp [Instr.field, run_underlying Tryz.underlying46, Value.cells, Tryz.sizeOf23, Tryz.sizeOf35, go_sem, asAgg]
theorem slU {W : World} {B : Nat} {p : Option Addr} {c : Nat} {l : List Int} (h : S.RowU W B (.slice p l.length c) l) : S.Sl S.eU 1 W p l := by
  obtain ⟨p', c', e, _, k⟩ := h.ls.ex
  cases e
  exact k
theorem slK {W : World} {B : Nat} {p : Option Addr} {c : Nat} {l : List (Int × Int)} (h : S.RowK W B (.slice p l.length c) l) : S.Sl S.eK 2 W p l := by
  obtain ⟨p', c', e, _, k⟩ := (S.own_sl S.hK h).ex
  cases e
  exact k
theorem tc_get : ∀ (l : List (Int × Int × Int)) (k : Nat) (t : Int × Int × Int), l[k]? = some t → (M.tc l)[k * 3]? = some (.int .i64 t.1) ∧ (M.tc l)[k * 3 + 1]? = some (.int .u16 t.2.1) ∧ (M.tc l)[k * 3 + 2]? = some (.int .u8 t.2.2)
  | [], k, t, h => by simp at h
  | a :: l, 0, t, h => by simp at h; subst h; simp [M.tc, M.tcell]
  | a :: l, k + 1, t, h => by
    have := tc_get l k t (by simpa using h)
    rw [show (k + 1) * 3 = k * 3 + 3 by omega, show k * 3 + 3 + 1 = k * 3 + 1 + 3 by omega, show k * 3 + 3 + 2 = k * 3 + 2 + 3 by omega]
    simpa [M.tc, M.tcell] using this
theorem trow_get {w : World} {B : Nat} {p : Option Addr} {c : Nat} {l : List (Int × Int × Int)} (h : M.TRow w B (.slice p l.length c) l) (k : Nat) (t : Int × Int × Int) (hk : l[k]? = some t) : ∃ b o, p = some ⟨b, o, none⟩ ∧ w.cell? ⟨b, o + k * 3, none⟩ = some (.int .i64 t.1) ∧ w.cell? ⟨b, o + k * 3 + 1, none⟩ = some (.int .u16 t.2.1) ∧ w.cell? ⟨b, o + k * 3 + 2, none⟩ = some (.int .u8 t.2.2) := by
  rcases h.2 with ⟨e, h0⟩ | ⟨g, cap, cur, e, _⟩
  · have := (List.getElem?_eq_some_iff.1 hk).1; omega
  · cases e
    obtain ⟨e1, e2, e3⟩ := tc_get l k t hk
    have c1 := World.ownsRow.cells h (g := g) rfl _ _ e1
    have c2 := World.ownsRow.cells h (g := g) rfl _ _ e2
    have c3 := World.ownsRow.cells h (g := g) rfl _ _ e3
    rw [Addr.add_lit] at c1 c2 c3
    exact ⟨g, 0, rfl, c1, by rw [← Nat.add_assoc] at c2; exact c2, by rw [← Nat.add_assoc] at c3; exact c3⟩
theorem state_as (g bd br bm : Nat) (kv : Value) (F : Nat → Prop) (u y : VS) (s : Int) (e : u = cyc s y) (w : World) (h : MV w g bd br bm kv F u) :
    Calls Tryz.prog 14 #[.pointer (some ⟨g, 0, none⟩)] w fun e w' => ∃ p1 c1 p2 c2, e = .returned (StV y (.slice p1 y.D.length c1) (.slice p2 y.R.length c2)) ∧ S.RowU w' w.heap.size (.slice p1 y.D.length c1) y.D ∧ S.RowK w' w.heap.size (.slice p2 y.R.length c2) y.R ∧ Below w.heap.size w w' := by
  subst e
  exact state_any g bd br bm kv F (cyc s y) w h
theorem tones_cyc {u y : VS} {s : Int} (e : u = cyc s y) : u.m.tones = y.m.tones := by rw [e]; rfl
theorem below_drew (W : World) : Below W.heap.size W W.drew := ⟨rfl, rfl, rfl, Nat.le_refl _, fun _ _ => rfl⟩
theorem sizeT : (Tryz.prog.info? 66).map (·.size) = some 3 := by kernel_rfl
theorem neq_tone (W : World) (a b c : Int) : (binOp .neq 66 (.agg #[.int .i64 a, .int .u16 b, .int .u8 c]) (.agg #[.int .i64 a, .int .u16 b, .int .u8 c])).run Tryz.prog W = .ok (.bool false) W := by
  have hs : Tryz.prog.underlying 66 = some (.struct (Tryz.prog.fieldsOf 66)) := by kernel_rfl
  have hf : Tryz.prog.fieldsOf 66 = #[⟨ "Cycle", 3, 0, false, "", "", 0⟩, ⟨ "Pitch", 23, 1, false, "", "", 8⟩, ⟨ "Volume", 5, 2, false, "", "", 10⟩] := by kernel_rfl
  have hp : Tryz.prog.stoodInHeld 66 = false := by kernel_rfl
  have k1 : Tryz.prog.cellsOf 23 = 1 := by kernel_rfl
  have k2 : Tryz.prog.cellsOf 3 = 1 := by kernel_rfl
  have k3 : Tryz.prog.cellsOf 5 = 1 := by kernel_rfl
  rw [run_neq_struct, run_equalIn_agg W 9999 _ _ _ hs hp, hf]
  simp [go_sem, Tryz.underlying23, Tryz.underlying3, Tryz.underlying5, k1, k2, k3, Result.andThen]
theorem asone_walk (v : Value) (c : T.Ct) (ep : Option Addr) (ec : Nat) (bp : Option Addr) (bc : Nat) (kv : Value) (pp : Option Addr) (pcap : Nat) (ps : List UInt8) (zp : Option Addr) (zc : Nat) (zs : List Int) (w : World) (h : T.IsC w v c ep ec bp bc kv) (hn : ep = none → ec = 0) (hp : M.Sl w (.slice pp ps.length pcap) ps) (hz : Is w zp zs) :
    Calls Tryz.prog 5 #[v, .slice pp ps.length pcap, .slice zp zs.length zc] w fun e w' => e = .returned (.bool true) ∧ Below w.heap.size w w' := by
  have hv := h.val
  obtain ⟨kp, kc, hk, _⟩ := h.code.ex
  subst hk
  subst hv
  have hcvv : T.cv (.slice kp c.code.length kc) c.entry ep c.effs.length ec bp c.banks.length bc = .agg #[.slice kp c.code.length kc, .int .u16 (c.entry : Int), .slice ep c.effs.length ec, .slice bp c.banks.length bc] := rfl
  have hb := P.bel_alloc w (.cells #[.slice kp c.code.length kc, .int .u16 (c.entry : Int), .slice ep c.effs.length ec, .slice bp c.banks.length bc] 27)
  have hzz := heap_alloc_new w (.cells #[.slice kp c.code.length kc, .int .u16 (c.entry : Int), .slice ep c.effs.length ec, .slice bp c.banks.length bc] 27)
  have k1 := ownCart_any _ c ep ec bp bc _ _ (h.below hb) hn
  rw [hcvv] at k1
  unfold T.cv
  have HB := S.hid hb
  have HP := S.hid hp
  have HQ := S.hid hz
  have na := awake_any
  clear h hb hcvv hp hz
  go_enter Tryz.func5, Tryz.ntmps5
  go_wp2_with (refine wpList_load_row rfl 27 _ rfl w.heap.size rfl 27 _ (0, 0) _ hzz Tryz.underlying27 rfl (by exact size27) ?_)
  refine k1.mono ?_
  rintro e w1 ⟨v', ep', ec', bp', bc', kv', rfl, hI, h1⟩
  have HB1 := S.hid (trB HB.out h1 HB.out.size)
  clear k1 h1 hzz
  by_cases hm : T.may c = true
  case neg =>
    have k2 := new_no v' c ep' ec' bp' bc' kv' w1 hI (by simpa using hm)
    go_wp2_with fail
    refine k2.mono ?_
    rintro e w2 ⟨rfl, h2⟩
    have HB2 := S.hid (trB HB1.out h2 HB1.out.size)
    clear k2 h2 hI
    go_wp2_with (first | (go_at_call 11; refine (na _).mono ?_; rintro e we ⟨rfl, he⟩))
    go_ret
    exact ⟨rfl, trB HB2.out he HB2.out.size⟩
  have k2 := new_yes v' c ep' ec' bp' bc' kv' w1 hI hm
  go_wp2_with fail
  refine k2.mono ?_
  rintro e w2 ⟨g, bd, br, bm, ku, F, rfl, hM, hF, h2⟩
  have HB2 := S.hid (trB HB1.out h2 HB1.out.size)
  have HM := S.hid hM
  have HF := S.hid hF
  have h01 : w.heap.size ≤ w1.heap.size := HB1.out.size
  clear k2 h2 hI hM hF
  go_wp2_with (first | (go_at_call 11; refine (na _).mono ?_; rintro e w3 ⟨rfl, h3⟩))
  have hMc := HM.out.below h3
  have kc := copy_any g bd br bm ku F (born c) rfl (by simp [born, M.m0]) w3 hMc
  have HM3 := S.hid hMc
  have HB3 := S.hid (trB HB2.out h3 HB2.out.size)
  clear HB1 HB2 HM h3 na hm HB hMc
  go_wp2_with fail
  refine kc.mono ?_
  rintro e w4 ⟨g', bd', br', bm', G, rfl, hT, hT', h4⟩
  have HI := S.hid (OT.first HM3.out HF.out h01 HB3.out hT hT' h4)
  clear HM3 HF HB3 kc hT hT' h4 h01
  go_wp2
  go_loopw [10] (fun i wr => ∃ (k : Nat) (F' G' : Nat → Prop) (u x : VS), k ≤ 12 ∧ i = .int .i64 (k : Int) ∧ OT w wr g bd br bm g' bd' br' bm' ku F' G' u x) (fun i _ => 12 - (intOf i).toNat)
  case atStart => exact ⟨0, F, G, born c, born c, by omega, rfl, HI.out⟩
  case round =>
    clear HI
    obtain ⟨k, F', G', u, x, hk, rfl, I⟩ := hrel
    have w1' : wrap64 ((k : Int) + 1) = ((k + 1 : Nat) : Int) := by simp [wrap64]; omega
    by_cases hk1 : k < ps.length
    case neg =>
      have d1 : decide ((k : Int) < (ps.length : Int)) = false := decide_eq_false (by omega)
      have HBe := S.hid I.bl
      clear I HP HQ
      go_wp2
      go_ret
      exact ⟨rfl, HBe.out⟩
    have d1 : decide ((k : Int) < (ps.length : Int)) = true := decide_eq_true (by omega)
    by_cases hk2 : k < zs.length
    case neg =>
      have d2 : decide ((k : Int) < (zs.length : Int)) = false := decide_eq_false (by omega)
      have HBe := S.hid I.bl
      clear I HP HQ
      go_wp2
      go_ret
      exact ⟨rfl, HBe.out⟩
    have d2 : decide ((k : Int) < (zs.length : Int)) = true := decide_eq_true (by omega)
    by_cases hk12 : k < 12
    case neg =>
      have d3 : decide ((k : Int) < 12) = false := decide_eq_false (by omega)
      have HBe := S.hid I.bl
      clear I HP HQ
      go_wp2
      go_ret
      exact ⟨rfl, HBe.out⟩
    have d3 : decide ((k : Int) < 12) = true := decide_eq_true (by omega)
    have i1 : (k : Int) < (ps.length : Int) := by omega
    have i2 : (k : Int) < (zs.length : Int) := by omega
    obtain ⟨zb, zo, rfl, ez⟩ := (HQ.out.below rfl I.bl) k zs[k] (List.getElem?_eq_getElem hk2)
    obtain ⟨pp', cc', epp, hbs⟩ := HP.out.ex
    cases epp
    obtain ⟨px, hpx, epw⟩ := hbs.at k ps[k] (List.getElem?_eq_getElem hk1)
    subst hpx
    have epx := T.below_cell I.bl _ _ epw
    have HEP := S.hid epw
    clear epw
    generalize zs[k] = z at *
    generalize ps[k] = pad at *
    have kb := budget_any z wr
    obtain ⟨b0, b1⟩ := bud_r z
    have k3 := frame_any pad (bud z) b0 b1 g bd br bm ku F' u wr I.tw.a
    obtain ⟨sx, hux⟩ := I.cy
    have hfr : frame u (pad.toNat : Int) (bud z) = wk (bud z).toNat (bud z) { x with m := M.bg x.m (pad.toNat : Int) } 0 0 := by rw [hux]; rfl
    have hrr := wk_r (bud z) (bud z).toNat { x with m := M.bg x.m (pad.toNat : Int) } 0 0 (by omega)
    obtain ⟨N, hN1, hN2, hN3, hN4, hN5⟩ := wk_it (bud z) (bud z).toNat { x with m := M.bg x.m (pad.toNat : Int) } 0 0 (by omega)
    have hit := it_tones N { x with m := M.bg x.m (pad.toNat : Int) } 0
    rw [← hfr] at hrr hN1 hN2 hN5
    have htn := wk_tones (bud z) (bud z).toNat { x with m := M.bg x.m (pad.toNat : Int) } 0 0
    rw [← hfr] at htn
    have htz : ({ x with m := M.bg x.m (pad.toNat : Int) } : VS).m.tones.length = 0 := rfl
    rw [htz] at htn
    obtain ⟨r, hr⟩ : ∃ r, r = frame u (pad.toNat : Int) (bud z) := ⟨_, rfl⟩
    rw [← hr] at hrr hN1 hN2 hN5 k3 htn
    obtain ⟨u0, hu0⟩ : ∃ u0 : VS, u0 = { x with m := M.bg x.m (pad.toNat : Int) } := ⟨_, rfl⟩
    rw [← hu0] at hN2 hN3 hN4 hN5 hit
    have ht0 : u0.m.tones.length = 0 := by rw [hu0]; rfl
    obtain ⟨B, hB⟩ : ∃ B, B = bud z := ⟨_, rfl⟩
    rw [← hB] at k3 kb b0 b1 hrr hN5
    clear hfr hr
    have htl : r.v.m.tones.length ≤ 60000 := by omega
    clear hB htn htz
    obtain ⟨uu, n, s⟩ := r
    simp only [Int.sub_zero, Int.zero_add] at k3 hrr hN1 hN2 hN5 htl
    obtain ⟨n0, n1, n2, n3⟩ := hrr
    obtain ⟨sN, hsN⟩ : ∃ sN, sN = (it N u0 0).2 := ⟨_, rfl⟩
    rw [← hsN] at hN2 hN5
    subst hN1 hN2
    have hNB : (N : Int) ≤ 16384 := by omega
    unfold OutV at k3
    simp only at k3
    have HII := S.hid I
    have HOK := S.hid hN3
    have HNY := S.hid hN4
    have HEND := S.hid hN5
    have HU0 := S.hid hu0
    have HSN := S.hid hsN
    have HT0 := S.hid ht0
    have HSB := S.hid (show 0 ≤ s ∧ s ≤ B ∧ B ≤ 16384 from ⟨by omega, n3, b1⟩)
    clear b0 HP HQ hbs n0 n1 n2 n3 I hN3 hN4 hN5 hk hk1 hk2 hu0 hsN ht0 hit b1 hux
    go_wp2_with (first | (go_at_call 12; refine kb.mono ?_; rintro e wb ⟨rfl, hwb⟩; obtain rfl := hwb.symm))
    refine k3.mono ?_
    rintro e w1 ⟨p1, c1, p2, c2, rfl, hrw, htr, hV⟩
    have hscr : uu.m.scr.length = 3072 := hV.s.ps.m.wf.scr
    obtain ⟨z3, r3, b3⟩ := mkRow w1 #[.int .i64 0, .int .i64 0, .int .i64 0, .int .i64 0, .int .i64 0, .slice none 0 0, .slice none 0 0] #[.int .i64 uu.st, .int .i64 uu.fa, .int .i64 (N : Int), .int .i64 s, .int .i64 (B - s), .slice p1 3072 c1, .slice p2 uu.m.tones.length c2] 39
    have hKI := KI.first HII.out.tw HII.out.bl hV b3
    have HTR := S.hid (S.own_kept htr fun i e hi => b3.block i hi)
    have HRW := S.hid (S.own_kept hrw fun i e hi => b3.block i hi)
    have HSC := S.hid hscr
    have HL0 := S.hid (show wr.heap.size ≤ w1.heap.size from hV.t.size)
    have hso : ((w1.alloc (.cells #[.int .i64 0, .int .i64 0, .int .i64 0, .int .i64 0, .int .i64 0, .slice none 0 0, .slice none 0 0] 39)).setRow w1.heap.size #[.int .i64 uu.st, .int .i64 uu.fa, .int .i64 (N : Int), .int .i64 s, .int .i64 (B - s), .slice p1 3072 c1, .slice p2 uu.m.tones.length c2]).heap.size = w1.heap.size + 1 := by rw [setRow_size]; simp
    rw [hscr]
    clear k3 kb hrw hV ez hscr b3 htr HII
    go_wp2_with (refine wpList_store_row rfl 39 _ _ rfl w1.heap.size _ rfl rfl 39 #[.int .i64 0, .int .i64 0, .int .i64 0, .int .i64 0, .int .i64 0, .slice none 0 0, .slice none 0 0] z3 (by exact size39) (by rfl) (by simp [Value.oneCell']) ?_)
    generalize hwo : ((w1.alloc (.cells #[.int .i64 0, .int .i64 0, .int .i64 0, .int .i64 0, .int .i64 0, .slice none 0 0, .slice none 0 0] 39)).setRow w1.heap.size #[.int .i64 uu.st, .int .i64 uu.fa, .int .i64 (N : Int), .int .i64 s, .int .i64 (B - s), .slice p1 3072 c1, .slice p2 uu.m.tones.length c2]) = wo at *
    clear hwo z3
    generalize hF1 : M.gr F' wr w1 = F1 at *
    clear hF1
    have HR3 := S.hid r3
    have HLo := S.hid (show w1.heap.size < wo.heap.size by omega)
    clear epx r3 hso
    have HKI := S.hid hKI
    clear hKI
    have hKd := HKI.out.below (w2 := wo.drew) ⟨rfl, rfl, rfl, Nat.le_refl _, fun _ _ => rfl⟩
    have km := memory_any g' bd' br' bm' ku G' x wo.drew hKd.tw.b
    have kg := M.begin_any bm' pad wo.drew hKd.tw.b.ps.m
    have s0 : (fun w' : World => w'.cell? (px.add k) = some (.int .u8 (pad.toNat : Int))) wo.drew := T.below_cell hKd.bl _ _ HEP.out
    have HKd := S.hid hKd
    clear hKd
    refine wp_region_held_drew (S := (fun w' => w'.cell? (px.add k) = some (.int .u8 (pad.toNat : Int)))) (by kernel_rfl) s0 (fun hHeld => ?_)
    refine wpAnyH_take (i := 0) (v := ?_) rfl (by kernel_rfl) (by kernel_rfl) (by kernel_rfl) (fun c a w h => h) (Or.inl ⟨by rfl, ?_⟩) hHeld ?_
    rotate_left
    · (intro w hSw; (try dsimp only at hSw); go_simp; try with_reducible rfl)
    simp only [Act.put, List.getElem_toArray, List.getElem_cons_zero, List.getElem_cons_succ, List.setIfInBounds_toArray, List.set_cons_zero, List.set_cons_succ]
    refine wpAnyH_take (i := 2) (v := ?_) rfl (by kernel_rfl) (by kernel_rfl) (by kernel_rfl) (fun c a w h => h) (Or.inl ⟨by rfl, ?_⟩) hHeld ?_
    rotate_left
    · (intro w hSw; (try dsimp only at hSw); go_simp; try with_reducible rfl)
    simp only [Act.put, List.getElem_toArray, List.getElem_cons_zero, List.getElem_cons_succ, List.setIfInBounds_toArray, List.set_cons_zero, List.set_cons_succ]
    refine wpAnyH_take (i := 3) (v := ?_) rfl (by kernel_rfl) (by kernel_rfl) (by kernel_rfl) (fun c a w h => h) (Or.inl ⟨by rfl, ?_⟩) hHeld ?_
    rotate_left
    · (intro w hSw; (try dsimp only at hSw); go_simp; try with_reducible rfl)
    simp only [Act.put, List.getElem_toArray, List.getElem_cons_zero, List.getElem_cons_succ, List.setIfInBounds_toArray, List.set_cons_zero, List.set_cons_succ]
    refine wpAnyH_take (i := 4) (v := ?_) rfl (by kernel_rfl) (by kernel_rfl) (by kernel_rfl) (fun c a w h => h) (Or.inl ⟨by rfl, ?_⟩) hHeld ?_
    rotate_left
    · (intro w hSw; (try dsimp only at hSw); go_simp; try with_reducible rfl)
    simp only [Act.put, List.getElem_toArray, List.getElem_cons_zero, List.getElem_cons_succ, List.setIfInBounds_toArray, List.set_cons_zero, List.set_cons_succ]
    refine wpAnyH_take (i := 5) (v := ?_) rfl (by kernel_rfl) (by kernel_rfl) (by kernel_rfl) (fun c a w h => h) (Or.inl ⟨by rfl, ?_⟩) hHeld ?_
    rotate_left
    · (intro w hSw; (try dsimp only at hSw); go_simp; try with_reducible rfl)
    simp only [Act.put, List.getElem_toArray, List.getElem_cons_zero, List.getElem_cons_succ, List.setIfInBounds_toArray, List.set_cons_zero, List.set_cons_succ]
    refine wpAnyH_ready (rs := [1]) (by kernel_rfl) (by simp) ?_
    refine AllReadyH.cons rfl (fun K hK => ?_) AllReadyH.nil
    go_simp
    refine km.mono ?_
    rintro e wm ⟨rfl, hwm⟩
    obtain rfl := hwm.symm
    refine hK.out _ _ s0 (fun hHeld => ?_)
    clear hK K
    try simp only [Act.put, List.getElem_toArray, List.getElem_cons_zero, List.getElem_cons_succ, List.setIfInBounds_toArray, List.set_cons_zero, List.set_cons_succ]
    refine wpAnyH_ready (rs := [6]) (by kernel_rfl) (by simp) ?_
    refine AllReadyH.cons rfl (fun K hK => ?_) AllReadyH.nil
    go_simp
    refine kg.mono ?_
    rintro e w2 ⟨rfl, hd⟩
    have hV2 : VD wo.drew w2 g' bd' br' bm' ku G' { x with m := M.bg x.m (pad.toNat : Int) } := HKd.out.tw.b.goes (HKd.out.tw.b.ps.mem hd) HKd.out.tw.b.wf.d HKd.out.tw.b.wf.r
    have hK2 := HKd.out.right hV2
    rw [← HU0.out] at hK2
    have HK2 := S.hid hK2
    have s2 : (fun w' : World => w'.cell? (px.add k) = some (.int .u8 (pad.toNat : Int))) w2 := T.below_cell hK2.bl _ _ HEP.out
    clear hV2 hK2 hd
    refine hK.out _ _ s2 (fun hHeld => ?_)
    clear hK K
    refine wpAnyH_done (by kernel_rfl) ?_ _
    clear km kg s0 HKd HKI
    obtain ⟨lo, hlo⟩ : ∃ lo, lo = wr.heap.size := ⟨_, rfl⟩
    rw [← hlo] at HK2 HL0 HTR HRW
    clear hlo
    go_wp2
    go_loopw [14, 15, 16] (fun sp yl kk wq => ∃ (j : Nat) (G : Nat → Prop), j ≤ N ∧ kk = .int .i64 (j : Int) ∧ sp = .int .i64 (it j u0 0).2 ∧ yl = .bool (yv u0 j) ∧ KI w wo wq lo g bd br bm g' bd' br' bm' ku F1 G uu (it j u0 0).1) (fun _ _ kk _ => N - (intOf kk).toNat)
    case atStart => exact ⟨0, _, by omega, rfl, rfl, rfl, HK2.out⟩
    case round =>
      clear HK2
      obtain ⟨j, G, hj, rfl, rfl, hyl, K⟩ := hrel
      have rO := (K.kp _ HL0.out HLo.out).trans HR3.out
      by_cases hjN : j < N
      · have hy := yv_no HNY.out j hjN
        rw [hy] at hyl
        subst hyl
        obtain ⟨o1, o2, o3⟩ := HOK.out j hjN
        have hit := it_r j u0 0
        have htn := it_tones j u0 0
        rw [HT0.out] at htn
        have es := step_it _ _ ⟨o1, o2, o3⟩
        have esu := it_succ j u0 0
        have hop := look_ok _ o1 o2
        have kl := look_any g' bd' br' bm' ku G _ wr K.tw.b
        rw [prV_op _ hop.1, o2] at kl
        have hyv : yv u0 (j + 1) = ((look (it j u0 0).1).op == 10) := rfl
        obtain ⟨xj, hxj⟩ : ∃ xj, xj = (it j u0 0).1 := ⟨_, rfl⟩
        obtain ⟨sj, hsj⟩ : ∃ sj, sj = (it j u0 0).2 := ⟨_, rfl⟩
        rw [← hxj] at o1 o2 o3 htn es esu hop kl hyv K
        rw [← hsj] at o3 hit es esu
        rw [← hsj]
        clear hxj hsj
        obtain ⟨op, hop'⟩ : ∃ op, op = (look xj).op := ⟨_, rfl⟩
        rw [← hop'] at hop kl hyv es esu o3
        clear hop'
        have HTN := S.hid (Nat.le_trans htn (a_tn hjN hNB))
        have hrc := rc_r op
        have f1 : decide (P.rc op < 1) = false := decide_eq_false (Int.not_lt.mpr hrc.1)
        have f2 : wrap64 (sj + P.rc op) = sj + P.rc op := a_f2 hit hrc hjN hNB
        have f3 : decide ((j : Int) < (N : Int)) = true := decide_eq_true (Int.ofNat_lt.mpr hjN)
        have w2' : wrap64 ((j : Int) + 1) = ((j + 1 : Nat) : Int) := a_w2 hjN hNB
        have x2 := S.cell_of _ _ 2 [.int .i64 uu.st, .int .i64 uu.fa, .int .i64 (N : Int), .int .i64 s, .int .i64 (B - s), .slice p1 3072 c1, .slice p2 uu.m.tones.length c2] _ _ rO rfl
        have HK := S.hid K
        have HES := S.hid es
        have HEU := S.hid esu
        have HYV := S.hid hyv
        have HST := S.hid o1
        generalize (look xj).x = lx at kl
        clear K es esu hyv o1 o2 o3 htn hop hrc hit rO
        go_wp2_with fail
        refine kl.mono ?_
        rintro e w5 ⟨rfl, h5⟩
        obtain ⟨z6, r6, b6⟩ := mkRow w5 #[.int .i64 0, .string { data := #[] }, .int .i64 0, .int .i64 0, .int .i64 0, .bool false] #[.int .i64 (op : Int), .string (P.nm op), .int .i64 (P.ri op), .int .i64 (P.ro op), .int .i64 (P.rc op), .bool (P.rb op)] 49
        have hK6 := HK.out.below (trB h5 b6 h5.size)
        have k4 := state_any g' bd' br' bm' ku G xj _ hK6.tw.b
        unfold StV at k4
        rw [HST.out] at k4
        have x4 := S.cell_of _ _ 4 [.int .i64 (op : Int), .string (P.nm op), .int .i64 (P.ri op), .int .i64 (P.ro op), .int .i64 (P.rc op), .bool (P.rb op)] _ _ r6 rfl
        have HR6 := S.hid r6
        have HK6 := S.hid hK6
        have HS5 := S.hid (show wr.heap.size ≤ w5.heap.size from h5.size)
        clear r6 b6 hK6 kl h5 x2 f3
        go_wp2_with (refine wpList_store_row rfl 49 _ _ rfl w5.heap.size _ rfl rfl 49 #[.int .i64 0, .string { data := #[] }, .int .i64 0, .int .i64 0, .int .i64 0, .bool false] z6 (by exact P.sizeR) (by rfl) (by simp [Value.oneCell']) ?_)
        refine k4.mono ?_
        rintro e w7 ⟨q1, d1', q2, d2', rfl, _, _, h7⟩
        have hK7 := HK6.out.below h7
        have hr7 := (h7.block _ (S.lt_of HR6.out)).trans HR6.out
        have km := memory_any g' bd' br' bm' ku G xj w7 hK7.tw.b
        have nf := field_st
        have ka := M.at_any bm' sj w7 hK7.tw.b.ps.m
        have HK7 := S.hid hK7
        have HR7 := S.hid hr7
        clear k4 h7 HK6 HR6 hK7 hr7 z6 x4 f1
        go_wp2_with fail
        refine km.mono ?_
        rintro e wm ⟨rfl, hwm⟩
        obtain rfl := hwm.symm
        go_wp2_with fail
        refine ka.mono ?_
        rintro e w8 ⟨rfl, hd⟩
        have hV8 : VD w7 w8 g' bd' br' bm' ku G (cyc sj xj) := HK7.out.tw.b.goes (HK7.out.tw.b.ps.mem hd) HK7.out.tw.b.wf.d HK7.out.tw.b.wf.r
        have ks := step_any (cyc sj xj) (Nat.le_trans HTN.out (by omega)) g' bd' br' bm' ku _ w8 hV8.s
        rw [HES.out] at ks
        have HV8 := S.hid hV8
        clear km ka hd hV8 nf
        go_wp2_with fail
        refine ks.mono ?_
        rintro e w9 ⟨rfl, h9⟩
        have hV9 := VD.trans HK7.out.tw.b HV8.out h9
        have hr9 := (hV9.other HK.out.tw.b (Nat.le_trans HS5.out (Nat.le_of_lt (S.lt_of HR7.out))) w5.heap.size HS5.out (S.lt_of HR7.out)).trans HR7.out
        have x4 := S.cell_of _ _ 4 [.int .i64 (op : Int), .string (P.nm op), .int .i64 (P.ri op), .int .i64 (P.ro op), .int .i64 (P.rc op), .bool (P.rb op)] _ _ hr9 rfl
        have HK9 := S.hid (HK7.out.right hV9)
        clear ks h9 hV9 hr9 HV8 HK7 HR7 HK HS5
        go_wp2
        go_roundw
        case rel =>
          rw [← HYV.out]
          exact ⟨j + 1, _, hjN, (by first | rfl | rw [w2']), (by rw [HEU.out, f2]), rfl, (by rw [HEU.out]; exact HK9.out)⟩
        case measure => exact msr2 N _ _ j (by first | rfl | rw [w2']) rfl hjN
      · skip
        obtain rfl : N = j := by omega
        have hit := it_tones N u0 0
        rw [HT0.out] at hit
        have HTX := S.hid (show (it N u0 0).1.m.tones.length ≤ 60000 from Nat.le_trans hit (by clear hit; omega))
        rw [← HSN.out]
        have hEND := HEND.out
        obtain ⟨xN, hxN⟩ : ∃ xN, xN = (it N u0 0).1 := ⟨_, rfl⟩
        rw [← hxN] at K HTX hEND
        have HE := S.hid hEND
        subst hyl
        have x2 := S.cell_of _ _ 2 [.int .i64 uu.st, .int .i64 uu.fa, .int .i64 (N : Int), .int .i64 s, .int .i64 (B - s), .slice p1 3072 c1, .slice p2 uu.m.tones.length c2] _ _ rO rfl
        have x3 := S.cell_of _ _ 3 [.int .i64 uu.st, .int .i64 uu.fa, .int .i64 (N : Int), .int .i64 s, .int .i64 (B - s), .slice p1 3072 c1, .slice p2 uu.m.tones.length c2] _ _ rO rfl
        have f3 : decide ((N : Int) < (N : Int)) = false := decide_eq_false (Int.lt_irrefl _)
        have HK := S.hid K
        have HRO := S.hid rO
        clear K rO hit hxN hEND HEND HOK HNY HSN
        go_upto_region 28 with fail
        try simp only [Act.put, List.setIfInBounds_toArray, List.set_cons_zero, List.set_cons_succ]
        go_cut [15, 144] (fun s15 sb wc => s15 = .bool (yv u0 N) ∧ ∃ b : Bool, sb = .bool b ∧ (b = true ↔ (yv u0 N = false ∧ 0 < B - s ∧ xN.st = 1)) ∧ KI w wo wc lo g bd br bm g' bd' br' bm' ku F1 G uu xN)
        case first =>
          as_aux_lemma =>
            have x4 := S.cell_of _ _ 4 [.int .i64 uu.st, .int .i64 uu.fa, .int .i64 (N : Int), .int .i64 s, .int .i64 (B - s), .slice p1 3072 c1, .slice p2 uu.m.tones.length c2] _ _ HRO.out rfl
            by_cases hy : yv u0 N = true
            · rw [hy]
              go_wp2
              go_meet
              case rel => exact ⟨by rw [hy], false, rfl, ⟨fun e => Bool.noConfusion e, fun e => by rw [hy] at e; exact Bool.noConfusion e.1⟩, HK.out⟩
            · have hy : yv u0 N = false := by simpa using hy
              rw [hy]
              by_cases hb : 0 < B - s
              · have f4 : decide (0 < B - s) = true := decide_eq_true hb
                have k4 := state_any g' bd' br' bm' ku G xN _ HK.out.tw.b
                unfold StV at k4
                have nf := field_st
                by_cases hst : xN.st = 1
                · rw [hst] at k4
                  go_wp2_with (first | (go_at_call 14; refine k4.mono ?_; rintro e w7 ⟨q1, d1', q2, d2', rfl, _, _, h7⟩))
                  go_meet
                  case rel => exact ⟨by rw [hy], true, rfl, ⟨fun _ => ⟨hy, hb, hst⟩, fun _ => rfl⟩, HK.out.below h7⟩
                · have f5 : (xN.st == 1) = false := beq_eq_false_iff_ne.mpr hst
                  go_wp2_with (first | (go_at_call 14; refine k4.mono ?_; rintro e w7 ⟨q1, d1', q2, d2', rfl, _, _, h7⟩))
                  go_meet
                  case rel => exact ⟨by rw [hy], false, rfl, ⟨fun e => Bool.noConfusion e, fun e => absurd e.2.2 hst⟩, HK.out.below h7⟩
              · have f4 : decide (0 < B - s) = false := decide_eq_false hb
                go_wp2
                go_meet
                case rel => exact ⟨by rw [hy], false, rfl, ⟨fun e => Bool.noConfusion e, fun e => absurd e.2.1 (Int.not_lt.mpr hb)⟩, HK.out⟩
        case rest =>
          obtain ⟨rfl, b, rfl, hb, K⟩ := hcut
          have HBB := S.hid hb
          have HK1 := S.hid K
          clear hb K HK x2 x3 f3 HRO
          go_upto_if 144 with fail
          try simp only [Act.put, List.setIfInBounds_toArray, List.set_cons_zero, List.set_cons_succ]
          go_cut [] (fun wd => ∃ (G2 : Nat → Prop) (y : VS) (s2 : Int), uu = cyc s2 y ∧ y.m.tones.length ≤ 70000 ∧ KI w wo wd lo g bd br bm g' bd' br' bm' ku F1 G2 uu y)
          case first =>
            as_aux_lemma =>
              cases b
              · have e := end_no HE.out (fun h => by have := HBB.out.mpr h; cases this)
                go_wp2
                go_meet
                case rel => exact ⟨G, xN, _, e.trans (cyc_self xN), Nat.le_trans HTX.out (by decide), HK1.out⟩
              · rcases end_yes HE.out (HBB.out.mp rfl) with ⟨e1, e2, e3, e4⟩ | ⟨e1, e2, e3⟩ | ⟨e1, e2, e3, y, e4, e5, e6⟩
                · have kl := look_any g' bd' br' bm' ku G xN _ HK1.out.tw.b
                  rw [prV_op _ e2, e1] at kl
                  generalize (look xN).op = op at *
                  have f5 : decide (P.rc op ≤ B - s) = false := decide_eq_false (Int.not_le.mpr e3)
                  generalize (look xN).x = lx at kl
                  clear HBB e1 e2 e3 HE
                  go_wp2_with fail
                  refine kl.mono ?_
                  rintro e w5 ⟨rfl, h5⟩
                  obtain ⟨z6, r6, b6⟩ := mkRow w5 #[.int .i64 0, .string { data := #[] }, .int .i64 0, .int .i64 0, .int .i64 0, .bool false] #[.int .i64 (op : Int), .string (P.nm op), .int .i64 (P.ri op), .int .i64 (P.ro op), .int .i64 (P.rc op), .bool (P.rb op)] 49
                  have hK6 := HK1.out.below (trB h5 b6 h5.size)
                  have rO := (hK6.kp _ HL0.out HLo.out).trans HR3.out
                  have x4 := S.cell_of _ _ 4 [.int .i64 uu.st, .int .i64 uu.fa, .int .i64 (N : Int), .int .i64 s, .int .i64 (B - s), .slice p1 3072 c1, .slice p2 uu.m.tones.length c2] _ _ rO rfl
                  have y4 := S.cell_of _ _ 4 [.int .i64 (op : Int), .string (P.nm op), .int .i64 (P.ri op), .int .i64 (P.ro op), .int .i64 (P.rc op), .bool (P.rb op)] _ _ r6 rfl
                  have HK6 := S.hid hK6
                  clear r6 b6 hK6 kl h5 rO
                  go_wp2_with (refine wpList_store_row rfl 49 _ _ rfl w5.heap.size _ rfl rfl 49 #[.int .i64 0, .string { data := #[] }, .int .i64 0, .int .i64 0, .int .i64 0, .bool false] z6 (by exact P.sizeR) (by rfl) (by simp [Value.oneCell']) ?_)
                  go_meet
                  case rel => exact ⟨G, xN, _, e4.trans (cyc_self xN), Nat.le_trans HTX.out (by decide), HK6.out⟩
                · have kl := look_any g' bd' br' bm' ku G xN _ HK1.out.tw.b
                  rw [e2, prV_0] at kl
                  generalize (look xN).f = lf at *
                  have f5 : (lf == 0) = false := beq_eq_false_iff_ne.mpr e1
                  have f6 : (lf != 0) = true := by simpa using e1
                  generalize (look xN).x = lx at kl
                  clear HBB e1 e2 HE
                  go_wp2_with fail
                  refine kl.mono ?_
                  rintro e w5 ⟨rfl, h5⟩
                  obtain ⟨z6, r6, b6⟩ := mkRow w5 #[.int .i64 0, .string { data := #[] }, .int .i64 0, .int .i64 0, .int .i64 0, .bool false] #[.int .i64 0, .string { data := #[] }, .int .i64 0, .int .i64 0, .int .i64 0, .bool false] 49
                  have hK6 := HK1.out.below (trB h5 b6 h5.size)
                  have ks := step_any xN (Nat.le_trans HTX.out (by decide)) g' bd' br' bm' ku _ _ hK6.tw.b
                  rw [e3] at ks
                  have HK6 := S.hid hK6
                  clear r6 b6 hK6 kl h5
                  go_wp2_with (refine wpList_store_row rfl 49 _ _ rfl w5.heap.size _ rfl rfl 49 #[.int .i64 0, .string { data := #[] }, .int .i64 0, .int .i64 0, .int .i64 0, .bool false] z6 (by exact P.sizeR) (by rfl) (by simp [Value.oneCell']) ?_)
                  refine ks.mono ?_
                  rintro e w9 ⟨rfl, h9⟩
                  have HK9 := S.hid (HK6.out.right h9)
                  clear ks h9 HK6
                  go_wp2
                  go_meet
                  case rel => exact ⟨_, uu, _, cyc_self uu, Nat.le_trans htl (by decide), HK9.out⟩
                · have kl := look_any g' bd' br' bm' ku G xN _ HK1.out.tw.b
                  rw [prV_op _ e2, e1] at kl
                  generalize (look xN).op = op at *
                  have f5 : decide (P.rc op ≤ B - s) = true := decide_eq_true e3
                  generalize (look xN).x = lx at kl
                  clear HBB e1 e2 e3 HE
                  go_wp2_with fail
                  refine kl.mono ?_
                  rintro e w5 ⟨rfl, h5⟩
                  obtain ⟨z6, r6, b6⟩ := mkRow w5 #[.int .i64 0, .string { data := #[] }, .int .i64 0, .int .i64 0, .int .i64 0, .bool false] #[.int .i64 (op : Int), .string (P.nm op), .int .i64 (P.ri op), .int .i64 (P.ro op), .int .i64 (P.rc op), .bool (P.rb op)] 49
                  have hK6 := HK1.out.below (trB h5 b6 h5.size)
                  have ks := step_any xN (Nat.le_trans HTX.out (by decide)) g' bd' br' bm' ku _ _ hK6.tw.b
                  rw [e4] at ks
                  have rO := (hK6.kp _ HL0.out HLo.out).trans HR3.out
                  have x4 := S.cell_of _ _ 4 [.int .i64 uu.st, .int .i64 uu.fa, .int .i64 (N : Int), .int .i64 s, .int .i64 (B - s), .slice p1 3072 c1, .slice p2 uu.m.tones.length c2] _ _ rO rfl
                  have y4 := S.cell_of _ _ 4 [.int .i64 (op : Int), .string (P.nm op), .int .i64 (P.ri op), .int .i64 (P.ro op), .int .i64 (P.rc op), .bool (P.rb op)] _ _ r6 rfl
                  have HK6 := S.hid hK6
                  clear r6 b6 hK6 kl h5 rO
                  go_wp2_with (refine wpList_store_row rfl 49 _ _ rfl w5.heap.size _ rfl rfl 49 #[.int .i64 0, .string { data := #[] }, .int .i64 0, .int .i64 0, .int .i64 0, .bool false] z6 (by exact P.sizeR) (by rfl) (by simp [Value.oneCell']) ?_)
                  refine ks.mono ?_
                  rintro e w9 ⟨rfl, h9⟩
                  have hK9 := HK6.out.right h9
                  have k4 := state_any g' bd' br' bm' ku _ y _ hK9.tw.b
                  unfold StV at k4
                  rw [e5] at k4
                  have nf := field_st
                  have HK9 := S.hid hK9
                  clear ks h9 HK6 hK9 x4 y4 f5 z6
                  go_wp2_with fail
                  refine k4.mono ?_
                  rintro e w7 ⟨q1, d1', q2, d2', rfl, _, _, h7⟩
                  have HK7 := S.hid (HK9.out.below h7)
                  have hty : y.m.tones.length ≤ 70000 := by rw [← tones_cyc e6]; exact Nat.le_trans htl (by decide)
                  clear k4 h7 HK9
                  go_wp2
                  go_meet
                  case rel => exact ⟨_, y, _, e6, hty, HK7.out⟩
          case rest =>
            as_aux_lemma =>
              obtain ⟨G2, y, s2, hy2, hty, K2⟩ := hcut
              have eT : uu.m.tones = y.m.tones := by rw [hy2]; rfl
              have eS : uu.m.scr = y.m.scr := by rw [hy2]; rfl
              have hTR := K2.row HTR.out
              have hRW := K2.row HRW.out
              have rO := (K2.kp _ HL0.out HLo.out).trans HR3.out
              rw [eT] at hTR rO
              have hsc := HSC.out
              rw [eS] at hRW hsc
              rw [hsc] at hRW
              have hsl : M.Sl wc (.slice p1 3072 c1) y.m.scr := by
                have := M.Row.sl (W := wc) (B := lo) (v := .slice p1 3072 c1) (l := y.m.scr) (by unfold M.Row; rw [hsc]; exact hRW)
                exact this
              obtain ⟨ss, hss⟩ : ∃ ss : ByteArray, ss = ⟨y.m.scr.toArray⟩ := ⟨_, rfl⟩
              have hS : ∀ W', Below wc.heap.size wc W' → (fun w' : World => w'.cell? ⟨w1.heap.size, 5, none⟩ = some (.slice p1 3072 c1) ∧ w'.cell? ⟨w1.heap.size, 6, none⟩ = some (.slice p2 y.m.tones.length c2) ∧ (convert 22 9 (.slice p1 3072 c1)).run Tryz.prog w' = .ok (.string ss) w') W' := fun W' hb => ⟨T.below_cell hb _ _ (S.cell_of _ _ 5 [.int .i64 uu.st, .int .i64 uu.fa, .int .i64 (N : Int), .int .i64 s, .int .i64 (B - s), .slice p1 3072 c1, .slice p2 y.m.tones.length c2] _ _ rO rfl), T.below_cell hb _ _ (S.cell_of _ _ 6 [.int .i64 uu.st, .int .i64 uu.fa, .int .i64 (N : Int), .int .i64 s, .int .i64 (B - s), .slice p1 3072 c1, .slice p2 y.m.tones.length c2] _ _ rO rfl), by rw [hss]; exact Sl_conv (hsl.below hb) (by rw [hsc]; exact ml3072')⟩
              have HS := S.hid hS
              have HSS := S.hid hss
              have HC := S.hid hsc
              have HTR2 := S.hid hTR
              have HD2 := S.hid (And.intro K2.tw.b.ps.d.2 K2.tw.b.ps.r.2)
              have HY2 := S.hid hy2
              have hKd := K2.below (below_drew wc)
              have k1 := state_as g bd br bm ku F1 uu y s2 hy2 wc.drew hKd.tw.a
              have s0 := hS _ (below_drew wc)
              have HK2 := S.hid K2
              have HKd := S.hid hKd
              clear hS hss hsc hTR hRW rO K2 hy2 eT eS hsl hKd HK1 HBB HE HTX HR3 HRW HTR
              go_upto_region 36 with fail
              refine wp_region_held_drew (S := (fun w' : World => w'.cell? ⟨w1.heap.size, 5, none⟩ = some (.slice p1 3072 c1) ∧ w'.cell? ⟨w1.heap.size, 6, none⟩ = some (.slice p2 y.m.tones.length c2) ∧ (convert 22 9 (.slice p1 3072 c1)).run Tryz.prog w' = .ok (.string ss) w')) (by kernel_rfl) s0 (fun hHeld => ?_)
              clear s0
              refine wpAnyH_take (i := 0) (v := ?_) rfl (by kernel_rfl) (by kernel_rfl) (by kernel_rfl) (fun c a w h => h) (Or.inl ⟨by rfl, ?_⟩) hHeld ?_
              rotate_left
              · (intro w hSw; (try dsimp only at hSw); go_simp; try with_reducible rfl)
              simp only [Act.put, List.getElem_toArray, List.getElem_cons_zero, List.getElem_cons_succ, List.setIfInBounds_toArray, List.set_cons_zero, List.set_cons_succ]
              refine wpAnyH_take (i := 2) (v := ?_) rfl (by kernel_rfl) (by kernel_rfl) (by kernel_rfl) (fun c a w h => h) (Or.inl ⟨by rfl, ?_⟩) hHeld ?_
              rotate_left
              · (intro w hSw; (try dsimp only at hSw); go_simp; try with_reducible rfl)
              simp only [Act.put, List.getElem_toArray, List.getElem_cons_zero, List.getElem_cons_succ, List.setIfInBounds_toArray, List.set_cons_zero, List.set_cons_succ]
              refine wpAnyH_ready (rs := [1]) (by kernel_rfl) (by simp) ?_
              refine AllReadyH.cons rfl (fun K hK => ?_) AllReadyH.nil
              go_simp
              refine k1.mono ?_
              rintro e wa ⟨a1, ac1, a2, ac2, rfl, ra1, ra2, ha⟩
              have hKa := HKd.out.below ha
              have k2 := state_any g' bd' br' bm' ku G2 y wa hKa.tw.b
              have HBa := S.hid (trB (below_drew wc) ha (Nat.le_refl _))
              have sa := HS.out wa HBa.out
              have HA1 := S.hid ra1
              have HA2 := S.hid ra2
              have HKa := S.hid hKa
              clear k1 ra1 ra2 ha hKa HKd
              refine hK.out _ _ sa (fun hHeld => ?_)
              clear hK K
              refine wpAnyH_ready (rs := [3]) (by kernel_rfl) (by simp) ?_
              refine AllReadyH.cons rfl (fun K hK => ?_) AllReadyH.nil
              go_simp
              refine k2.mono ?_
              rintro e wb ⟨b1, bc1, b2, bc2, rfl, rb1, rb2, hb⟩
              have hKb := HKa.out.below hb
              have k3 := same_true y a1 a2 b1 b2 ac1 ac2 bc1 bc2 HD2.out.1 HD2.out.2 wb (slU (S.own_kept HA1.out fun i e hi => hb.block i hi)) (slK (S.own_kept HA2.out fun i e hi => hb.block i hi)) (slU rb1) (slK rb2)
              have HBb := S.hid (trB HBa.out hb HBa.out.size)
              have sb := HS.out wb HBb.out
              have HKb := S.hid hKb
              clear k2 rb1 rb2 hb hKb HKa HA1 HA2 HBa sa
              refine hK.out _ _ sb (fun hHeld => ?_)
              clear hK K
              refine wpAnyH_ready (rs := [4]) (by kernel_rfl) (by simp) ?_
              refine AllReadyH.cons rfl (fun K hK => ?_) AllReadyH.nil
              go_simp
              refine k3.mono ?_
              rintro e wz ⟨rfl, hz⟩
              have hKz := HKb.out.below hz
              have km := memory_any g' bd' br' bm' ku G2 y wz hKz.tw.b
              have kn := M.screen_any bm' wz hKz.tw.b.ps.m
              have HBz := S.hid (trB HBb.out hz HBb.out.size)
              have sz := HS.out wz HBz.out
              have HKz := S.hid hKz
              clear k3 hz hKz HKb HBb sb
              refine hK.out _ _ sz (fun hHeld => ?_)
              clear hK K
              refine wpAnyH_take (i := 5) (v := ?_) rfl (by kernel_rfl) (by kernel_rfl) (by kernel_rfl) (fun c a w h => h) (Or.inl ⟨by rfl, ?_⟩) hHeld ?_
              rotate_left
              · (intro w hSw; (try dsimp only at hSw); go_simp; try with_reducible rfl)
              simp only [Act.put, List.getElem_toArray, List.getElem_cons_zero, List.getElem_cons_succ, List.setIfInBounds_toArray, List.set_cons_zero, List.set_cons_succ]
              refine wpAnyH_take (i := 6) (v := ?_) rfl (by kernel_rfl) (by kernel_rfl) (by kernel_rfl) (fun c a w h => h) (Or.inl ⟨by rfl, ?_⟩) hHeld ?_
              rotate_left
              · (intro w hSw; (try dsimp only at hSw); go_simp; try with_reducible rfl)
              simp only [Act.put, List.getElem_toArray, List.getElem_cons_zero, List.getElem_cons_succ, List.setIfInBounds_toArray, List.set_cons_zero, List.set_cons_succ]
              refine wpAnyH_take (i := 7) (v := ?_) rfl (by kernel_rfl) (by kernel_rfl) (by kernel_rfl) (fun c a w h => h) (Or.inl ⟨by rfl, ?_⟩) hHeld ?_
              rotate_left
              · (intro w hSw; (try dsimp only at hSw); go_simp; try with_reducible rfl)
              simp only [Act.put, List.getElem_toArray, List.getElem_cons_zero, List.getElem_cons_succ, List.setIfInBounds_toArray, List.set_cons_zero, List.set_cons_succ]
              refine wpAnyH_take (i := 8) (v := ?_) rfl (by kernel_rfl) (by kernel_rfl) (by kernel_rfl) (fun c a w h => h) (Or.inl ⟨by rfl, ?_⟩) hHeld ?_
              rotate_left
              · (intro w hSw; (try dsimp only at hSw); go_simp; try with_reducible rfl)
              simp only [Act.put, List.getElem_toArray, List.getElem_cons_zero, List.getElem_cons_succ, List.setIfInBounds_toArray, List.set_cons_zero, List.set_cons_succ]
              refine wpAnyH_take (i := 9) (v := ?_) rfl (by kernel_rfl) (by kernel_rfl) (by kernel_rfl) (fun c a w h => h) (Or.inl ⟨by rfl, ?_⟩) hHeld ?_
              rotate_left
              · (intro w hSw; (try dsimp only at hSw); go_simp; try with_reducible rfl)
              simp only [Act.put, List.getElem_toArray, List.getElem_cons_zero, List.getElem_cons_succ, List.setIfInBounds_toArray, List.set_cons_zero, List.set_cons_succ]
              refine wpAnyH_take (i := 10) (v := ?_) rfl (by kernel_rfl) (by kernel_rfl) (by kernel_rfl) (fun c a w h => h) (Or.inl ⟨by rfl, ?_⟩) hHeld ?_
              rotate_left
              · (intro w hSw; (try dsimp only at hSw); go_simp; try with_reducible rfl)
              simp only [Act.put, List.getElem_toArray, List.getElem_cons_zero, List.getElem_cons_succ, List.setIfInBounds_toArray, List.set_cons_zero, List.set_cons_succ]
              refine wpAnyH_ready (rs := [11]) (by kernel_rfl) (by simp) ?_
              refine AllReadyH.cons rfl (fun K hK => ?_) AllReadyH.nil
              go_simp
              refine km.mono ?_
              rintro e wm ⟨rfl, hwm⟩
              obtain rfl := hwm.symm
              refine hK.out _ _ sz (fun hHeld => ?_)
              clear hK K
              refine wpAnyH_ready (rs := [12]) (by kernel_rfl) (by simp) ?_
              refine AllReadyH.cons rfl (fun K hK => ?_) AllReadyH.nil
              go_simp
              refine kn.mono ?_
              rintro e wt ⟨us, rfl, rs, ht⟩
              obtain ⟨t1, tc1, rfl⟩ := own_form rs
              have hKt := HKz.out.below ht
              have cv2 := Sl_conv (M.Row.sl rs) (by rw [HC.out]; exact ml3072')
              rw [← HSS.out] at cv2
              have km2 := memory_any g' bd' br' bm' ku G2 y wt hKt.tw.b
              have kn2 := M.tones_any bm' wt hKt.tw.b.ps.m (Nat.le_trans hty (by decide))
              have HBt := S.hid (trB HBz.out ht HBz.out.size)
              have st := HS.out wt HBt.out
              have HKt := S.hid hKt
              clear km kn hKt HKz HBz sz ht rs
              refine hK.out _ _ st (fun hHeld => ?_)
              clear hK K
              refine wpAnyH_ready (rs := [13]) (by kernel_rfl) (by simp) ?_
              refine AllReadyH.cons rfl (fun K hK => ?_) AllReadyH.nil
              go_simp
              refine hK.out _ _ st (fun hHeld => ?_)
              clear hK K
              refine wpAnyH_take (i := 14) (v := ?_) rfl (by kernel_rfl) (by kernel_rfl) (by kernel_rfl) (fun c a w h => h) (Or.inl ⟨by rfl, ?_⟩) hHeld ?_
              rotate_left
              · (intro w hSw; (try dsimp only at hSw); go_simp; try with_reducible rfl)
              simp only [Act.put, List.getElem_toArray, List.getElem_cons_zero, List.getElem_cons_succ, List.setIfInBounds_toArray, List.set_cons_zero, List.set_cons_succ]
              refine wpAnyH_take (i := 15) (v := ?_) rfl (by kernel_rfl) (by kernel_rfl) (by kernel_rfl) (fun c a w h => h) (Or.inl ⟨by rfl, ?_⟩) hHeld ?_
              rotate_left
              · (intro w hSw; (try dsimp only at hSw); go_simp; try with_reducible rfl)
              simp only [Act.put, List.getElem_toArray, List.getElem_cons_zero, List.getElem_cons_succ, List.setIfInBounds_toArray, List.set_cons_zero, List.set_cons_succ]
              refine wpAnyH_take (i := 16) (v := ?_) rfl (by kernel_rfl) (by kernel_rfl) (by kernel_rfl) (fun c a w h => h) (Or.inl ⟨by rfl, ?_⟩) hHeld ?_
              rotate_left
              · (intro w hSw; (try dsimp only at hSw); go_simp; try with_reducible rfl)
              simp only [Act.put, List.getElem_toArray, List.getElem_cons_zero, List.getElem_cons_succ, List.setIfInBounds_toArray, List.set_cons_zero, List.set_cons_succ]
              refine wpAnyH_take (i := 17) (v := ?_) rfl (by kernel_rfl) (by kernel_rfl) (by kernel_rfl) (fun c a w h => h) (Or.inl ⟨by rfl, ?_⟩) hHeld ?_
              rotate_left
              · (intro w hSw; (try dsimp only at hSw); go_simp; try with_reducible rfl)
              simp only [Act.put, List.getElem_toArray, List.getElem_cons_zero, List.getElem_cons_succ, List.setIfInBounds_toArray, List.set_cons_zero, List.set_cons_succ]
              refine wpAnyH_take (i := 18) (v := ?_) rfl (by kernel_rfl) (by kernel_rfl) (by kernel_rfl) (fun c a w h => h) (Or.inl ⟨by rfl, ?_⟩) hHeld ?_
              rotate_left
              · (intro w hSw; (try dsimp only at hSw); go_simp; try with_reducible rfl)
              simp only [Act.put, List.getElem_toArray, List.getElem_cons_zero, List.getElem_cons_succ, List.setIfInBounds_toArray, List.set_cons_zero, List.set_cons_succ]
              refine wpAnyH_take (i := 19) (v := ?_) rfl (by kernel_rfl) (by kernel_rfl) (by kernel_rfl) (fun c a w h => h) (Or.inl ⟨by rfl, ?_⟩) hHeld ?_
              rotate_left
              · (intro w hSw; (try dsimp only at hSw); go_simp; try with_reducible rfl)
              simp only [Act.put, List.getElem_toArray, List.getElem_cons_zero, List.getElem_cons_succ, List.setIfInBounds_toArray, List.set_cons_zero, List.set_cons_succ]
              refine wpAnyH_take (i := 20) (v := ?_) rfl (by kernel_rfl) (by kernel_rfl) (by kernel_rfl) (fun c a w h => h) (Or.inl ⟨by rfl, ?_⟩) hHeld ?_
              rotate_left
              · (intro w hSw; (try dsimp only at hSw); go_simp; try with_reducible rfl)
              simp only [Act.put, List.getElem_toArray, List.getElem_cons_zero, List.getElem_cons_succ, List.setIfInBounds_toArray, List.set_cons_zero, List.set_cons_succ]
              refine wpAnyH_ready (rs := [21]) (by kernel_rfl) (by simp) ?_
              refine AllReadyH.cons rfl (fun K hK => ?_) AllReadyH.nil
              go_simp
              refine km2.mono ?_
              rintro e wm ⟨rfl, hwm⟩
              obtain rfl := hwm.symm
              refine hK.out _ _ st (fun hHeld => ?_)
              clear hK K
              refine wpAnyH_ready (rs := [22]) (by kernel_rfl) (by simp) ?_
              refine AllReadyH.cons rfl (fun K hK => ?_) AllReadyH.nil
              go_simp
              refine kn2.mono ?_
              rintro e wu ⟨us2, rfl, rs2, hu⟩
              obtain ⟨t2, tc2, rfl⟩ := own_form rs2
              have hKu := HKt.out.below hu
              have km3 := memory_any g' bd' br' bm' ku G2 y wu hKu.tw.b
              have kn3 := M.tones_any bm' wu hKu.tw.b.ps.m (Nat.le_trans hty (by decide))
              have HBu := S.hid (trB HBt.out hu HBt.out.size)
              have su := HS.out wu HBu.out
              have HKu := S.hid hKu
              clear km2 kn2 cv2 hKu HKt HBt st hu rs2
              refine hK.out _ _ su (fun hHeld => ?_)
              clear hK K
              refine wpAnyH_take (i := 23) (v := ?_) rfl (by kernel_rfl) (by kernel_rfl) (by kernel_rfl) (fun c a w h => h) (Or.inl ⟨by rfl, ?_⟩) hHeld ?_
              rotate_left
              · (intro w hSw; (try dsimp only at hSw); go_simp; try with_reducible rfl)
              simp only [Act.put, List.getElem_toArray, List.getElem_cons_zero, List.getElem_cons_succ, List.setIfInBounds_toArray, List.set_cons_zero, List.set_cons_succ]
              refine wpAnyH_take (i := 24) (v := ?_) rfl (by kernel_rfl) (by kernel_rfl) (by kernel_rfl) (fun c a w h => h) (Or.inl ⟨by rfl, ?_⟩) hHeld ?_
              rotate_left
              · (intro w hSw; (try dsimp only at hSw); go_simp; try with_reducible rfl)
              simp only [Act.put, List.getElem_toArray, List.getElem_cons_zero, List.getElem_cons_succ, List.setIfInBounds_toArray, List.set_cons_zero, List.set_cons_succ]
              refine wpAnyH_take (i := 25) (v := ?_) rfl (by kernel_rfl) (by kernel_rfl) (by kernel_rfl) (fun c a w h => h) (Or.inl ⟨by rfl, ?_⟩) hHeld ?_
              rotate_left
              · (intro w hSw; (try dsimp only at hSw); go_simp; try with_reducible rfl)
              simp only [Act.put, List.getElem_toArray, List.getElem_cons_zero, List.getElem_cons_succ, List.setIfInBounds_toArray, List.set_cons_zero, List.set_cons_succ]
              refine wpAnyH_done (by kernel_rfl) ?_ _
              go_wp2_with fail
              refine km3.mono ?_
              rintro e wm ⟨rfl, hwm⟩
              obtain rfl := hwm.symm
              go_wp2_with fail
              refine kn3.mono ?_
              rintro e wv ⟨us3, rfl, rs3, hv⟩
              obtain ⟨t3, tc3, rfl⟩ := own_form rs3
              have HBv := S.hid (trB HBu.out hv HBu.out.size)
              have HKv := S.hid (HKu.out.below hv)
              have HR3v := S.hid rs3
              have HTRv := S.hid (show M.TRow wv lo (.slice p2 y.m.tones.length c2) y.m.tones from S.own_kept HTR2.out fun i e hi => HBv.out.block i hi)
              have HSv := S.hid (HS.out wv HBv.out).2.1
              clear km3 kn3 hv rs3 su HBu HKu HTR2 HS
              go_wp2
              go_loopw [200] (fun i wq => ∃ j : Nat, j ≤ y.m.tones.length ∧ i = .int .i64 (j : Int) ∧ Below wv.heap.size wv wq) (fun i _ => y.m.tones.length - (intOf i).toNat)
              case atStart => exact ⟨0, Nat.zero_le _, rfl, Below.refl _ _⟩
              case round =>
                obtain ⟨j, hj, rfl, hBj⟩ := hrel
                by_cases hjt : j < y.m.tones.length
                · have i9 : (j : Int) < y.m.tones.length := Int.ofNat_lt.mpr hjt
                  obtain ⟨eb, eo, rfl, g1, g2, g3⟩ := trow_get HR3v.out j y.m.tones[j] (List.getElem?_eq_getElem hjt)
                  obtain ⟨fb, fo, rfl, h1, h2, h3⟩ := trow_get HTRv.out j y.m.tones[j] (List.getElem?_eq_getElem hjt)
                  generalize y.m.tones[j] = tn at *
                  obtain ⟨ta, tb, tcc⟩ := tn
                  have g1 := T.below_cell hBj _ _ g1
                  have g2 := T.below_cell hBj _ _ g2
                  have g3 := T.below_cell hBj _ _ g3
                  have w2' : wrap64 ((j : Int) + 1) = ((j + 1 : Nat) : Int) := a_w3 hjt hty
                  obtain ⟨z6, r6, b6⟩ := mkRow wr #[.int .i64 0, .int .u16 0, .int .u8 0] #[.int .i64 ta, .int .u16 tb, .int .u8 tcc] 66
                  have hB6 := trB hBj b6 hBj.size
                  generalize hW6 : ((wr.alloc (.cells #[.int .i64 0, .int .u16 0, .int .u8 0] 66)).setRow wr.heap.size #[.int .i64 ta, .int .u16 tb, .int .u8 tcc]) = W6 at *
                  have q0 : ∀ q, (W6.drewN q).cell? ⟨w1.heap.size, 6, none⟩ = some (.slice (some ⟨fb, fo, none⟩) y.m.tones.length c2) := fun q => T.below_cell hB6 _ _ HSv.out
                  have q1 : ∀ q, (W6.drewN q).cell? ⟨fb, fo + j * 3, none⟩ = some (.int .i64 ta) := fun q => T.below_cell hB6 _ _ h1
                  have q2 : ∀ q, (W6.drewN q).cell? ⟨fb, fo + j * 3 + 1, none⟩ = some (.int .u16 tb) := fun q => T.below_cell hB6 _ _ h2
                  have q3 : ∀ q, (W6.drewN q).cell? ⟨fb, fo + j * 3 + 2, none⟩ = some (.int .u8 tcc) := fun q => T.below_cell hB6 _ _ h3
                  have q4 : ∀ q, (W6.drewN q).cell? ⟨wr.heap.size, 0, none⟩ = some (.int .i64 ta) := fun q => S.cell_of W6 _ 0 [.int .i64 ta, .int .u16 tb, .int .u8 tcc] _ _ r6 rfl
                  have q5 : ∀ q, (W6.drewN q).cell? ⟨wr.heap.size, 1, none⟩ = some (.int .u16 tb) := fun q => S.cell_of W6 _ 1 [.int .i64 ta, .int .u16 tb, .int .u8 tcc] _ _ r6 rfl
                  have q6 : ∀ q, (W6.drewN q).cell? ⟨wr.heap.size, 2, none⟩ = some (.int .u8 tcc) := fun q => S.cell_of W6 _ 2 [.int .i64 ta, .int .u16 tb, .int .u8 tcc] _ _ r6 rfl
                  have nq := neq_tone
                  have HB6 := S.hid hB6
                  have HW6 := S.hid hW6
                  clear h1 h2 h3 hB6 hBj b6 r6 hW6
                  go_upto_region 41 with (refine wpList_store_row rfl 66 _ _ rfl wr.heap.size _ rfl rfl 66 #[.int .i64 0, .int .u16 0, .int .u8 0] z6 (by exact sizeT) (by rfl) (by simp [Value.oneCell']) ?_)
                  rw [HW6.out]
                  go_quiet (fail)
                  go_wp2
                  go_roundw
                  case rel =>
                    first
                      | exact ⟨j + 1, hjt, (by first | rfl | rw [w2']), dnB HB6.out _⟩
                      | ((repeat apply Exists.intro); refine ⟨⟨j + 1, hjt, ?_, dnB HB6.out _⟩, rfl⟩; first | rfl | rw [w2'])
                  case measure => exact msr2 y.m.tones.length _ _ j (by first | rfl | rw [w2']) rfl hjt
                · have i9 : ¬ (j : Int) < y.m.tones.length := fun h => hjt (Int.ofNat_lt.mp h)
                  have HKe := S.hid (HKv.out.below hBj)
                  clear hBj HKv HSv HTRv HR3v
                  go_wp2
                  go_roundw
                  case rel =>
                    first
                      | exact ⟨k + 1, _, _, _, _, hk12, (by first | rfl | rw [w1']), HKe.out.out s2 HY2.out⟩
                      | ((repeat apply Exists.intro); refine ⟨⟨k + 1, _, _, _, _, hk12, ?_, HKe.out.out s2 HY2.out⟩, rfl⟩; first | rfl | rw [w1'])
                  case measure => exact msr2 12 _ _ k (by first | rfl | rw [w1']) rfl hk12
end Go.Proofs.YteldjmecomngeaaGreat.V
/-! The law's sameOut. -/
namespace Go.Proofs.YteldjmecomngeaaGreat.V
open Go.RowKit
open Go.Proofs
set_option linter.unusedVariables false
set_option linter.unusedSimpArgs false
set_option maxHeartbeats 4000000
set_option maxRecDepth 100000
theorem outs_true (a0 a1 a2 a3 a4 : Int) (p1 p2 q1 q2 : Option Addr) (c1 c2 d1 d2 : Nat) (scr : List UInt8) (ts : List (Int × Int × Int)) (hsc : scr.length = 3072) (ht : ts.length ≤ 70000) (w : World) {B1 B2 B3 B4 : Nat} (h1 : M.Row w B1 (.slice p1 3072 c1) scr) (h2 : M.TRow w B2 (.slice p2 ts.length c2) ts) (h3 : M.Row w B3 (.slice q1 3072 d1) scr) (h4 : M.TRow w B4 (.slice q2 ts.length d2) ts) :
    Calls Tryz.prog 27 #[.agg #[.int .i64 a0, .int .i64 a1, .int .i64 a2, .int .i64 a3, .int .i64 a4, .slice p1 3072 c1, .slice p2 ts.length c2], .agg #[.int .i64 a0, .int .i64 a1, .int .i64 a2, .int .i64 a3, .int .i64 a4, .slice q1 3072 d1, .slice q2 ts.length d2]] w fun e w' => e = .returned (.bool true) ∧ Below w.heap.size w w' := by
  obtain ⟨W, hW⟩ : ∃ W, W = ((w.alloc (.cells #[.int .i64 a0, .int .i64 a1, .int .i64 a2, .int .i64 a3, .int .i64 a4, .slice p1 3072 c1, .slice p2 ts.length c2] 39)).alloc (.cells #[.int .i64 a0, .int .i64 a1, .int .i64 a2, .int .i64 a3, .int .i64 a4, .slice q1 3072 d1, .slice q2 ts.length d2] 39)) := ⟨_, rfl⟩
  have hB : Below w.heap.size w W := by rw [hW]; exact ((Below.refl _ w).alloc (Nat.le_refl _) _).alloc (by simp) _
  have n1 : W.heap[w.heap.size]? = some (.cells #[.int .i64 a0, .int .i64 a1, .int .i64 a2, .int .i64 a3, .int .i64 a4, .slice p1 3072 c1, .slice p2 ts.length c2] 39 (0, 0)) := by rw [hW]; exact heap_alloc2_old w _ _
  have n2 : W.heap[w.heap.size + 1]? = some (.cells #[.int .i64 a0, .int .i64 a1, .int .i64 a2, .int .i64 a3, .int .i64 a4, .slice q1 3072 d1, .slice q2 ts.length d2] 39 (0, 0)) := by rw [hW]; exact heap_alloc2_new w _ _
  have cv1 := Sl_conv ((M.Row.sl h1).below hB) (by rw [hsc]; exact ml3072')
  have cv2 := Sl_conv ((M.Row.sl h3).below hB) (by rw [hsc]; exact ml3072')
  have HB := S.hid hB
  have H2 := S.hid (show M.TRow W B2 (.slice p2 ts.length c2) ts from S.own_kept h2 fun i e hi => hB.block i hi)
  have H4 := S.hid (show M.TRow W B4 (.slice q2 ts.length d2) ts from S.own_kept h4 fun i e hi => hB.block i hi)
  have x0 := S.cell_of W _ 0 [.int .i64 a0, .int .i64 a1, .int .i64 a2, .int .i64 a3, .int .i64 a4, .slice p1 3072 c1, .slice p2 ts.length c2] _ _ n1 rfl
  have y0 := S.cell_of W _ 0 [.int .i64 a0, .int .i64 a1, .int .i64 a2, .int .i64 a3, .int .i64 a4, .slice q1 3072 d1, .slice q2 ts.length d2] _ _ n2 rfl
  have x1 := S.cell_of W _ 1 [.int .i64 a0, .int .i64 a1, .int .i64 a2, .int .i64 a3, .int .i64 a4, .slice p1 3072 c1, .slice p2 ts.length c2] _ _ n1 rfl
  have y1 := S.cell_of W _ 1 [.int .i64 a0, .int .i64 a1, .int .i64 a2, .int .i64 a3, .int .i64 a4, .slice q1 3072 d1, .slice q2 ts.length d2] _ _ n2 rfl
  have x2 := S.cell_of W _ 2 [.int .i64 a0, .int .i64 a1, .int .i64 a2, .int .i64 a3, .int .i64 a4, .slice p1 3072 c1, .slice p2 ts.length c2] _ _ n1 rfl
  have y2 := S.cell_of W _ 2 [.int .i64 a0, .int .i64 a1, .int .i64 a2, .int .i64 a3, .int .i64 a4, .slice q1 3072 d1, .slice q2 ts.length d2] _ _ n2 rfl
  have x3 := S.cell_of W _ 3 [.int .i64 a0, .int .i64 a1, .int .i64 a2, .int .i64 a3, .int .i64 a4, .slice p1 3072 c1, .slice p2 ts.length c2] _ _ n1 rfl
  have y3 := S.cell_of W _ 3 [.int .i64 a0, .int .i64 a1, .int .i64 a2, .int .i64 a3, .int .i64 a4, .slice q1 3072 d1, .slice q2 ts.length d2] _ _ n2 rfl
  have x4 := S.cell_of W _ 4 [.int .i64 a0, .int .i64 a1, .int .i64 a2, .int .i64 a3, .int .i64 a4, .slice p1 3072 c1, .slice p2 ts.length c2] _ _ n1 rfl
  have y4 := S.cell_of W _ 4 [.int .i64 a0, .int .i64 a1, .int .i64 a2, .int .i64 a3, .int .i64 a4, .slice q1 3072 d1, .slice q2 ts.length d2] _ _ n2 rfl
  have x5 := S.cell_of W _ 5 [.int .i64 a0, .int .i64 a1, .int .i64 a2, .int .i64 a3, .int .i64 a4, .slice p1 3072 c1, .slice p2 ts.length c2] _ _ n1 rfl
  have y5 := S.cell_of W _ 5 [.int .i64 a0, .int .i64 a1, .int .i64 a2, .int .i64 a3, .int .i64 a4, .slice q1 3072 d1, .slice q2 ts.length d2] _ _ n2 rfl
  have x6 := S.cell_of W _ 6 [.int .i64 a0, .int .i64 a1, .int .i64 a2, .int .i64 a3, .int .i64 a4, .slice p1 3072 c1, .slice p2 ts.length c2] _ _ n1 rfl
  have y6 := S.cell_of W _ 6 [.int .i64 a0, .int .i64 a1, .int .i64 a2, .int .i64 a3, .int .i64 a4, .slice q1 3072 d1, .slice q2 ts.length d2] _ _ n2 rfl
  have X6 := S.hid x6
  have Y6 := S.hid y6
  have hW' := hW.symm
  generalize (⟨scr.toArray⟩ : ByteArray) = ss at *
  clear h1 h2 h3 h4 hB n1 n2 hW
  go_enter Tryz.func27, Tryz.ntmps27
  go_wp2
  clear cv1 cv2 x0 x1 x2 x3 x4 x5 y0 y1 y2 y3 y4 y5
  go_loopw [60] (fun i wr => ∃ k q : Nat, k ≤ ts.length ∧ i = .int .i64 (k : Int) ∧ wr = W.drewN q) (fun i _ => ts.length - (intOf i).toNat)
  case atStart => exact ⟨0, 0, Nat.zero_le _, rfl, rfl⟩
  case round =>
    obtain ⟨k, q, hk, rfl, rfl⟩ := hrel
    by_cases hlt : k < ts.length
    · have i1 : (k : Int) < ts.length := Int.ofNat_lt.mpr hlt
      obtain ⟨eb, eo, rfl, e1, e2, e3⟩ := trow_get H2.out k ts[k] (List.getElem?_eq_getElem hlt)
      obtain ⟨fb, fo, rfl, f1, f2, f3⟩ := trow_get H4.out k ts[k] (List.getElem?_eq_getElem hlt)
      generalize ts[k] = tn at *
      obtain ⟨ta, tb, tcc⟩ := tn
      have g0 : ∀ q, (W.drewN q).cell? ⟨w.heap.size, 6, none⟩ = some (.slice (some ⟨eb, eo, none⟩) ts.length c2) := fun q => X6.out
      have g7 : ∀ q, (W.drewN q).cell? ⟨w.heap.size + 1, 6, none⟩ = some (.slice (some ⟨fb, fo, none⟩) ts.length d2) := fun q => Y6.out
      have g1 : ∀ q, (W.drewN q).cell? ⟨eb, eo + k * 3, none⟩ = some (.int .i64 ta) := fun q => e1
      have g2 : ∀ q, (W.drewN q).cell? ⟨eb, eo + k * 3 + 1, none⟩ = some (.int .u16 tb) := fun q => e2
      have g3 : ∀ q, (W.drewN q).cell? ⟨eb, eo + k * 3 + 2, none⟩ = some (.int .u8 tcc) := fun q => e3
      have g4 : ∀ q, (W.drewN q).cell? ⟨fb, fo + k * 3, none⟩ = some (.int .i64 ta) := fun q => f1
      have g5 : ∀ q, (W.drewN q).cell? ⟨fb, fo + k * 3 + 1, none⟩ = some (.int .u16 tb) := fun q => f2
      have g6 : ∀ q, (W.drewN q).cell? ⟨fb, fo + k * 3 + 2, none⟩ = some (.int .u8 tcc) := fun q => f3
      have nq := neq_tone
      have w2' : wrap64 ((k : Int) + 1) = ((k + 1 : Nat) : Int) := a_w3 hlt ht
      clear e1 e2 e3 f1 f2 f3 x6 y6
      go_wp2_with fail
      go_quiet (fail)
      go_wp2
      go_roundw
      case rel =>
        first
          | exact ⟨k + 1, _, hlt, (by first | rfl | rw [w2']), rfl⟩
          | ((repeat apply Exists.intro); refine ⟨⟨k + 1, _, hlt, ?_, rfl⟩, rfl⟩; first | rfl | rw [w2'])
      case measure => exact msr2 ts.length _ _ k (by first | rfl | rw [w2']) rfl hlt
    · have i1 : ¬ (k : Int) < ts.length := fun h => hlt (Int.ofNat_lt.mp h)
      go_wp2
      go_ret
      exact ⟨rfl, dnB HB.out _⟩
end Go.Proofs.YteldjmecomngeaaGreat.V
/-! VmGoesOn: two machines, each with its own code. -/
namespace Go.Proofs.YteldjmecomngeaaGreat.V
open Go.RowKit
open Go.Proofs
set_option linter.unusedVariables false
set_option linter.unusedSimpArgs false
set_option maxHeartbeats 4000000
set_option maxRecDepth 100000
theorem turn_code (v : VS) : (turn v).v.code = v.code := by
  unfold turn
  split
  · rfl
  · split
    · rfl
    · split
      · rfl
      · split
        · rfl
        · split <;> rfl
theorem dn_code (op x be : Int) (v : VS) : (dn op x be v).v.code = v.code := by
  unfold dn
  split
  · split <;> rfl
  · split <;> rfl
  · split <;> rfl
  · rfl
  · split <;> rfl
  · split <;> exact turn_code v
  · split
    · rfl
    · split <;> rfl
  · rfl
  · rfl
  · unfold pl; simp only
    split <;> rfl
theorem doo_code (op : Nat) (x : Int) (v : VS) : (doo op x v).2.code = v.code := by
  unfold doo
  simp only
  split
  · exact dn_code op x _ v
  · rfl
theorem wk_code (B : Int) : ∀ (k : Nat) (v : VS) (n s : Int), (wk k B v n s).v.code = v.code
  | 0, v, n, s => rfl
  | k + 1, v, n, s => by
    unfold wk
    split
    · split
      · split
        · rfl
        · split
          · split
            · exact doo_code _ _ (cyc s v)
            · exact (wk_code B k _ _ _).trans (doo_code _ _ (cyc s v))
          · rfl
      · rfl
    · rfl
theorem frame_code (v : VS) (pad B : Int) : (frame v pad B).v.code = v.code := wk_code B _ _ _ _
/-- One goes on as the other. -/
def Eqv (u y : VS) : Prop := y = { u with m := y.m } ∧ ∀ p, M.bg y.m p = M.bg u.m p
theorem Eqv.refl (u : VS) : Eqv u u := ⟨rfl, fun _ => rfl⟩
theorem Eqv.frame {u y : VS} (h : Eqv u y) (pad B : Int) : frame y pad B = frame u pad B := by
  unfold V.frame
  have e : ({ y with m := M.bg y.m pad } : VS) = { u with m := M.bg u.m pad } := by rw [h.2 pad, h.1]
  rw [e]
theorem state_eq (g bd br bm : Nat) (kv : Value) (F : Nat → Prop) (u y : VS) (e : Eqv u y) (w : World) (h : MV w g bd br bm kv F y) :
    Calls Tryz.prog 14 #[.pointer (some ⟨g, 0, none⟩)] w fun e w' => ∃ p1 c1 p2 c2, e = .returned (StV u (.slice p1 u.D.length c1) (.slice p2 u.R.length c2)) ∧ S.RowU w' w.heap.size (.slice p1 u.D.length c1) u.D ∧ S.RowK w' w.heap.size (.slice p2 u.R.length c2) u.R ∧ Below w.heap.size w w' := by
  have k := state_any g bd br bm kv F y w h
  rw [e.1] at k
  exact k
/-! ### One machine alone -/
structure GI (w wr : World) (g bd br bm : Nat) (kv : Value) (F : Nat → Prop) (c : T.Ct) (u : VS) : Prop where
  mv : MV wr g bd br bm kv F u
  fr : Fresh w.heap.size g bd br bm kv F
  bl : Below w.heap.size w wr
  gd : Gd (fun n => (M.nbk c.banks n).isSome) u
  cd : u.code = c.code
  tn : u.m.tones.length ≤ 60000
theorem VD.fresh {W W' : World} {n g bd br bm : Nat} {kv : Value} {F : Nat → Prop} {v : VS} (k : VD W W' g bd br bm kv F v) (f : Fresh n g bd br bm kv F) (hn : n ≤ W.heap.size) : Fresh n g bd br bm kv (M.gr F W W') :=
  ⟨f.g, f.d, f.r, f.k, by rintro i (q | ⟨q, _⟩); exact f.f i q; omega⟩
theorem GI.drew {w wr : World} {g bd br bm : Nat} {kv : Value} {F : Nat → Prop} {c : T.Ct} {u : VS} (h : GI w wr g bd br bm kv F c u) : GI w wr.drew g bd br bm kv F c u := ⟨h.mv.below (below_drew wr), h.fr, trB h.bl (below_drew wr) h.bl.size, h.gd, h.cd, h.tn⟩
theorem GI.next {w wr w1 : World} {g bd br bm : Nat} {kv : Value} {F : Nat → Prop} {c : T.Ct} {u : VS} (h : GI w wr g bd br bm kv F c u) (pad B : Int) (hB : B ≤ 16384) (k : VD wr w1 g bd br bm kv F (frame u pad B).v) : GI w w1 g bd br bm kv (M.gr F wr w1) c (frame u pad B).v :=
  ⟨k.s, k.fresh h.fr h.bl.size, h.bl.trans (tcB k h.fr h.bl.size), frame_gd pad B h.gd, (frame_code u pad B).trans h.cd, frame_tones u pad B hB⟩
/-! ### A frame, its answer kept in a variable -/
def ORow (r : WK) (B : Int) (p1 p2 : Option Addr) (c1 c2 : Nat) : Array Value := #[.int .i64 r.v.st, .int .i64 r.v.fa, .int .i64 r.steps, .int .i64 r.spent, .int .i64 (B - r.spent), .slice p1 r.v.m.scr.length c1, .slice p2 r.v.m.tones.length c2]
structure FO (W wc : World) (b : Nat) (g bd br bm : Nat) (kv : Value) (F : Nat → Prop) (r : WK) (B : Int) (p1 p2 : Option Addr) (c1 c2 : Nat) : Prop where
  vd : VD W wc g bd br bm kv F r.v
  blk : wc.heap[b]? = some (.cells (ORow r B p1 p2 c1 c2) 39 (0, 0))
  lo : W.heap.size ≤ b
  r1 : M.Row wc W.heap.size (.slice p1 r.v.m.scr.length c1) r.v.m.scr
  r2 : M.TRow wc W.heap.size (.slice p2 r.v.m.tones.length c2) r.v.m.tones
def zO : Array Value := #[.int .i64 0, .int .i64 0, .int .i64 0, .int .i64 0, .int .i64 0, .slice none 0 0, .slice none 0 0]
section
variable {W w1 : World} {g bd br bm : Nat} {kv : Value} {F : Nat → Prop} {u : VS} {r : WK} {B : Int} {p1 p2 : Option Addr} {c1 c2 : Nat}
theorem fo_a (h0 : MV W g bd br bm kv F u) (k : VD W w1 g bd br bm kv F r.v) (r1 : M.Row w1 W.heap.size (.slice p1 r.v.m.scr.length c1) r.v.m.scr) (r2 : M.TRow w1 W.heap.size (.slice p2 r.v.m.tones.length c2) r.v.m.tones) :
    FO W ((w1.alloc (.cells zO 39)).setRow w1.heap.size (ORow r B p1 p2 c1 c2)) w1.heap.size g bd br bm kv F r B p1 p2 c1 c2 ∧ (w1.alloc (.cells zO 39)).heap[w1.heap.size]? = some (.cells zO 39 (0, 0)) ∧ Below w1.heap.size w1 (w1.alloc (.cells zO 39)) := by
  obtain ⟨z3, r3, b3⟩ := mkRow w1 zO (ORow r B p1 p2 c1 c2) 39
  exact ⟨⟨VD.trans h0 k (k.s.same b3), r3, k.t.size, S.own_kept r1 fun i e hi => b3.block i hi, S.own_kept r2 fun i e hi => b3.block i hi⟩, z3, P.bel_alloc w1 _⟩
theorem fo_b (h0 : MV W g bd br bm kv F u) (k : VD (W.alloc (.cells zO 39)) w1 g bd br bm kv F r.v) (r1 : M.Row w1 (W.alloc (.cells zO 39)).heap.size (.slice p1 r.v.m.scr.length c1) r.v.m.scr) (r2 : M.TRow w1 (W.alloc (.cells zO 39)).heap.size (.slice p2 r.v.m.tones.length c2) r.v.m.tones) :
    FO W (w1.setRow W.heap.size (ORow r B p1 p2 c1 c2)) W.heap.size g bd br bm kv F r B p1 p2 c1 c2 ∧ w1.heap[W.heap.size]? = some (.cells zO 39 (0, 0)) := by
  have z := heap_alloc_new W (.cells zO 39)
  have b := P.bel_alloc W (.cells zO 39)
  have hs : W.heap.size < (W.alloc (.cells zO 39)).heap.size := S.lt_of z
  have z1 := (k.other (W1 := W) (v := u) h0 b.size W.heap.size (Nat.le_refl _) hs).trans z
  refine ⟨⟨VD.around h0 b hs k (Below.refl _ _) _, setRow_heap w1 _ _ _ _ _ z1, Nat.le_refl _, ?_, ?_⟩, z1⟩
  · exact S.own_mono (S.own_kept r1 fun i e _ => setRow_other w1 W.heap.size i _ (by have := own_lt r1 i e; omega)) (Nat.le_of_lt hs)
  · exact S.own_mono (S.own_kept r2 fun i e _ => setRow_other w1 W.heap.size i _ (by have := own_lt r2 i e; omega)) (Nat.le_of_lt hs)
end
/-! ### Both -/
structure TX (n : Nat) (W : World) (g bd br bm g' bd' br' bm' : Nat) (kv kv' : Value) (F F' : Nat → Prop) (u u' : VS) : Prop where
  a : MV W g bd br bm kv F u
  b : MV W g' bd' br' bm' kv' F' u'
  ap : ∀ k, TV g bd br F k → ¬ TV g' bd' br' F' k
  c1 : ∀ k, kv.ownBlock = some k → ¬ TV g' bd' br' F' k
  c2 : ∀ k, kv'.ownBlock = some k → ¬ TV g bd br F k
  fa : Fresh n g bd br bm kv F
  fb : Fresh n g' bd' br' bm' kv' F'
  nw : n ≤ W.heap.size
section
variable {n : Nat} {W W' : World} {g bd br bm g' bd' br' bm' : Nat} {kv kv' : Value} {F F' : Nat → Prop} {u u' v : VS}
theorem TX.below (h : TX n W g bd br bm g' bd' br' bm' kv kv' F F' u u') (k : Below W.heap.size W W') : TX n W' g bd br bm g' bd' br' bm' kv kv' F F' u u' :=
  ⟨h.a.below k, h.b.below k, h.ap, h.c1, h.c2, h.fa, h.fb, Nat.le_trans h.nw k.size⟩
theorem TX.left (h : TX n W g bd br bm g' bd' br' bm' kv kv' F F' u u') (k : VD W W' g bd br bm kv F v) : TX n W' g bd br bm g' bd' br' bm' kv kv' (M.gr F W W') F' v u' :=
  ⟨k.s, h.b.kept k.t.size (fun i hi e => k.t.block i hi (by rcases e with e | e; exact fun f => h.ap i f e; exact h.c2 i e)), fun i e f => by
      rcases tv_gr e with q | q
      · exact h.ap i q f
      · have := h.b.tv_lt i f; omega,
   h.c1, fun i e f => by
      rcases tv_gr f with q | q
      · exact h.c2 i e q
      · have := h.b.ck i e; omega,
   k.fresh h.fa h.nw, h.fb, Nat.le_trans h.nw k.t.size⟩
theorem TX.right (h : TX n W g bd br bm g' bd' br' bm' kv kv' F F' u u') (k : VD W W' g' bd' br' bm' kv' F' v) : TX n W' g bd br bm g' bd' br' bm' kv kv' F (M.gr F' W W') u v :=
  ⟨h.a.kept k.t.size (fun i hi e => k.t.block i hi (by rcases e with e | e; exact h.ap i e; exact h.c1 i e)), k.s, fun i f e => by
      rcases tv_gr e with q | q
      · exact h.ap i f q
      · have := h.a.tv_lt i f; omega,
   fun i e f => by
      rcases tv_gr f with q | q
      · exact h.c1 i e q
      · have := h.a.ck i e; omega,
   h.c2, h.fa, k.fresh h.fb h.nw, Nat.le_trans h.nw k.t.size⟩
/-- A new machine beside one that is there. -/
theorem TX.make {w wr : World} {c : T.Ct} (h : GI w wr g bd br bm kv F c u) (hb : Below wr.heap.size wr W) (k : MV W g' bd' br' bm' kv' F' u') (f : Fresh wr.heap.size g' bd' br' bm' kv' F') : TX w.heap.size W g bd br bm g' bd' br' bm' kv kv' F F' u u' := by
  have hs := h.bl.size
  have far : ∀ i, TV g' bd' br' F' i → wr.heap.size ≤ i := by
    rintro i (e | e | e | e)
    · have := f.g; omega
    · have := f.d; omega
    · have := f.r; omega
    · exact f.f i e
  exact ⟨h.mv.below hb, k, fun i e e' => by have := h.mv.tv_lt i e; have := far i e'; omega, fun i e e' => by have := h.mv.ck i e; have := far i e'; omega, fun i e e' => by have := h.mv.tv_lt i e'; have := f.k i e; omega, h.fr, fresh_mono' f hs, Nat.le_trans hs hb.size⟩
end
structure GX (w wr : World) (g bd br bm g' bd' br' bm' : Nat) (kv kv' : Value) (F F' : Nat → Prop) (u y : VS) : Prop where
  tx : TX w.heap.size wr g bd br bm g' bd' br' bm' kv kv' F F' u y
  bl : Below w.heap.size w wr
  eq : Eqv u y
theorem GX.drew {w wr : World} {g bd br bm g' bd' br' bm' : Nat} {kv kv' : Value} {F F' : Nat → Prop} {u y : VS} (h : GX w wr g bd br bm g' bd' br' bm' kv kv' F F' u y) : GX w wr.drew g bd br bm g' bd' br' bm' kv kv' F F' u y := ⟨h.tx.below (below_drew wr), trB h.bl (below_drew wr) h.bl.size, h.eq⟩
/-- What the first one's answer is, behind the second one's frame. -/
structure MX (W wc : World) (b : Nat) (r : WK) (B : Int) (p1 p2 : Option Addr) (c1 c2 : Nat) : Prop where
  blk : wc.heap[b]? = some (.cells (ORow r B p1 p2 c1 c2) 39 (0, 0))
  r1 : M.Row wc W.heap.size (.slice p1 r.v.m.scr.length c1) r.v.m.scr
  r2 : M.TRow wc W.heap.size (.slice p2 r.v.m.tones.length c2) r.v.m.tones
theorem FO.kept {W wa wb : World} {b g bd br bm g' bd' br' bm' : Nat} {kv kv' : Value} {F F' : Nat → Prop} {r : WK} {B : Int} {p1 p2 : Option Addr} {c1 c2 : Nat} {y v : VS} (h : FO W wa b g bd br bm kv F r B p1 p2 c1 c2) (k : VD wa.drew wb g' bd' br' bm' kv' F' v) (m : MV W g' bd' br' bm' kv' F' y) : MX W wb b r B p1 p2 c1 c2 := by
  have o : ∀ i, W.heap.size ≤ i → i < wa.heap.size → wb.heap[i]? = wa.heap[i]? := fun i a e => k.t.block i e fun f => by have := m.tv_lt i f; omega
  exact ⟨(o b h.lo (S.lt_of h.blk)).trans h.blk, S.own_kept h.r1 fun i e hi => o i (own_lt h.r1 i e).1 hi, S.own_kept h.r2 fun i e hi => o i (own_lt h.r2 i e).1 hi⟩
theorem outs_any {w : World} {W1 W2 : World} {r : WK} {B : Int} {p1 p2 q1 q2 : Option Addr} {c1 c2 d1 d2 : Nat} (hsc : r.v.m.scr.length = 3072) (ht : r.v.m.tones.length ≤ 70000) (h1 : M.Row w W1.heap.size (.slice p1 r.v.m.scr.length c1) r.v.m.scr) (h2 : M.TRow w W1.heap.size (.slice p2 r.v.m.tones.length c2) r.v.m.tones) (h3 : M.Row w W2.heap.size (.slice q1 r.v.m.scr.length d1) r.v.m.scr) (h4 : M.TRow w W2.heap.size (.slice q2 r.v.m.tones.length d2) r.v.m.tones) :
    Calls Tryz.prog 27 #[.agg (ORow r B p1 p2 c1 c2), .agg (ORow r B q1 q2 d1 d2)] w fun e w' => e = .returned (.bool true) ∧ Below w.heap.size w w' := by
  have k1 : M.Row w W1.heap.size (.slice p1 3072 c1) r.v.m.scr := by rw [← hsc]; exact h1
  have k3 : M.Row w W2.heap.size (.slice q1 3072 d1) r.v.m.scr := by rw [← hsc]; exact h3
  have := outs_true r.v.st r.v.fa r.steps r.spent (B - r.spent) p1 p2 q1 q2 c1 c2 d1 d2 r.v.m.scr r.v.m.tones hsc ht w k1 h2 k3 h4
  unfold ORow
  rw [hsc]
  exact this
end Go.Proofs.YteldjmecomngeaaGreat.V
