import Derived.Test.YtlljelfplffglaaDoorRows
import Derived.Test.YtlljelfplffglaaDoorHDg
import Derived.Test.YtlljelfplffglaaDoorHOpen
import Derived.ProofKit
import Derived.OpenShut
import Derived.LaidMore
import Derived.Deep.DeepHandedRow
import Derived.Lib.LaidTab
import Derived.ChangeOld
import Derived.Below
import Derived.WalkKit
import Derived.Deep.Slices
import Derived.Deep.SlicePairs
import Derived.SizedLaws
import Derived.Lib.SmallJoins
/-! What the listed table gives a walk; what an out that came in gives one. -/
namespace Go.Proofs.YtlljelfplffglaaDoor.H
open Go.RowKit Go.ChangeShapes Go.WideShapes Go.ChangeAt
open Go.Proofs.YtlljelfplffglaaDoor.K
set_option linter.unusedVariables false
set_option linter.unusedSimpArgs false
set_option maxRecDepth 100000
set_option maxHeartbeats 4000000
def laidL : List (String × DataW Unit) := Rows.shotSumsRow.laid
theorem own : ownKnob Tryd.prog.godebug = none := by kernel_rfl
theorem laidOut : laidOutB Tryd.prog = true := by kernel_rfl
def halvesName : String := Rows.shotSumsRow.named.getD 0 ""
def tabL : List Int := (List.range 16).map fun i => ((it 4 i : Nat) : Int)
theorem laid_list : laidL = [(halvesName, Lib.tabData .u32 tabL)] := by kernel_rfl
theorem gTab : Tryd.prog.globalNamed halvesName = some 0 := by kernel_rfl
theorem tab_of_laid {W : World} (h : laidMetH Tryd.prog laidL W) : Tab W := by
  rw [laid_list] at h
  have h0 : laidMet Tryd.prog [(halvesName, Lib.tabData .u32 tabL)] W := h
  have hb := Lib.tabIs_of_head (name := halvesName) (g := 0) (t := 52) (e := 28) (n := 16) (rest := []) gTab (by kernel_rfl) (by kernel_rfl) (by kernel_rfl) (by kernel_rfl) (by kernel_rfl) h0
  intro i hi
  have := hb.cell (g := 0) gTab i (by simpa [tabL] using hi)
  rw [this]
  simp [tabL, hi]
section
variable {H : Type} {enc : TypeId × Value → H}
theorem c_none {a : Addr} {W : World} {v : Value} (h : W.cell? (a.add 0) = some v) : a.spot = none := by
  have := World.cell?_spot h
  simpa [Addr.add] using this
theorem c_at (b o k : Nat) : (⟨b, o, none⟩ : Addr).add k = ⟨b, o + k, none⟩ := Addr.add_lit _ _ _
theorem undT : Tryd.prog.underlying 38 = some (.struct #[⟨ "Cycle", 3, 0, false, "", "", 0⟩, ⟨ "Pitch", 36, 1, false, "", "", 8⟩, ⟨ "Volume", 5, 2, false, "", "", 10⟩]) := by kernel_rfl
theorem undO : Tryd.prog.underlying 27 = some (.struct #[⟨ "Status", 22, 0, false, "", "", 0⟩, ⟨ "Fault", 23, 1, false, "", "", 8⟩, ⟨ "Steps", 3, 2, false, "", "", 16⟩, ⟨ "Spent", 3, 3, false, "", "", 24⟩, ⟨ "Idle", 3, 4, false, "", "", 32⟩, ⟨ "Screen", 24, 5, false, "", "", 40⟩, ⟨ "Tones", 25, 6, false, "", "", 64⟩]) := by kernel_rfl
theorem c_u8 {x : Int} (h : (Lit.int .u8 x).wf = true) : ∃ y : UInt8, x = (y.toNat : Int) := by
  have h0 : 0 ≤ x ∧ x ≤ 255 := by simpa [Lit.wf, IntKind.min, IntKind.max, IntKind.bits, IntKind.signed] using h
  exact ⟨UInt8.ofNat x.toNat, (byte_nat x h0.1 h0.2).symm⟩
theorem c_u16 {x : Int} (h : (Lit.int .u16 x).wf = true) : ∃ y : UInt16, x = (y.toNat : Int) := by
  have h0 : 0 ≤ x ∧ x ≤ 65535 := by simpa [Lit.wf, IntKind.min, IntKind.max, IntKind.bits, IntKind.signed] using h
  refine ⟨UInt16.ofNat x.toNat, ?_⟩
  rw [UInt16.toNat_ofNat']
  have : x.toNat % 2 ^ 16 = x.toNat := Nat.mod_eq_of_lt (by omega)
  rw [this]; omega
theorem open_tn {W : World} {n : Nat} {cs : List Value} {D : DataW H} {Pl : List MemPlace} (h : DataW.trod enc Tryd.prog W 0 (fun _ => true) true n 38 cs = some (D, Pl)) :
    ∃ t : Tn, cs = [.int .i64 t.c, .int .u16 (t.p.toNat : Int), .int .u8 (t.v.toNat : Int)] := by
  obtain ⟨xs, q, _, hxy, hcl, hxl, hf⟩ := DataW.trod_struct undT h
  have hc5 : Tryd.prog.cellsOf 38 = 3 := by kernel_rfl
  rw [hc5] at hcl
  have c3 : Tryd.prog.cellsOf 3 = 1 := by kernel_rfl
  have c4 : Tryd.prog.cellsOf 36 = 1 := by kernel_rfl
  have c5 : Tryd.prog.cellsOf 5 = 1 := by kernel_rfl
  match xs, hxl, cs, hcl with
  | [x0, x1, x2], _, [a, b, c], _ =>
    have f0 := hf 0 _ rfl
    have f1 := hf 1 _ rfl
    have f2 := hf 2 _ rfl
    replace f0 : DataW.trod enc Tryd.prog W 0 (fun _ => true) true q 3 [a] = some x0 := by simpa [c3] using f0
    replace f1 : DataW.trod enc Tryd.prog W 0 (fun _ => true) true q 36 [b] = some x1 := by simpa [c4] using f1
    replace f2 : DataW.trod enc Tryd.prog W 0 (fun _ => true) true q 5 [c] = some x2 := by simpa [c5] using f2
    obtain ⟨k0, e0, _, _⟩ := DataW.trod_int Tryd.underlying3 f0
    obtain ⟨k1, e1, q1, r1⟩ := DataW.trod_int Tryd.underlying36 f1
    obtain ⟨k2, e2, q2, r2⟩ := DataW.trod_int Tryd.underlying5 f2
    simp only [List.cons.injEq, and_true] at e0 e1 e2
    subst e0 e1 e2
    obtain ⟨y1, rfl⟩ := c_u16 (by first | exact r1 | exact q1)
    obtain ⟨y2, rfl⟩ := c_u8 (by first | exact r2 | exact q2)
    exact ⟨⟨k0, y1, y2⟩, rfl⟩
theorem open_tns {W : World} {a : Option Addr} {len cap : Nat} {d : DataW H} {p : List MemPlace} (h : DataW.Trod enc Tryd.prog W 0 (fun _ => true) true 25 (.slice a len cap) d p)
    (hw : (d.weights Tryd.prog 25).all (· ≤ reachBytes) = true) :
    ∃ l : List Tn, S.Ls eT 3 W (.slice a len cap) l ∧ l.length * 16 + 4096 ≤ room := by
  obtain ⟨fuel, hf⟩ := h
  rcases Deep.open_slice Tryd.underlying25 hf with ⟨hcs, hx⟩ | ⟨x, l, c, m, n, D, Pl, hcs, _, hl, hm, hmm, hx, hel⟩
  · simp [Value.cells] at hcs
    obtain ⟨rfl, rfl, rfl⟩ := hcs
    exact ⟨[], .inl ⟨rfl, rfl⟩, by decide⟩
  · simp [Value.cells] at hcs
    obtain ⟨rfl, rfl, rfl⟩ := hcs
    simp only [Prod.mk.injEq] at hx
    obtain ⟨rfl, rfl⟩ := hx
    simp only [if_true] at hmm
    have hc5 : Tryd.prog.cellsOf 38 = 3 := by kernel_rfl
    rw [hc5] at hel
    have hby : Tryd.prog.bytesOf 38 = 16 := by kernel_rfl
    simp only [DataW.weights, Tryd.underlying25, List.all_cons, List.all_append, Bool.and_eq_true, decide_eq_true_eq, hby, List.length_map, List.length_range] at hw
    have hw1 := hw.1
    unfold reachBytes at hw1
    have hsp0 : 0 < len → x.spot = none := fun hp => by
      obtain ⟨cs', h1, h2⟩ := hel 0 (by omega)
      obtain ⟨_, hlen, hcell⟩ := World.cells?_some h1
      obtain ⟨t, rfl⟩ := open_tn h2
      have g0 := hcell 0 (by simp)
      rw [Deep.add_add] at g0
      exact c_none g0
    have hex : ∀ i, i < len → ∃ t : Tn, ∃ b o, some x = some (⟨b, o, none⟩ : Addr) ∧ W.cell? ⟨b, o + i * 3, none⟩ = some (.int .i64 t.c) ∧ W.cell? ⟨b, o + i * 3 + 1, none⟩ = some (.int .u16 (t.p.toNat : Int)) ∧ W.cell? ⟨b, o + i * 3 + 2, none⟩ = some (.int .u8 (t.v.toNat : Int)) := by
      intro i hi
      obtain ⟨cs', h1, h2⟩ := hel i (by omega)
      obtain ⟨_, hlen, hcell⟩ := World.cells?_some h1
      obtain ⟨t, rfl⟩ := open_tn h2
      have g0 := hcell 0 (by simp)
      have g1 := hcell 1 (by simp)
      have g2 := hcell 2 (by simp)
      simp only [List.getElem?_cons_zero, List.getElem?_cons_succ] at g0 g1 g2
      rw [Deep.add_add] at g0 g1 g2
      have hsp := hsp0 (by omega)
      obtain ⟨b, o, sp⟩ := x
      simp only at hsp
      subst hsp
      rw [c_at] at g0 g1 g2
      exact ⟨t, b, o, rfl, g0, by rw [Nat.add_assoc]; exact g1, by rw [Nat.add_assoc]; exact g2⟩
    have : Inhabited Tn := ⟨⟨0, 0, 0⟩⟩
    obtain ⟨f, hf2⟩ := Deep.choose_lt hex
    refine ⟨(List.range len).map f, .inr ⟨x, cap, by simp, by simpa using hl, fun i t hi => ?_⟩, by simp; unfold room; omega⟩
    have hil : i < len := by
      by_cases h : i < len
      · exact h
      · rw [List.getElem?_eq_none (by simp; omega)] at hi; cases hi
    simp [hil] at hi
    subst hi
    obtain ⟨b, o, e0, e1, e2, e3⟩ := hf2 i hil
    refine ⟨b, o, e0, fun j u hj => ?_⟩
    match j, hj with
    | 0, hj => simp only [eT, List.getElem?_cons_zero, Option.some.injEq] at hj; subst hj; exact e1
    | 1, hj => simp only [eT, List.getElem?_cons_succ, List.getElem?_cons_zero, Option.some.injEq] at hj; subst hj; exact e2
    | 2, hj => simp only [eT, List.getElem?_cons_succ, List.getElem?_cons_zero, Option.some.injEq] at hj; subst hj; exact e3
    | j + 3, hj => simp [eT] at hj
theorem list7 {α : Type} : ∀ l : List α, l.length = 7 → ∃ a b c d e f g, l = [a, b, c, d, e, f, g]
  | [a, b, c, d, e, f, g], _ => ⟨a, b, c, d, e, f, g, rfl⟩
theorem open_out {W : World} {base : Nat} {v : Value} {d : DataW H} {p : List MemPlace} (hval : Value.okWide Tryd.prog W .any base 27 v) (h : DataW.Trod enc Tryd.prog W 0 (fun _ => true) true 27 v d p)
    (hw : (d.weights Tryd.prog 27).all (· ≤ reachBytes) = true) :
    ∃ (z0 z1 z2 z3 z4 : Int) (vs vt : Value) (sc : List UInt8) (ts : List Tn), v = .agg #[.int .i64 z0, .int .i64 z1, .int .i64 z2, .int .i64 z3, .int .i64 z4, vs, vt] ∧ Sl W vs sc ∧ S.Ls eT 3 W vt ts ∧ sc.length + 4096 ≤ room ∧ ts.length * 16 + 4096 ≤ room := by
  obtain ⟨cs, rfl, hsz⟩ := okWide_struct undO hval
  obtain ⟨fuel, hf⟩ := h
  obtain ⟨xs, q, _, hxy, hcl, hxl, hff⟩ := DataW.trod_struct undO hf
  have hc4 : Tryd.prog.cellsOf 27 = 7 := by kernel_rfl
  rw [hc4] at hcl
  have k22 : Tryd.prog.cellsOf 22 = 1 := by kernel_rfl
  have k23 : Tryd.prog.cellsOf 23 = 1 := by kernel_rfl
  have k3 : Tryd.prog.cellsOf 3 = 1 := by kernel_rfl
  have k24 : Tryd.prog.cellsOf 24 = 1 := by kernel_rfl
  have k25 : Tryd.prog.cellsOf 25 = 1 := by kernel_rfl
  have hcs : ∃ a0 a1 a2 a3 a4 a5 a6, cs = #[a0, a1, a2, a3, a4, a5, a6] := by
    obtain ⟨l⟩ := cs
    simp [Value.cells] at hcl
    obtain ⟨a0, a1, a2, a3, a4, a5, a6, e⟩ := list7 l hcl
    exact ⟨a0, a1, a2, a3, a4, a5, a6, by rw [e]⟩
  obtain ⟨a0, a1, a2, a3, a4, a5, a6, rfl⟩ := hcs
  obtain ⟨x0, x1, x2, x3, x4, x5, x6, rfl⟩ := list7 xs hxl
  have f0 := hff 0 _ rfl
  have f1 := hff 1 _ rfl
  have f2 := hff 2 _ rfl
  have f3 := hff 3 _ rfl
  have f4 := hff 4 _ rfl
  have f5 := hff 5 _ rfl
  have f6 := hff 6 _ rfl
  replace f0 : DataW.trod enc Tryd.prog W 0 (fun _ => true) true q 22 [a0] = some x0 := by simpa [k22, Value.cells] using f0
  replace f1 : DataW.trod enc Tryd.prog W 0 (fun _ => true) true q 23 [a1] = some x1 := by simpa [k23, Value.cells] using f1
  replace f2 : DataW.trod enc Tryd.prog W 0 (fun _ => true) true q 3 [a2] = some x2 := by simpa [k3, Value.cells] using f2
  replace f3 : DataW.trod enc Tryd.prog W 0 (fun _ => true) true q 3 [a3] = some x3 := by simpa [k3, Value.cells] using f3
  replace f4 : DataW.trod enc Tryd.prog W 0 (fun _ => true) true q 3 [a4] = some x4 := by simpa [k3, Value.cells] using f4
  replace f5 : DataW.trod enc Tryd.prog W 0 (fun _ => true) true q 24 [a5] = some x5 := by simpa [k24, Value.cells] using f5
  replace f6 : DataW.trod enc Tryd.prog W 0 (fun _ => true) true q 25 [a6] = some x6 := by simpa [k25, Value.cells] using f6
  have hd : d = .agg [x0.1, x1.1, x2.1, x3.1, x4.1, x5.1, x6.1] := by
    simp only [Prod.mk.injEq] at hxy; rw [hxy.1]; rfl
  rw [hd] at hw
  simp only [DataW.weights, undO, List.map_cons, List.map_nil, DataW.weightsEach, List.all_append, Bool.and_eq_true] at hw
  obtain ⟨w0, w1, w2, w3, w4, w5, w6, _⟩ := hw
  obtain ⟨z0, e0, _, b0⟩ := DataW.trod_int Tryd.underlying22 f0
  obtain ⟨z1, e1, _, b1⟩ := DataW.trod_int Tryd.underlying23 f1
  obtain ⟨z2, e2, _, b2⟩ := DataW.trod_int Tryd.underlying3 f2
  obtain ⟨z3, e3, _, b3⟩ := DataW.trod_int Tryd.underlying3 f3
  obtain ⟨z4, e4, _, b4⟩ := DataW.trod_int Tryd.underlying3 f4
  simp only [List.cons.injEq, and_true] at e0 e1 e2 e3 e4
  subst e0 e1 e2 e3 e4
  have hv5 : ∃ p n c, a5 = .slice p n c := by
    rcases Deep.open_slice Tryd.underlying24 f5 with ⟨hcs, _⟩ | ⟨x, l, c, m, n, D, Pl, hcs, _⟩ <;> (simp at hcs; exact ⟨_, _, _, hcs⟩)
  obtain ⟨sp, n5, sc5, rfl⟩ := hv5
  have hv6 : ∃ p n c, a6 = .slice p n c := by
    rcases Deep.open_slice Tryd.underlying25 f6 with ⟨hcs, _⟩ | ⟨x, l, c, m, n, D, Pl, hcs, _⟩ <;> (simp at hcs; exact ⟨_, _, _, hcs⟩)
  obtain ⟨tp, n6, tc6, rfl⟩ := hv6
  obtain ⟨sc, g1, g2⟩ := open_bytes1 (d := x5.1) (p := x5.2) ⟨q, f5⟩
  obtain ⟨ts, j1, j2⟩ := open_tns (d := x6.1) (p := x6.2) ⟨q, f6⟩ w6
  exact ⟨z0, z1, z2, z3, z4, _, _, sc, ts, rfl, g1, j1, g2 w5, j2⟩
end
end Go.Proofs.YtlljelfplffglaaDoor.H
