import Derived.Test.YtlljelfplffglaaHOpen
import Derived.Test.YtlljelfplffglaaHDf
import Derived.Lib.SmallJoins
/-! What a row of changes that came in gives a walk. -/
namespace Go.Proofs.Ytlljelfplffglaa.H
open Go.RowKit Go.ChangeShapes Go.WideShapes Go.ChangeAt
open Go.Proofs
open Go.Proofs.Ytlljelfplffglaa.K
set_option linter.unusedVariables false
set_option linter.unusedSimpArgs false
set_option maxRecDepth 100000
set_option maxHeartbeats 4000000
section
variable {H : Type} {enc : TypeId × Value → H}
theorem c_none {a : Addr} {W : World} {v : Value} (h : W.cell? (a.add 0) = some v) : a.spot = none := by
  have := World.cell?_spot h
  simpa [Addr.add] using this
theorem c_at (b o k : Nat) : (⟨b, o, none⟩ : Addr).add k = ⟨b, o + k, none⟩ := Addr.add_lit _ _ _
theorem undC : Try.prog.underlying 52 = some (.struct #[⟨ "X", 3, 0, false, "", "", 0⟩, ⟨ "Y", 3, 1, false, "", "", 8⟩, ⟨ "Old", 5, 2, false, "", "", 16⟩, ⟨ "New", 5, 3, false, "", "", 17⟩]) := by kernel_rfl
theorem c_u8 {x : Int} (h : (Lit.int .u8 x).wf = true) : ∃ y : UInt8, x = (y.toNat : Int) := by
  have h0 : 0 ≤ x ∧ x ≤ 255 := by simpa [Lit.wf, IntKind.min, IntKind.max, IntKind.bits, IntKind.signed] using h
  exact ⟨UInt8.ofNat x.toNat, (byte_nat x h0.1 h0.2).symm⟩
theorem open_ch {W : World} {n : Nat} {cs : List Value} {D : DataW H} {Pl : List MemPlace} (h : DataW.trod enc Try.prog W 0 (fun _ => true) true n 52 cs = some (D, Pl)) :
    ∃ t : Ch, cs = [.int .i64 t.x, .int .i64 t.y, .int .u8 (t.o.toNat : Int), .int .u8 (t.n.toNat : Int)] := by
  obtain ⟨xs, q, _, hxy, hcl, hxl, hf⟩ := DataW.trod_struct undC h
  have hc5 : Try.prog.cellsOf 52 = 4 := by kernel_rfl
  rw [hc5] at hcl
  have c3 : Try.prog.cellsOf 3 = 1 := by kernel_rfl
  have c5 : Try.prog.cellsOf 5 = 1 := by kernel_rfl
  match xs, hxl, cs, hcl with
  | [x0, x1, x2, x3], _, [a, b, c, d], _ =>
    have f0 := hf 0 _ rfl
    have f1 := hf 1 _ rfl
    have f2 := hf 2 _ rfl
    have f3 := hf 3 _ rfl
    replace f0 : DataW.trod enc Try.prog W 0 (fun _ => true) true q 3 [a] = some x0 := by simpa [c3] using f0
    replace f1 : DataW.trod enc Try.prog W 0 (fun _ => true) true q 3 [b] = some x1 := by simpa [c3] using f1
    replace f2 : DataW.trod enc Try.prog W 0 (fun _ => true) true q 5 [c] = some x2 := by simpa [c5] using f2
    replace f3 : DataW.trod enc Try.prog W 0 (fun _ => true) true q 5 [d] = some x3 := by simpa [c5] using f3
    obtain ⟨k0, e0, _, _⟩ := DataW.trod_int Try.underlying3 f0
    obtain ⟨k1, e1, _, _⟩ := DataW.trod_int Try.underlying3 f1
    obtain ⟨k2, e2, q2, r2⟩ := DataW.trod_int Try.underlying5 f2
    obtain ⟨k3, e3, q3, r3⟩ := DataW.trod_int Try.underlying5 f3
    simp only [List.cons.injEq, and_true] at e0 e1 e2 e3
    subst e0 e1 e2 e3
    obtain ⟨y2, rfl⟩ := c_u8 (by first | exact r2 | exact q2)
    obtain ⟨y3, rfl⟩ := c_u8 (by first | exact r3 | exact q3)
    exact ⟨⟨k0, k1, y2, y3⟩, rfl⟩
theorem open_chz {W : World} {base : Nat} {v : Value} {d : DataW H} {p : List MemPlace} (hval : Value.okWide Try.prog W .any base 34 v) (h : DataW.Trod enc Try.prog W 0 (fun _ => true) true 34 v d p)
    (hw : (d.weights Try.prog 34).all (· ≤ reachBytes) = true) :
    ∃ l : List Ch, S.Ls eC 4 W v l ∧ (l.length + 1) * 24 + 2048 ≤ S.room := by
  obtain ⟨a, len, cap, rfl⟩ := okWide_slice Try.underlying34 hval
  obtain ⟨fuel, hf⟩ := h
  rcases Deep.open_slice Try.underlying34 hf with ⟨hcs, hx⟩ | ⟨x, l, c, m, n, D, Pl, hcs, _, hl, hm, hmm, hx, hel⟩
  · simp [Value.cells] at hcs
    obtain ⟨rfl, rfl, rfl⟩ := hcs
    exact ⟨[], .inl ⟨rfl, rfl⟩, by decide⟩
  · simp [Value.cells] at hcs
    obtain ⟨rfl, rfl, rfl⟩ := hcs
    simp only [Prod.mk.injEq] at hx
    obtain ⟨rfl, rfl⟩ := hx
    simp only [if_true] at hmm
    have hc5 : Try.prog.cellsOf 52 = 4 := by kernel_rfl
    rw [hc5] at hel
    have hby : Try.prog.bytesOf 52 = 24 := by kernel_rfl
    simp only [DataW.weights, Try.underlying34, List.all_cons, List.all_append, Bool.and_eq_true, decide_eq_true_eq, hby, List.length_map, List.length_range] at hw
    have hw1 := hw.1
    unfold reachBytes at hw1
    have hsp0 : 0 < len → x.spot = none := fun hp => by
      obtain ⟨cs', h1, h2⟩ := hel 0 (by omega)
      obtain ⟨_, hlen, hcell⟩ := World.cells?_some h1
      obtain ⟨t, rfl⟩ := open_ch h2
      have g0 := hcell 0 (by simp)
      rw [Deep.add_add] at g0
      exact c_none g0
    have hex : ∀ i, i < len → ∃ t : Ch, ∃ b o, some x = some (⟨b, o, none⟩ : Addr) ∧ W.cell? ⟨b, o + i * 4, none⟩ = some (.int .i64 t.x) ∧ W.cell? ⟨b, o + i * 4 + 1, none⟩ = some (.int .i64 t.y) ∧ W.cell? ⟨b, o + i * 4 + 2, none⟩ = some (.int .u8 (t.o.toNat : Int)) ∧ W.cell? ⟨b, o + i * 4 + 3, none⟩ = some (.int .u8 (t.n.toNat : Int)) := by
      intro i hi
      obtain ⟨cs', h1, h2⟩ := hel i (by omega)
      obtain ⟨_, hlen, hcell⟩ := World.cells?_some h1
      obtain ⟨t, rfl⟩ := open_ch h2
      have g0 := hcell 0 (by simp)
      have g1 := hcell 1 (by simp)
      have g2 := hcell 2 (by simp)
      have g3 := hcell 3 (by simp)
      simp only [List.getElem?_cons_zero, List.getElem?_cons_succ] at g0 g1 g2 g3
      rw [Deep.add_add] at g0 g1 g2 g3
      have hsp := hsp0 (by omega)
      obtain ⟨b, o, sp⟩ := x
      simp only at hsp
      subst hsp
      rw [c_at] at g0 g1 g2 g3
      exact ⟨t, b, o, rfl, g0, by rw [Nat.add_assoc]; exact g1, by rw [Nat.add_assoc]; exact g2, by rw [Nat.add_assoc]; exact g3⟩
    have : Inhabited Ch := ⟨⟨0, 0, 0, 0⟩⟩
    obtain ⟨f, hf2⟩ := Deep.choose_lt hex
    refine ⟨(List.range len).map f, .inr ⟨x, cap, by simp, by simpa using hl, fun i t hi => ?_⟩, by simp; unfold S.room; omega⟩
    have hil : i < len := by
      by_cases h : i < len
      · exact h
      · rw [List.getElem?_eq_none (by simp; omega)] at hi; cases hi
    simp [hil] at hi
    subst hi
    obtain ⟨b, o, e0, e1, e2, e3, e4⟩ := hf2 i hil
    refine ⟨b, o, e0, fun j u hj => ?_⟩
    match j, hj with
    | 0, hj => simp only [eC, List.getElem?_cons_zero, Option.some.injEq] at hj; subst hj; exact e1
    | 1, hj => simp only [eC, List.getElem?_cons_succ, List.getElem?_cons_zero, Option.some.injEq] at hj; subst hj; exact e2
    | 2, hj => simp only [eC, List.getElem?_cons_succ, List.getElem?_cons_zero, Option.some.injEq] at hj; subst hj; exact e3
    | 3, hj => simp only [eC, List.getElem?_cons_succ, List.getElem?_cons_zero, Option.some.injEq] at hj; subst hj; exact e4
    | j + 4, hj => simp [eC] at hj
end
end Go.Proofs.Ytlljelfplffglaa.H
