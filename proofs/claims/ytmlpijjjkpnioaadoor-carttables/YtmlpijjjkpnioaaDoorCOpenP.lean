import Derived.Test.YtmlpijjjkpnioaaDoorCOpenC
import Derived.Test.YtmlpijjjkpnioaaDoorCPcK
/-! Pieces that came in. -/
namespace Go.Proofs.YtmlpijjjkpnioaaDoor.C
open Go.RowKit Go.ChangeShapes Go.WideShapes Go.ChangeAt
open Go.Proofs.YtmlpijjjkpnioaaDoor.K
set_option linter.unusedVariables false
set_option linter.unusedSimpArgs false
set_option maxRecDepth 100000
section
variable {H : Type} {enc : TypeId × Value → H}
theorem undP : Tryd.prog.underlying 50 = some (.struct #[⟨ "Kind", 5, 0, false, "", "", 0⟩, ⟨ "Number", 5, 1, false, "", "", 1⟩, ⟨ "At", 38, 2, false, "", "", 4⟩, ⟨ "Size", 38, 3, false, "", "", 8⟩]) := by kernel_rfl
theorem open_piece {W : World} {n : Nat} {cs : List Value} {D : DataW H} {Pl : List MemPlace} (h : DataW.trod enc Tryd.prog W 0 (fun _ => true) true n 50 cs = some (D, Pl)) :
    ∃ (a b c d : Int), cs = [.int .u8 a, .int .u8 b, .int .u32 c, .int .u32 d] ∧ (Lit.int .u8 a).wf = true ∧ (Lit.int .u8 b).wf = true ∧ (Lit.int .u32 c).wf = true ∧ (Lit.int .u32 d).wf = true := by
  obtain ⟨xs, q, _, hxy, hcl, hxl, hf⟩ := DataW.trod_struct undP h
  have hc4 : Tryd.prog.cellsOf 50 = 4 := by kernel_rfl
  rw [hc4] at hcl
  have c5 : Tryd.prog.cellsOf 5 = 1 := by kernel_rfl
  have c38 : Tryd.prog.cellsOf 38 = 1 := by kernel_rfl
  match xs, hxl, cs, hcl with
  | [x0, x1, x2, x3], _, [a, b, c, d], _ =>
    have f0 := hf 0 _ rfl
    have f1 := hf 1 _ rfl
    have f2 := hf 2 _ rfl
    have f3 := hf 3 _ rfl
    replace f0 : DataW.trod enc Tryd.prog W 0 (fun _ => true) true q 5 [a] = some x0 := by simpa [c5] using f0
    replace f1 : DataW.trod enc Tryd.prog W 0 (fun _ => true) true q 5 [b] = some x1 := by simpa [c5] using f1
    replace f2 : DataW.trod enc Tryd.prog W 0 (fun _ => true) true q 38 [c] = some x2 := by simpa [c5, c38] using f2
    replace f3 : DataW.trod enc Tryd.prog W 0 (fun _ => true) true q 38 [d] = some x3 := by simpa [c5, c38] using f3
    obtain ⟨k0, e0, _, w0⟩ := DataW.trod_int Tryd.underlying5 f0
    obtain ⟨k1, e1, _, w1⟩ := DataW.trod_int Tryd.underlying5 f1
    obtain ⟨k2, e2, _, w2⟩ := DataW.trod_int Tryd.underlying38 f2
    obtain ⟨k3, e3, _, w3⟩ := DataW.trod_int Tryd.underlying38 f3
    simp at e0 e1 e2 e3
    subst e0 e1 e2 e3
    exact ⟨k0, k1, k2, k3, rfl, w0, w1, w2, w3⟩
theorem open_pieces {W : World} {a : Option Addr} {len cap : Nat} {d : DataW H} {p : List MemPlace} (h : DataW.Trod enc Tryd.prog W 0 (fun _ => true) true 42 (.slice a len cap) d p)
    (hw : (d.weights Tryd.prog 42).all (· ≤ reachBytes) = true) :
    ∃ (ps : List Pc), len = ps.length ∧ PcS W a ps ∧ ps.length * 12 + 4096 ≤ room := by
  obtain ⟨fuel, hf⟩ := h
  rcases Deep.open_slice Tryd.underlying42 hf with ⟨hcs, hx⟩ | ⟨x, l, c, m, n, D, Pl, hcs, _, hl, hm, hmm, hx, hel⟩
  · simp [Value.cells] at hcs
    obtain ⟨rfl, rfl, rfl⟩ := hcs
    exact ⟨[], rfl, fun i l hi => by simp at hi, by unfold room; simp⟩
  · simp [Value.cells] at hcs
    obtain ⟨rfl, rfl, rfl⟩ := hcs
    simp only [Prod.mk.injEq] at hx
    obtain ⟨rfl, rfl⟩ := hx
    simp only [if_true] at hmm
    have hc4 : Tryd.prog.cellsOf 50 = 4 := by kernel_rfl
    rw [hc4] at hel
    have hby : Tryd.prog.bytesOf 50 = 12 := by kernel_rfl
    simp only [DataW.weights, Tryd.underlying42, List.all_cons, List.all_append, Bool.and_eq_true, decide_eq_true_eq, hby, List.length_map, List.length_range] at hw
    have hw1 := hw.1
    unfold reachBytes at hw1
    have hsp0 : 0 < len → x.spot = none := fun hp => by
      obtain ⟨cs', h1, h2⟩ := hel 0 (by omega)
      obtain ⟨_, hlen, hcell⟩ := World.cells?_some h1
      obtain ⟨k0, k1, k2, k3, rfl, _⟩ := open_piece h2
      have g0 := hcell 0 (by decide)
      rw [Deep.add_add] at g0
      exact add_none g0
    have hex : ∀ i, i < len → ∃ t : Pc, ∃ b o, some x = some (⟨b, o, none⟩ : Addr) ∧ W.cell? ⟨b, o + i * 4, none⟩ = some (.int .u8 (t.1.toNat : Int)) ∧ W.cell? ⟨b, o + i * 4 + 1, none⟩ = some (.int .u8 (t.2.1.toNat : Int)) ∧ W.cell? ⟨b, o + i * 4 + 2, none⟩ = some (.int .u32 (t.2.2.1 : Int)) ∧ W.cell? ⟨b, o + i * 4 + 3, none⟩ = some (.int .u32 (t.2.2.2 : Int)) ∧ t.2.2.1 < 4294967296 ∧ t.2.2.2 < 4294967296 := fun i hi => by
      obtain ⟨cs', h1, h2⟩ := hel i (by omega)
      obtain ⟨_, hlen, hcell⟩ := World.cells?_some h1
      obtain ⟨k0, k1, k2, k3, rfl, w0, w1, w2, w3⟩ := open_piece h2
      have b0 := bounds_u8 w0
      have b1 := bounds_u8 w1
      have b2 := bounds_u32 w2
      have b3 := bounds_u32 w3
      obtain ⟨n2, rfl⟩ : ∃ kn : Nat, k2 = (kn : Int) := ⟨k2.toNat, by omega⟩
      obtain ⟨n3, rfl⟩ : ∃ kn : Nat, k3 = (kn : Int) := ⟨k3.toNat, by omega⟩
      have g0 := hcell 0 (by decide)
      have g1 := hcell 1 (by decide)
      have g2 := hcell 2 (by decide)
      have g3 := hcell 3 (by decide)
      simp only [List.getElem?_cons_zero, List.getElem?_cons_succ] at g0 g1 g2 g3
      rw [Deep.add_add] at g0 g1 g2 g3
      have hsp := hsp0 (by omega)
      obtain ⟨b, o, sp⟩ := x
      simp only at hsp
      subst hsp
      rw [add_at] at g0 g1 g2 g3
      refine ⟨(UInt8.ofNat k0.toNat, UInt8.ofNat k1.toNat, n2, n3), b, o, rfl, ?_, ?_, ?_, ?_, ?_, ?_⟩
      · rw [byte_nat k0 b0.1 b0.2]; exact g0
      · rw [byte_nat k1 b1.1 b1.2, Nat.add_assoc]; exact g1
      · rw [Nat.add_assoc]; exact g2
      · rw [Nat.add_assoc]; exact g3
      · show n2 < 4294967296; omega
      · show n3 < 4294967296; omega
    obtain ⟨f, hf2⟩ := Deep.choose_lt hex
    refine ⟨(List.range len).map f, by simp, fun i t hi => ?_, by simp; unfold room; omega⟩
    have hil : i < len := by
      by_cases h : i < len
      · exact h
      · rw [List.getElem?_eq_none (by simp; omega)] at hi; cases hi
    simp [hil] at hi
    subst hi
    exact hf2 i hil
end
end Go.Proofs.YtmlpijjjkpnioaaDoor.C
