import Derived.Test.YtlljelfplffglabKKit
import Derived.BigQuiet
/-! bytes.Clone, Roomy, AsWas, Join. -/
namespace Go.Proofs.Ytlljelfplffglab.K
open Go.RowKit
set_option linter.unusedVariables false

theorem Grew.belowAll {W W' : World} {v v' : Value} (h : Grew W W' v v') {N : Nat} (hB : ∀ g, v.ownBlock = some g → N ≤ g) {W0 : World} (h0 : Below N W0 W) (hN : N ≤ W0.heap.size) : Below N W0 W' :=
  h0.trans (h.below hB (Nat.le_trans hN h0.size))

theorem eql_nil (W : World) (p : Option Addr) (n c : Nat) : (binOp .eql 22 (.slice p n c) (.slice none 0 0)).run Try.prog W = .ok (.bool p.isNone) W := by
  have h : ∀ d : Nat, (Op.equalIn (d + 1) 22 (.slice p n c) (.slice none 0 0)).run Try.prog W = .ok p.isNone W := fun d => by
    cases p <;> simp [Op.equalIn, run_underlying Try.underlying22]
  have h2 : (Op.equal 22 (.slice p n c) (.slice none 0 0)).run Try.prog W = .ok p.isNone W := h 9999
  simp [binOp, h2]

theorem elem22 : Try.prog.underlying 22 = some (.slice (Try.prog.elem 22)) := by kernel_rfl
theorem size5 (W : World) : (sizeOf (Try.prog.elem 22)).run Try.prog W = .ok 1 W := by
  have e : Try.prog.elem 22 = 5 := by kernel_rfl
  rw [e]
  simp [sizeOf]
  rfl
theorem slice_to (W : World) (p : Option Addr) (n cap h : Nat) (z : Int) (hz : z = (h : Int)) (hc : h ≤ cap) : (Instr.sliceAt 22 (.slice p n cap) none (some (.int .i64 z)) none).run Try.prog W = .ok (.slice p h cap) W := by
  subst hz
  have e0 : Option.map (fun x : Addr => x.add 0) p = p := by cases p <;> simp [Addr.add]
  rw [run_sliceAt_slice W 22 _ _ _ _ elem22, run_slice_h W 22 p n cap elem22 .i64 (h : Int) (by omega) (by omega), size5]
  simp [Result.andThen, sliced, e0]
theorem slice_from (W : World) (p : Option Addr) (n cap l : Nat) (z : Int) (hz : z = (l : Int)) (hc : l ≤ n) : (Instr.sliceAt 22 (.slice p n cap) (some (.int .i64 z)) none none).run Try.prog W = .ok (.slice (if cap = l then p else p.map (·.add l)) (n - l) (cap - l)) W := by
  subst hz
  rw [run_sliceAt_slice W 22 _ _ _ _ elem22, run_slice_l W 22 p n cap elem22 .i64 (l : Int) (by omega) (by omega), size5]
  simp [Result.andThen, sliced]

def marks : List UInt8 := [85, 170, 85]
/-- A slice with room of its own behind it: the marks. -/
def Roomed (W : World) (B : Nat) (v : Value) (l : List UInt8) : Prop := ∃ g cap, v = .slice (some ⟨g, 0, none⟩) l.length cap ∧ Row W B (.slice (some ⟨g, 0, none⟩) (l.length + 3) cap) (l ++ marks)

theorem Sl.conv {W : World} {v : Value} {l : List UInt8} (h : Sl W v l) (hl : l.length ≤ maxLen) : (convert 22 9 v).run Try.prog W = .ok (.string ⟨l.toArray⟩) W := by
  rcases h with ⟨rfl, rfl⟩ | ⟨x, c, rfl, _, h⟩
  · rw [run_convert_bytes_string W 22 9 5 none 0 0 Try.underlying22 Try.underlying5 Try.underlying9]; rfl
  · exact run_convert_bytes_back (P := Try.prog) W 22 9 5 x c l Try.underlying22 Try.underlying5 Try.underlying9 (fun j hj => h j _ (by simp))
theorem str_append (l m : List UInt8) : (⟨l.toArray⟩ ++ ⟨m.toArray⟩ : ByteArray) = ⟨(l ++ m).toArray⟩ := by
  apply ByteArray.ext; simp [ByteArray.data_append]

end Go.Proofs.Ytlljelfplffglab.K
