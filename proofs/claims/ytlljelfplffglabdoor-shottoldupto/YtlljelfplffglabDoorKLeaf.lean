import Derived.Test.YtlljelfplffglabDoorKKit
import Derived.BigQuiet
/-! bytes.Clone, Roomy, AsWas, Join. -/
namespace Go.Proofs.YtlljelfplffglabDoor.K
open Go.RowKit
set_option linter.unusedVariables false

theorem Grew.belowAll {W W' : World} {v v' : Value} (h : Grew W W' v v') {N : Nat} (hB : ∀ g, v.ownBlock = some g → N ≤ g) {W0 : World} (h0 : Below N W0 W) (hN : N ≤ W0.heap.size) : Below N W0 W' :=
  h0.trans (h.below hB (Nat.le_trans hN h0.size))

theorem eql_nil (W : World) (p : Option Addr) (n c : Nat) : (binOp .eql 23 (.slice p n c) (.slice none 0 0)).run Tryd.prog W = .ok (.bool p.isNone) W := by
  have h : ∀ d : Nat, (Op.equalIn (d + 1) 23 (.slice p n c) (.slice none 0 0)).run Tryd.prog W = .ok p.isNone W := fun d => by
    cases p <;> simp [Op.equalIn, run_underlying Tryd.underlying23]
  have h2 : (Op.equal 23 (.slice p n c) (.slice none 0 0)).run Tryd.prog W = .ok p.isNone W := h 9999
  simp [binOp, h2]

theorem elem22 : Tryd.prog.underlying 23 = some (.slice (Tryd.prog.elem 23)) := by kernel_rfl
theorem size5 (W : World) : (sizeOf (Tryd.prog.elem 23)).run Tryd.prog W = .ok 1 W := by
  have e : Tryd.prog.elem 23 = 5 := by kernel_rfl
  rw [e]
  simp [sizeOf]
  rfl
theorem slice_to (W : World) (p : Option Addr) (n cap h : Nat) (z : Int) (hz : z = (h : Int)) (hc : h ≤ cap) : (Instr.sliceAt 23 (.slice p n cap) none (some (.int .i64 z)) none).run Tryd.prog W = .ok (.slice p h cap) W := by
  subst hz
  have e0 : Option.map (fun x : Addr => x.add 0) p = p := by cases p <;> simp [Addr.add]
  rw [run_sliceAt_slice W 23 _ _ _ _ elem22, run_slice_h W 23 p n cap elem22 .i64 (h : Int) (by omega) (by omega), size5]
  simp [Result.andThen, sliced, e0]
theorem slice_from (W : World) (p : Option Addr) (n cap l : Nat) (z : Int) (hz : z = (l : Int)) (hc : l ≤ n) : (Instr.sliceAt 23 (.slice p n cap) (some (.int .i64 z)) none none).run Tryd.prog W = .ok (.slice (if cap = l then p else p.map (·.add l)) (n - l) (cap - l)) W := by
  subst hz
  rw [run_sliceAt_slice W 23 _ _ _ _ elem22, run_slice_l W 23 p n cap elem22 .i64 (l : Int) (by omega) (by omega), size5]
  simp [Result.andThen, sliced]

set_option maxHeartbeats 1000000 in
set_option maxRecDepth 100000 in
theorem clone_any (v : Value) (l : List UInt8) (hl : l.length ≤ room) (w : World) (h : Sl w v l) :
    Calls Tryd.prog 22 #[v] w fun e w' => ∃ u, e = .returned u ∧ Row w' w.heap.size u l ∧ Below w.heap.size w w' := by
  have h0 := h
  rcases h with ⟨rfl, rfl⟩ | ⟨x, c, rfl, _, hc⟩
  · have hn := fun (W : World) => eql_nil W none 0 0
    go_enter Tryd.func22, Tryd.ntmps22
    go_wp2
    go_ret
    exact ⟨_, rfl, row_nil _ _, Below.refl _ _⟩
  · have hr0 : Row (w.alloc (.cells #[] 5)) w.heap.size (.slice (some ⟨w.heap.size, 0, none⟩) 0 0) [] := row_of_alloc w w.heap.size (Nat.le_refl _) [] (by simp)
    have hb0 : Below w.heap.size w (w.alloc (.cells #[] 5)) := (Below.refl _ _).alloc (Nat.le_refl _) _
    have hs0 := h0.below hb0
    have hn := fun (W : World) => eql_nil W (some x) l.length c
    go_enter Tryd.func22, Tryd.ntmps22
    go_wp2_with (first | (at_builtin; refine wpList_append_bytes _ rfl _ _ rfl w.heap.size _ [] rfl hr0 _ l rfl hs0 (by simpa using hl) hb0.size ?_))
    intro v' w' hr hg
    go_wp2
    go_ret
    exact ⟨_, rfl, hr, hg.belowAll (fun g e => (hr0.lt g e).1) hb0 (Nat.le_refl _)⟩

def marks : List UInt8 := [85, 170, 85]
/-- A slice with room of its own behind it: the marks. -/
def Roomed (W : World) (B : Nat) (v : Value) (l : List UInt8) : Prop := ∃ g cap, v = .slice (some ⟨g, 0, none⟩) l.length cap ∧ Row W B (.slice (some ⟨g, 0, none⟩) (l.length + 3) cap) (l ++ marks)

theorem Sl.conv {W : World} {v : Value} {l : List UInt8} (h : Sl W v l) (hl : l.length ≤ maxLen) : (convert 23 9 v).run Tryd.prog W = .ok (.string ⟨l.toArray⟩) W := by
  rcases h with ⟨rfl, rfl⟩ | ⟨x, c, rfl, _, h⟩
  · rw [run_convert_bytes_string W 23 9 5 none 0 0 Tryd.underlying23 Tryd.underlying5 Tryd.underlying9]; rfl
  · exact run_convert_bytes_back (P := Tryd.prog) W 23 9 5 x c l Tryd.underlying23 Tryd.underlying5 Tryd.underlying9 (fun j hj => h j _ (by simp))
theorem str_append (l m : List UInt8) : (⟨l.toArray⟩ ++ ⟨m.toArray⟩ : ByteArray) = ⟨(l ++ m).toArray⟩ := by
  apply ByteArray.ext; simp [ByteArray.data_append]

end Go.Proofs.YtlljelfplffglabDoor.K
