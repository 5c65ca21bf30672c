import Derived.Test.YtmlpijjjkpnioaaDoorCDec
import Derived.Laws.StructEq
/-! Same of two that are one; num. -/
namespace Go.Proofs.YtmlpijjjkpnioaaDoor.C
open Go.RowKit
open Go.Proofs
open Go.Proofs.YtmlpijjjkpnioaaDoor.K
set_option linter.unusedVariables false
set_option linter.unusedSimpArgs false
set_option maxHeartbeats 1000000
set_option maxRecDepth 100000
theorem num_any (x : Int) (w : World) : Calls Tryd.prog 11 #[.int .i64 x] w fun r w' => r = .returned (.int .i64 x) ∧ w' = w := by
  go_enter Tryd.func11, Tryd.ntmps11
  go_wp2
  go_ret
  exact ⟨rfl, rfl⟩
theorem neq_same (W : World) (a i o : Int) : (binOp .neq 80 (.agg #[.int .u16 a, .int .i64 i, .int .i64 o]) (.agg #[.int .u16 a, .int .i64 i, .int .i64 o])).run Tryd.prog W = .ok (.bool false) W := by
  have hs : Tryd.prog.underlying 80 = some (.struct (Tryd.prog.fieldsOf 80)) := by kernel_rfl
  have hf : Tryd.prog.fieldsOf 80 = #[⟨ "At", 23, 0, false, "", "", 0⟩, ⟨ "In", 3, 1, false, "", "", 8⟩, ⟨ "Out", 3, 2, false, "", "", 16⟩] := by kernel_rfl
  have hp : Tryd.prog.stoodInHeld 80 = false := by kernel_rfl
  have k1 : Tryd.prog.cellsOf 23 = 1 := by kernel_rfl
  have k2 : Tryd.prog.cellsOf 3 = 1 := by kernel_rfl
  rw [run_neq_struct, run_equalIn_agg W 9999 _ _ _ hs hp, hf]
  simp [go_sem, Tryd.underlying23, Tryd.underlying3, k1, k2, Result.andThen]
theorem same_true (v v' : Value) (c : Ct) (ep ep' : Option Addr) (ec ec' : Nat) (bp bp' : Option Addr) (bc bc' : Nat) (kv kv' : Value) (w : World) (h : IsC w v c ep ec bp bc kv) (h' : IsC w v' c ep' ec' bp' bc' kv') :
    Calls Tryd.prog 12 #[v, v'] w fun e w' => e = .returned (.bool true) ∧ Below w.heap.size w w' := by
  obtain ⟨kp, kc, rfl, _⟩ := h.code.ex
  obtain ⟨kp', kc', rfl, _⟩ := h'.code.ex
  have hv := h.val
  have hv' := h'.val
  subst hv hv'
  unfold cv
  have hel := h.elen
  have hbl := h.blen
  have hcl := h.clen
  obtain ⟨W1, hW1⟩ : ∃ W1, W1 = (w.alloc (.cells #[.slice kp c.code.length kc, .int .u16 (c.entry : Int), .slice ep c.effs.length ec, .slice bp c.banks.length bc] 27)).alloc (.cells #[.slice kp' c.code.length kc', .int .u16 (c.entry : Int), .slice ep' c.effs.length ec', .slice bp' c.banks.length bc'] 27) := ⟨_, rfl⟩
  have hB1 : Below w.heap.size w W1 := by rw [hW1]; exact ((Below.refl _ _).alloc (Nat.le_refl _) _).alloc (by simp) _
  have hE := h.effs.below hB1
  have hE' := h'.effs.below hB1
  have hK := h.banks.below hB1
  have hK' := h'.banks.below hB1
  have v1 := Sl.conv (h.code.below hB1) (by unfold maxLen; unfold room at hcl; omega)
  have v2 := Sl.conv (h'.code.below hB1) (by unfold maxLen; unfold room at hcl; omega)
  have n0 : W1.heap[w.heap.size]? = some (.cells [.slice kp c.code.length kc, .int .u16 (c.entry : Int), .slice ep c.effs.length ec, .slice bp c.banks.length bc].toArray 27 (0, 0)) := by
    rw [hW1, Below.heap_alloc _ _ _ (by simp)]; exact heap_alloc_new w _
  have n1 : W1.heap[w.heap.size + 1]? = some (.cells [.slice kp' c.code.length kc', .int .u16 (c.entry : Int), .slice ep' c.effs.length ec', .slice bp' c.banks.length bc'].toArray 27 (0, 0)) := by
    rw [hW1]; have := heap_alloc_new (w.alloc (.cells #[.slice kp c.code.length kc, .int .u16 (c.entry : Int), .slice ep c.effs.length ec, .slice bp c.banks.length bc] 27)) (.cells #[.slice kp' c.code.length kc', .int .u16 (c.entry : Int), .slice ep' c.effs.length ec', .slice bp' c.banks.length bc'] 27); simpa using this
  have a2 := fun q => (show (W1.drewN q).cell? ⟨w.heap.size, 2, none⟩ = some (.slice ep c.effs.length ec) from cell_of W1 _ 2 _ _ _ n0 rfl)
  have a3 := fun q => (show (W1.drewN q).cell? ⟨w.heap.size, 3, none⟩ = some (.slice bp c.banks.length bc) from cell_of W1 _ 3 _ _ _ n0 rfl)
  have b2 := fun q => (show (W1.drewN q).cell? ⟨w.heap.size + 1, 2, none⟩ = some (.slice ep' c.effs.length ec') from cell_of W1 _ 2 _ _ _ n1 rfl)
  have b3 := fun q => (show (W1.drewN q).cell? ⟨w.heap.size + 1, 3, none⟩ = some (.slice bp' c.banks.length bc') from cell_of W1 _ 3 _ _ _ n1 rfl)
  have HB := hid hB1
  have HE := hid hE
  have HE' := hid hE'
  have HK := hid hK
  have HK' := hid hK'
  have ns := fun W a i o => neq_same W a i o
  unfold room at hel hbl
  clear hB1 hE hE' hK hK' h h' n0 n1
  generalize (⟨c.code.toArray⟩ : ByteArray) = s at *
  rw [hW1] at v1 v2
  go_enter Tryd.func12, Tryd.ntmps12
  go_wp2_with fail
  rw [← hW1]
  clear hW1 v1 v2
  go_loopw [5] (fun i wr => ∃ k q : Nat, k ≤ c.effs.length ∧ i = .int .i64 (k : Int) ∧ wr = W1.drewN q) (fun i _ => c.effs.length - (intOf i).toNat)
  case atStart => exact ⟨0, 0, by omega, rfl, rfl⟩
  case round =>
    obtain ⟨k, q, hk, rfl, rfl⟩ := hrel
    by_cases hlt : k < c.effs.length
    · have i1 : (k : Int) < c.effs.length := by omega
      obtain ⟨b, ob, hp1, e1, e2, e3⟩ := HE.out k c.effs[k] (List.getElem?_eq_getElem hlt)
      obtain ⟨b', ob', hp2, f1, f2, f3⟩ := HE'.out k c.effs[k] (List.getElem?_eq_getElem hlt)
      subst hp1 hp2
      generalize c.effs[k] = t at *
      obtain ⟨ta, ti, to⟩ := t
      simp only at *
      have g1 : ∀ q, (W1.drewN q).cell? ⟨b, ob + k * 3, none⟩ = some (.int .u16 (ta : Int)) := fun q => e1
      have g2 : ∀ q, (W1.drewN q).cell? ⟨b, ob + k * 3 + 1, none⟩ = some (.int .i64 ti) := fun q => e2
      have g3 : ∀ q, (W1.drewN q).cell? ⟨b, ob + k * 3 + 2, none⟩ = some (.int .i64 to) := fun q => e3
      have g4 : ∀ q, (W1.drewN q).cell? ⟨b', ob' + k * 3, none⟩ = some (.int .u16 (ta : Int)) := fun q => f1
      have g5 : ∀ q, (W1.drewN q).cell? ⟨b', ob' + k * 3 + 1, none⟩ = some (.int .i64 ti) := fun q => f2
      have g6 : ∀ q, (W1.drewN q).cell? ⟨b', ob' + k * 3 + 2, none⟩ = some (.int .i64 to) := fun q => f3
      clear e1 e2 e3 f1 f2 f3
      go_wp2_with fail
      go_quiet (fail)
      go_wp2
      go_roundw
      case rel =>
        first
          | exact ⟨k + 1, _, by omega, by go_num, rfl⟩
          | ((repeat apply Exists.intro); refine ⟨⟨k + 1, _, by omega, ?_, rfl⟩, rfl⟩; go_num)
      case measure => simp [intOf]; omega
    · obtain rfl : k = c.effs.length := by omega
      go_wp2_with fail
      go_loopw [6] (fun i wr => ∃ k q : Nat, k ≤ c.banks.length ∧ i = .int .i64 (k : Int) ∧ wr = W1.drewN q) (fun i _ => c.banks.length - (intOf i).toNat)
      case atStart => exact ⟨0, _, by omega, rfl, rfl⟩
      case round =>
        obtain ⟨k, q', hk', rfl, rfl⟩ := hrel
        by_cases hlt2 : k < c.banks.length
        · have i1 : (k : Int) < c.banks.length := by omega
          obtain ⟨b, o, dv, hp1, e1, e2, e3, e4⟩ := HK.out k c.banks[k] (List.getElem?_eq_getElem hlt2)
          obtain ⟨b', o', dv', hp2, f1, f2, f3, f4⟩ := HK'.out k c.banks[k] (List.getElem?_eq_getElem hlt2)
          subst hp1 hp2
          have v1 := fun q => Sl.conv (W := W1.drewN q) e3 (by unfold maxLen; unfold room at e4; omega)
          have v2 := fun q => Sl.conv (W := W1.drewN q) f3 (by unfold maxLen; unfold room at e4; omega)
          obtain ⟨dp, dc, rfl, _⟩ := e3.ex
          obtain ⟨dp', dc', rfl, _⟩ := f3.ex
          generalize hn : (c.banks[k]).1 = n at *
          generalize hL : (c.banks[k]).2.length = L at *
          generalize hs : (⟨(c.banks[k]).2.toArray⟩ : ByteArray) = s2 at *
          clear e3 f3 e4 f4
          have g1 : ∀ q, (W1.drewN q).cell? ⟨b, o + k * 2, none⟩ = some (.int .i64 n) := fun q => e1
          have g2 : ∀ q, (W1.drewN q).cell? ⟨b, o + k * 2 + 1, none⟩ = some (.slice dp L dc) := fun q => e2
          have g3 : ∀ q, (W1.drewN q).cell? ⟨b', o' + k * 2, none⟩ = some (.int .i64 n) := fun q => f1
          have g4 : ∀ q, (W1.drewN q).cell? ⟨b', o' + k * 2 + 1, none⟩ = some (.slice dp' L dc') := fun q => f2
          clear e1 e2 f1 f2
          go_wp2_with fail
          go_quiet (fail)
          go_wp2
          go_roundw
          case rel =>
            first
              | exact ⟨k + 1, _, by omega, by go_num, rfl⟩
              | ((repeat apply Exists.intro); refine ⟨⟨k + 1, _, by omega, ?_, rfl⟩, rfl⟩; go_num)
          case measure => simp [intOf]; omega
        · obtain rfl : k = c.banks.length := by omega
          go_wp2
          go_ret
          exact ⟨rfl, dn HB.out _⟩
end Go.Proofs.YtmlpijjjkpnioaaDoor.C
