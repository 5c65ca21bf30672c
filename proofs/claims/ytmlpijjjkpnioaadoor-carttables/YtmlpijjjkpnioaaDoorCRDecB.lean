import Derived.Test.YtmlpijjjkpnioaaDoorCRDecK
/-! The reference's Decode: the banks as they come. -/
namespace Go.Proofs.YtmlpijjjkpnioaaDoor.C
open Go.RowKit
open Go.Proofs
open Go.Proofs.YtmlpijjjkpnioaaDoor.K
set_option linter.unusedVariables false
set_option linter.unusedSimpArgs false
theorem num2 (l : List UInt8) : numL (l.take 2) < 65536 := by
  have h := numL_lt (l.take 2)
  have h2 : (l.take 2).length ≤ 2 := by rw [List.length_take]; omega
  have h3 : 2 ^ (8 * (l.take 2).length) ≤ 2 ^ 16 := Nat.pow_le_pow_right (by decide) (by omega)
  omega
theorem effD_small : ∀ (n : Nat) (f : List UInt8) (x : Ef), x ∈ effD n f → x.1 < 65536 ∧ 0 ≤ x.2.1 ∧ x.2.1 < 65536 ∧ 0 ≤ x.2.2 ∧ x.2.2 < 65536
  | 0, f, x, h => by simp [effD] at h
  | n + 1, f, x, h => by
    rw [effD, List.mem_cons] at h
    rcases h with rfl | h
    · have a := num2 f
      have b := num2 (f.drop 2)
      have c := num2 (f.drop 4)
      refine ⟨a, ?_, ?_, ?_, ?_⟩ <;> simp only <;> omega
    · exact effD_small n _ x h
theorem secR_len (b : List UInt8) (m i : Nat) : (secR b m i).2.2.length ≤ b.length := by
  unfold secR body
  simp only [List.length_take, List.length_drop]
  omega
theorem cart_ints (b : List UInt8) (m en : Nat) (hb : b.length ≤ 524288) (h2 : 2 ≤ m) (hm : m ≤ 18) (he : en < 65536) : Ints (cartOf en (secsR b m m)) := by
  have e0 := (s0_at (b := b) h2).1
  have e1 := (s0_at (b := b) h2).2
  have l0 := secR_len b m 0
  have l1 := secR_len b m 1
  have hbk : ∀ x ∈ bks ((secsR b m m).drop 2), x.2.length ≤ b.length ∧ 0 ≤ x.1 ∧ x.1 < 256 := fun x hx => by
    unfold bks at hx
    obtain ⟨s, hs, rfl⟩ := List.mem_map.1 hx
    have hs2 := List.mem_of_mem_drop hs
    unfold secsR at hs2
    obtain ⟨i, _, rfl⟩ := List.mem_map.1 hs2
    have := u8lt (secR b m i).2.1
    refine ⟨secR_len b m i, ?_, ?_⟩ <;> simp only <;> omega
  refine ⟨⟨he, fun x hx => (effD_small _ _ x hx).1⟩, ?_, ?_, ?_, ?_, ?_, ?_⟩
  · show (s0 _).length ≤ _
    rw [e0]; unfold room; omega
  · show (effD _ _).length * 24 ≤ _
    rw [effD_len, e1]; unfold room; omega
  · show (bks _).length * 32 ≤ _
    unfold bks; rw [List.length_map, List.length_drop, secsR_len]; unfold room; omega
  · intro x hx
    have := (hbk x hx).1
    unfold room; omega
  · intro x hx
    obtain ⟨_, a, c, d, e⟩ := effD_small _ _ x hx
    constructor
    · simp [Lit.wf, IntKind.min, IntKind.max, IntKind.bits, IntKind.signed]; omega
    · simp [Lit.wf, IntKind.min, IntKind.max, IntKind.bits, IntKind.signed]; omega
  · intro x hx
    have := (hbk x hx).2
    simp [Lit.wf, IntKind.min, IntKind.max, IntKind.bits, IntKind.signed]; omega
/-- The banks that are there. -/
structure BR (B : Nat) (W : World) (kv bo : Value) (bs : List Bk) (pb : List (Bk × Value)) : Prop where
  map : pb.map Prod.fst = bs
  row : W.ownsRow B 82 2 bo pb.length (bcs pb)
  dat : ∀ x ∈ pb, Row W B x.2 x.1.2
  nd : (kv :: pb.map Prod.snd).Pairwise Apt
theorem BR.nil (B : Nat) (W : World) (kv : Value) : BR B W kv (.slice none 0 0) [] [] := ⟨rfl, World.ownsRow_nil _ _ _ _, fun x hx => by simp at hx, by simp⟩
theorem BR.step {T : TypeId} {B : Nat} {W W' : World} {kv bo : Value} {bs : List Bk} {pb : List (Bk × Value)} (h : BR B W kv bo bs pb) (k : KT T W W') (h1 : 82 ≠ T) (h5 : 5 ≠ T) : BR B W' kv bo bs pb :=
  ⟨h.map, own_kt h.row h1 k, fun x hx => row_kt (h.dat x hx) h5 k, h.nd⟩
theorem BR.next {B : Nat} {W W' : World} {kv bo : Value} {bs : List Bk} {pb : List (Bk × Value)} (h : BR B W kv bo bs pb) (b : Below W.heap.size W W') : BR B W' kv bo bs pb :=
  h.step (T := 27) (KT.below b) (by decide) (by decide)
/-- One more bank: the row has grown, its data lie in a block that is newer than all. -/
theorem BR.snoc {B : Nat} {W X Y : World} {kv bo bo' : Value} {cd : List UInt8} {bs : List Bk} {pb : List (Bk × Value)} (h : BR B W kv bo bs pb) (hk : Row W B kv cd) (kb : Below W.heap.size W X) (t : Bk) (u : Value) (hu : Row X B u t.2) (hn : ∀ g, u.ownBlock = some g → W.heap.size ≤ g) (hr : Y.ownsRow B 82 2 bo' (pb.length + 1) (bcs pb ++ [.int .i64 t.1, u])) (kt : KT 82 X Y) : BR B Y kv bo' (bs ++ [t]) (pb ++ [(t, u)]) := by
  refine ⟨by rw [List.map_append, h.map]; rfl, ?_, ?_, ?_⟩
  · rw [List.length_append, bcs_append]; exact hr
  · intro x hx
    rcases List.mem_append.1 hx with hx | hx
    · exact row_kt (row_kt (h.dat x hx) (T := 27) (by decide) (KT.below kb)) (by decide) kt
    · simp only [List.mem_singleton] at hx
      subst hx
      exact row_kt hu (by decide) kt
  · rw [List.map_append]
    refine apt_snoc (W := W) (B := W.heap.size) h.nd (fun x hx g e => ?_) hn
    rcases List.mem_cons.1 hx with rfl | hx
    · exact (hk.lt g e).2
    · obtain ⟨y, hy, rfl⟩ := List.mem_map.1 hx
      exact ((h.dat y hy).lt g e).2
theorem bks_snoc {b : List UInt8} {m j : Nat} (h : j + 2 < m) : bks (((secsR b m m).drop 2).take (j + 1)) = bks (((secsR b m m).drop 2).take j) ++ [(((secR b m (j + 2)).2.1.toNat : Int), (secR b m (j + 2)).2.2)] := by
  have hl : j < ((secsR b m m).drop 2).length := by rw [List.length_drop, secsR_len]; omega
  have he : ((secsR b m m).drop 2)[j] = secR b m (j + 2) := by
    rw [List.getElem_drop]
    unfold secsR
    rw [List.getElem_map, List.getElem_range, Nat.add_comm 2 j]
  rw [List.take_add_one, List.getElem?_eq_getElem hl, he]
  unfold bks
  rw [List.map_append]
  rfl
end Go.Proofs.YtmlpijjjkpnioaaDoor.C
