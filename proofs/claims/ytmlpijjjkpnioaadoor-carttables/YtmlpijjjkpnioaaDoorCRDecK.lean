import Derived.Test.YtmlpijjjkpnioaaDoorCRDecM
import Derived.Test.YtmlpijjjkpnioaaDoorCDec
import Derived.Test.YtmlpijjjkpnioaaDoorCRCheck
import Derived.Test.YtmlpijjjkpnioaaDoorCOwe
import Derived.Test.YtmlpijjjkpnioaaDoorCREnc
/-! The reference's Decode: while the cartridge is put together. -/
namespace Go.Proofs.YtmlpijjjkpnioaaDoor.C
open Go.RowKit
open Go.Proofs
open Go.Proofs.YtmlpijjjkpnioaaDoor.K
set_option linter.unusedVariables false
set_option linter.unusedSimpArgs false
theorem row_kt {T : TypeId} {W W' : World} {B : Nat} {v : Value} {l : List UInt8} (h : Row W B v l) (h5 : 5 ≠ T) (k : KT T W W') : Row W' B v l := own_kt h h5 k
theorem Sy.kt {T : TypeId} {y W W' : World} {v : Value} {prs : List (Sec × Value)} (h : Sy y W v prs) (k : KT T W W') (h8 : 88 ≠ T) (h5 : 5 ≠ T) (b : Below y.heap.size W W') : Sy y W' v prs :=
  ⟨own_kt h.row h8 k, fun x hx => ⟨(h.dat x hx).1.imp_right fun r => row_kt r h5 k, (h.dat x hx).2⟩, h.bel.trans b⟩
/-- While the cartridge is put together: w the caller's, y where the sections begin. -/
structure DX (w y W : World) (v : Value) (prs : List (Sec × Value)) (cd : List UInt8) (kv : Value) (en : Nat) (eo bo : Value) (g : Nat) : Prop where
  wy : w.heap.size < y.heap.size
  bel : Below w.heap.size w W
  z : W.heap[w.heap.size]? = some (.cells #[.slice none 0 0, .int .u16 0, .slice none 0 0, .slice none 0 0] 27 (0, 0))
  sy : Sy y W v prs
  cg : W.heap[g]? = some (.cells [kv, .int .u16 (en : Int), eo, bo].toArray 27 (0, 0))
  ge : y.heap.size ≤ g
  code : Row W y.heap.size kv cd
theorem DX.step {T : TypeId} {w y W W' : World} {v : Value} {prs : List (Sec × Value)} {cd : List UInt8} {kv eo bo : Value} {en g : Nat} (h : DX w y W v prs cd kv en eo bo g) (k : KT T W W') (h1 : 27 ≠ T) (h5 : 5 ≠ T) (h8 : 88 ≠ T) (b : Below y.heap.size W W') : DX w y W' v prs cd kv en eo bo g :=
  ⟨h.wy, h.bel.trans (b.mono (Nat.le_of_lt h.wy)), k _ _ _ _ h1 h.z, h.sy.kt k h8 h5 b, k _ _ _ _ h1 h.cg, h.ge, row_kt h.code h5 k⟩
theorem DX.next {w y W W' : World} {v : Value} {prs : List (Sec × Value)} {cd : List UInt8} {kv eo bo : Value} {en g : Nat} (h : DX w y W v prs cd kv en eo bo g) (b : Below W.heap.size W W') : DX w y W' v prs cd kv en eo bo g :=
  h.step (T := 80) (KT.below b) (by decide) (by decide) (by decide) (b.mono h.sy.bel.size)
theorem DX.set {w y W : World} {v : Value} {prs : List (Sec × Value)} {cd : List UInt8} {kv eo bo eo' bo' : Value} {en g : Nat} (h : DX w y W v prs cd kv en eo bo g) (i : Nat) (u : Value) (e : [kv, .int .u16 (en : Int), eo, bo].set i u = [kv, .int .u16 (en : Int), eo', bo']) : DX w y (W.setCell ⟨g, i, none⟩ u) v prs cd kv en eo' bo' g := by
  have hg := setCell_heap W g i _ 27 u h.cg
  rw [e] at hg
  have hge := h.ge
  have hwy := h.wy
  have b : Below y.heap.size W (W.setCell ⟨g, i, none⟩ u) := ⟨rfl, rfl, rfl, by simp [World.setCell], fun j hj => setCell_other _ _ _ _ _ (by omega)⟩
  exact ⟨hwy, h.bel.trans (b.mono (Nat.le_of_lt hwy)), (setCell_other _ _ _ _ _ (by omega)).trans h.z, h.sy.kt (KT.set h.cg) (by decide) (by decide) b, hg, hge, row_kt h.code (by decide) (KT.set h.cg)⟩
theorem DX.make {w y X : World} {v : Value} {prs : List (Sec × Value)} {cd : List UInt8} {kv : Value} {en g : Nat} (hwy : w.heap.size < y.heap.size) (hb : Below w.heap.size w X) (hz : X.heap[w.heap.size]? = some (.cells #[.slice none 0 0, .int .u16 0, .slice none 0 0, .slice none 0 0] 27 (0, 0))) (hs : Sy y X v prs) (hg : X.heap[g]? = some (.cells zCt.toArray 27 (0, 0))) (hge : y.heap.size ≤ g) (hc : Row X y.heap.size kv cd) :
    DX w y (X.setRow g [kv, .int .u16 (en : Int), .slice none 0 0, .slice none 0 0].toArray) v prs cd kv en (.slice none 0 0) (.slice none 0 0) g := by
  have b : Below y.heap.size X (X.setRow g [kv, .int .u16 (en : Int), .slice none 0 0, .slice none 0 0].toArray) := ⟨rfl, rfl, rfl, by rw [size_setRow]; exact Nat.le_refl _, fun j hj => setRow_other _ g j _ (by omega)⟩
  exact ⟨hwy, hb.trans (b.mono (Nat.le_of_lt hwy)), (setRow_other _ g _ _ (by omega)).trans hz, hs.kt (KT.row hg) (by decide) (by decide) b, setRow_heap _ g _ _ _ _ hg, hge, row_kt hc (by decide) (KT.row hg)⟩
theorem Sy.cell {y W : World} {gv n c : Nat} {prs : List (Sec × Value)} (h : Sy y W (.slice (some ⟨gv, 0, none⟩) n c) prs) (i : Nat) (x : Sec × Value) (hx : prs[i]? = some x) : W.cell? ⟨gv, i * 3 + 1, none⟩ = some (.int .u8 (x.1.2.1.toNat : Int)) ∧ W.cell? ⟨gv, i * 3 + 2, none⟩ = some x.2 ∧ Sl W x.2 x.1.2.2 ∧ x.1.2.2.length ≤ room := by
  obtain ⟨k1, k2, k3⟩ := scs_get prs i x hx
  have c2 := World.ownsRow.cells h.row (g := gv) rfl _ _ k2
  have c3 := World.ownsRow.cells h.row (g := gv) rfl _ _ k3
  rw [Addr.add_lit, Nat.zero_add] at c2 c3
  exact ⟨c2, c3, h.sl x (List.mem_of_getElem? hx), (h.dat x (List.mem_of_getElem? hx)).2⟩
theorem sec_at {b : List UInt8} {m i : Nat} {prs : List (Sec × Value)} (h : prs.map Prod.fst = secsR b m m) (hi : i < m) : ∃ x, prs[i]? = some x ∧ x.1 = secR b m i := by
  have hl : prs.length = m := by have := congrArg List.length h; rw [List.length_map, secsR_len] at this; exact this
  refine ⟨prs[i], List.getElem?_eq_getElem (by omega), ?_⟩
  have : (prs.map Prod.fst)[i]? = (secsR b m m)[i]? := by rw [h]
  rw [List.getElem?_map, List.getElem?_eq_getElem (by omega)] at this
  unfold secsR at this
  rw [List.getElem?_map, List.getElem?_range hi] at this
  exact Option.some.inj this
theorem s0_at {b : List UInt8} {m : Nat} (h : 2 ≤ m) : s0 (secsR b m m) = (secR b m 0).2.2 ∧ s1 (secsR b m m) = (secR b m 1).2.2 := by
  unfold s0 s1 secsR
  rw [List.getD_eq_getElem?_getD, List.getD_eq_getElem?_getD, List.getElem?_map, List.getElem?_map, List.getElem?_range (by omega), List.getElem?_range (by omega)]
  exact ⟨rfl, rfl⟩
theorem effD_snoc (k : Nat) (f : List UInt8) : effD (k + 1) f = effD k f ++ [e3 (f.drop (6 * k))] := by
  apply List.ext_getElem?
  intro i
  by_cases h : i < k
  · rw [List.getElem?_append_left (by rw [effD_len]; exact h), effD_get _ _ _ h, effD_get _ _ _ (by omega)]
  · by_cases h2 : i = k
    · subst h2
      rw [List.getElem?_append_right (by rw [effD_len]; exact Nat.le_refl _), effD_len, effD_get _ _ _ (by omega), Nat.sub_self]; rfl
    · rw [List.getElem?_eq_none (by rw [effD_len]; omega), List.getElem?_eq_none (by simp [effD_len]; omega)]
theorem apt_snoc {W : World} {B : Nat} {kv u : Value} {l : List Value} (h : (kv :: l).Pairwise Apt) (hk : ∀ x ∈ kv :: l, ∀ g, x.ownBlock = some g → g < B) (hu : ∀ g, u.ownBlock = some g → B ≤ g) : (kv :: (l ++ [u])).Pairwise Apt := by
  rw [← List.cons_append, List.pairwise_append]
  refine ⟨h, by simp, fun a ha b hb => ?_⟩
  simp only [List.mem_singleton] at hb
  subst hb
  intro g e1 e2
  have := hk a ha g e1
  have := hu g e2
  omega
/-- The cartridge that comes out. -/
theorem DX.owc {w y W : World} {v : Value} {prs : List (Sec × Value)} {kv eo bo : Value} {en g : Nat} {l : List Sec} {pb : List (Bk × Value)} (h : DX w y W v prs (s0 l) kv en eo bo g) (he : W.ownsRow y.heap.size 80 3 eo ((s1 l).length / 6) (t3 ((effD ((s1 l).length / 6) (s1 l)).map encE)))
    (hb : W.ownsRow y.heap.size 82 2 bo pb.length (bcs pb)) (hm : pb.map Prod.fst = bks (l.drop 2)) (hd : ∀ x ∈ pb, Row W y.heap.size x.2 x.1.2) (hn : (kv :: pb.map Prod.snd).Pairwise Apt) : OwC W y.heap.size (.agg #[kv, .int .u16 (en : Int), eo, bo]) (cartOf en l) kv eo bo pb :=
  ⟨rfl, h.code, by show W.ownsRow _ _ _ _ (effD _ _).length _; rw [effD_len]; exact he, hb, hm, hd, hn⟩
end Go.Proofs.YtmlpijjjkpnioaaDoor.C
