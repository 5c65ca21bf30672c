import Derived.Test.YteeanomkbclinaaYNodes
import Derived.Test.YteeanomkbclinaaYStore
/-! LayoutNames: the programs that it asks for. -/
namespace Go.Proofs.Yteeanomkbclinaa.Y
open Go.RowKit
open Go.Proofs
set_option linter.unusedVariables false
set_option linter.unusedSimpArgs false
def over : List Df := [⟨3, e0, 16384, [], (0, 0)⟩, ⟨3, e0, 1, [], (7, 3)⟩]
theorem over_1 : ps (rms over 1) = 0 := by kernel_rfl
theorem over_2 : ps (rms over 2) = 112 := by kernel_rfl
def dcon (i : Nat) : Df := ⟨2, e0, 0, [], ((i : Int), 0)⟩
def many (k : Nat) : List Df := (List.range k).map dcon
theorem many_len (k : Nat) : (many k).length = k := by simp [many]
theorem many_get (k i : Nat) (h : i < k) : (many k)[i]? = some (dcon i) := by simp [many, h]
theorem many_succ (k : Nat) : many (k + 1) = many k ++ [dcon k] := by simp [many, List.range_succ]
theorem many_take (n k : Nat) (h : k ≤ n) : (many n).take k = many k := by
  apply List.ext_getElem?
  intro i
  rw [List.getElem?_take]
  split
  · rename_i hi; rw [many_get _ _ (by omega), many_get _ _ hi]
  · rename_i hi; rw [List.getElem?_eq_none (by rw [many_len]; omega)]
theorem many_rms (n : Nat) : ∀ k, k ≤ n → k ≤ 1000 → rms (many n) k = ((k : Int), 128 + 4 * (k : Int), 0)
  | 0, _, _ => rfl
  | k + 1, h, h' => by
    rw [rms_succ _ _ _ (many_get n k (by omega)), many_rms n k (by omega) (by omega)]
    have e1 : db (dcon k) = 4 := rfl
    have e2 : dr (dcon k) = 0 := rfl
    unfold wt
    rw [e1, e2]
    simp only
    rw [w_in _ (by omega), w_in _ (by omega), w_in _ (by omega)]
    refine Prod.ext ?_ (Prod.ext ?_ ?_) <;> simp only <;> omega
theorem many_ps (n k : Nat) (h : k ≤ n) (h' : k ≤ 512) : ps (rms (many n) k) = 0 := by
  rw [many_rms n k h (by omega)]
  unfold ps
  simp only
  rw [if_neg (by omega), if_neg (by omega), if_neg (by omega)]
theorem many_513 : ps (rms (many 513) 513) = 110 := by
  rw [many_rms 513 513 (by omega) (by omega)]; rfl
def nDup : Nd := ⟨1, 12, 0, e0, [], [], false, (0, 0)⟩
def nZero : Nd := ⟨0, 0, 0, e0, [], [], false, (0, 0)⟩
theorem cl_dup : ∀ n : Nat, cl (List.replicate n nDup) = (n : Int)
  | 0 => rfl
  | n + 1 => by
    have e1 : ce nDup = 1 := by rw [ce_is]; rfl
    rw [List.replicate_succ, cl_cons, cl_dup n, e1]; omega
def dwrd (n : Nat) (p : Ps) : Df := ⟨1, e0, 0, List.replicate n nDup, p⟩
theorem wrd_rms (n : Nat) (p : Ps) (h : n ≤ 10000) : rms [dwrd n p] 1 = (1, 132 + 2 * (n : Int), 0) := by
  rw [rms_succ _ 0 (dwrd n p) rfl]
  show wt (0, 128, 0) _ = _
  have e1 : db (dwrd n p) = 4 + 2 * cl (List.replicate n nDup) := rfl
  have e2 : dr (dwrd n p) = 0 := rfl
  unfold wt
  rw [e1, e2, cl_dup]
  simp only
  rw [w_in _ (by omega), w_in _ (by omega), w_in _ (by omega)]
  refine Prod.ext ?_ (Prod.ext ?_ ?_) <;> simp only <;> omega
theorem wrd_ok (p : Ps) : ps (rms [dwrd 8126 p] 1) = 0 := by rw [wrd_rms _ _ (by omega)]; rfl
theorem wrd_no (p : Ps) : ps (rms [dwrd 8127 p] 1) = 111 := by rw [wrd_rms _ _ (by omega)]; rfl
/-! ### Rows of them -/
def dz (d : Df) : List Value := dfc d (.slice none 0 0)
def nz (n : Nd) : List Value := ndc n (.slice none 0 0) (.slice none 0 0)
theorem hDz (d : Df) : (dz d).length = 6 := rfl
theorem hNz (n : Nd) : (nz n).length = 9 := rfl
theorem own_dv {W : World} {B : Nat} {v : Value} {ds : List Df} (h : W.ownsRow B 36 6 v ds.length (S.en dz ds)) (hb : ∀ d ∈ ds, d.body = []) (hl : ds.length ≤ 140737488355328) : DV W (· < W.heap.size) v ds := by
  rcases h.2 with ⟨rfl, e⟩ | ⟨g, cap, cur, rfl, h2, h3, _⟩
  · exact ⟨none, 0, by rw [e], hl, fun i d hi => by rw [List.eq_nil_of_length_eq_zero e] at hi; simp at hi⟩
  · refine ⟨_, cap, rfl, hl, fun i d hi => ⟨g, 0, rfl, S.lt_of h3, .slice none 0 0, fun j x hx => ?_, by rw [hb d (List.mem_of_getElem? hi)]; exact nv_nil _ _⟩⟩
    have hj : j < 6 := by rw [← hDz d]; exact (List.getElem?_eq_some_iff.1 hx).1
    have := World.ownsRow.cells h (g := g) rfl (i * 6 + j) x (by rw [S.en_get hDz ds i j d hi hj]; exact hx)
    rw [Addr.add_lit] at this
    rw [Nat.add_assoc]; exact this
theorem nc_plain (W : World) (O : Nat → Prop) : ∀ l : List Nd, (∀ n ∈ l, n.th = [] ∧ n.el = []) → NC W O l (S.en nz l)
  | [], _ => rfl
  | n :: r, h => ⟨.slice none 0 0, .slice none 0 0, _, S.en_cons _ _ _, by rw [(h n (by simp)).1]; exact nv_nil _ _, by rw [(h n (by simp)).2]; exact nv_nil _ _, nc_plain W O r fun m hm => h m (by simp [hm])⟩
/-- The row of nodes while it is filled. -/
def fill (k : Nat) : List Nd := List.replicate k nDup ++ List.replicate (8126 - k) nZero
theorem fill_len (k : Nat) (h : k ≤ 8126) : (fill k).length = 8126 := by simp [fill]; omega
theorem fill_set (k : Nat) (h : k < 8126) : (fill k).set k nDup = fill (k + 1) := by
  unfold fill
  rw [List.set_append_right _ _ (by simp), List.length_replicate, Nat.sub_self, show 8126 - k = (8126 - (k + 1)) + 1 by omega, List.replicate_succ, List.set_cons_zero, List.replicate_succ', List.append_assoc]
  rfl
theorem fill_all : fill 8126 = List.replicate 8126 nDup := by unfold fill; rw [Nat.sub_self, List.replicate_zero, List.append_nil]
def zN : Value := .agg #[.int .i64 0, .int .i64 0, .int .u16 0, .string ⟨#[]⟩, .slice none 0 0, .slice none 0 0, .bool false, .int .i64 0, .int .i64 0]
theorem made_fill (n : Nat) : (madeCells zN.cells (n * 9)).toList = S.en nz (List.replicate n nZero) := by
  apply List.ext_getElem?
  intro j
  by_cases hj : j < n * 9
  · have h1 : j / 9 < n := by omega
    have e1 := S.en_get hNz (List.replicate n nZero) (j / 9) (j % 9) nZero (by simp [h1]) (Nat.mod_lt _ (by decide))
    rw [show j / 9 * 9 + j % 9 = j by omega] at e1
    rw [e1]
    have h9 : j % 9 < 9 := Nat.mod_lt _ (by decide)
    have e2 : (madeCells zN.cells (n * 9)).toList[j]? = some (zN.cells[j % 9]!) := by
      have e3 : zN.cells.size = 9 := rfl
      simp only [madeCells, e3, Array.toList_map, List.getElem?_map, Array.getElem?_toList, Array.getElem?_range, hj, if_true, Option.map_some]
    rw [e2]
    generalize j % 9 = r at h9 ⊢
    match r, h9 with
    | 0, _ => rfl
    | 1, _ => rfl
    | 2, _ => rfl
    | 3, _ => rfl
    | 4, _ => rfl
    | 5, _ => rfl
    | 6, _ => rfl
    | 7, _ => rfl
    | 8, _ => rfl
    | r + 9, h => omega
  · rw [List.getElem?_eq_none (by simp [madeCells]; omega), List.getElem?_eq_none (by rw [S.en_len hNz, List.length_replicate]; omega)]
theorem own_made (W : World) (n : Nat) (h : n ≤ maxLen) : (W.alloc (.cells (madeCells zN.cells (n * 9)) 38)).ownsRow W.heap.size 38 9 (.slice (some ⟨W.heap.size, 0, none⟩) n n) n (S.en nz (List.replicate n nZero)) :=
  ⟨by rw [S.en_len hNz, List.length_replicate], .inr ⟨W.heap.size, n, _, rfl, Nat.le_refl _, heap_alloc_new W _, Nat.le_refl _, h, size_madeCells _ _, by rw [made_fill, List.take_of_length_le (by rw [S.en_len hNz, List.length_replicate]; omega)]⟩⟩
end Go.Proofs.Yteeanomkbclinaa.Y
