import Derived.Test.YtmcfbcebjfeemaaMath
namespace Go.Proofs.Ytmcfbcebjfeemaa

theorem fl_t {p : Prop} [Decidable p] (h : p) : fl (decide p) = 65535 := by rw [decide_eq_true h]; rfl
theorem fl_f {p : Prop} [Decidable p] (h : ¬ p) : fl (decide p) = 0 := by rw [decide_eq_false h]; rfl
theorem o42t {x y : Int} (h : x = y) : bi 42 x y = 65535 := by rw [← bi_42]; exact fl_t h
theorem o42f {x y : Int} (h : x ≠ y) : bi 42 x y = 0 := by rw [← bi_42]; exact fl_f h
theorem o43t {x y : Int} (h : x ≠ y) : bi 43 x y = 65535 := by rw [← bi_43, show (x != y) = true from bne_iff_ne.2 h]; rfl
theorem o43f {x y : Int} (h : x = y) : bi 43 x y = 0 := by rw [← bi_43, h, bne_self_eq_false]; rfl
theorem o44t {x y : Int} (h : sg x < sg y) : bi 44 x y = 65535 := by rw [← bi_44]; exact fl_t h
theorem o44f {x y : Int} (h : ¬ sg x < sg y) : bi 44 x y = 0 := by rw [← bi_44]; exact fl_f h
theorem o45t {x y : Int} (h : sg y < sg x) : bi 45 x y = 65535 := by rw [← bi_45]; exact fl_t h
theorem o45f {x y : Int} (h : ¬ sg y < sg x) : bi 45 x y = 0 := by rw [← bi_45]; exact fl_f h
theorem o46t {x y : Int} (h : x < y) : bi 46 x y = 65535 := by rw [← bi_46]; exact fl_t h
theorem o46f {x y : Int} (h : ¬ x < y) : bi 46 x y = 0 := by rw [← bi_46]; exact fl_f h
theorem o47t {x y : Int} (h : y < x) : bi 47 x y = 65535 := by rw [← bi_47]; exact fl_t h
theorem o47f {x y : Int} (h : ¬ y < x) : bi 47 x y = 0 := by rw [← bi_47]; exact fl_f h
theorem o30l {x y : Int} (hx : C x) (h : sg x ≤ sg y) : bi 30 x y = x := by rw [← bi_30l x y h, cl_sg hx]
theorem o30g {x y : Int} (hy : C y) (h : sg y < sg x) : bi 30 x y = y := by rw [← bi_30g x y h, cl_sg hy]
theorem o31l {x y : Int} (hy : C y) (h : sg x < sg y) : bi 31 x y = y := by rw [← bi_31l x y h, cl_sg hy]
theorem o31g {x y : Int} (hx : C x) (h : sg y ≤ sg x) : bi 31 x y = x := by rw [← bi_31g x y h, cl_sg hx]
theorem o39a : un 39 0 = 65535 := by decide +kernel
theorem o39b : un 39 65535 = 0 := by decide +kernel
theorem o48 (x : Int) : (un 48 x == bi 42 x 0) = true := by rw [← un_48, ← bi_42]; exact beq_self_eq_true _
theorem o49 (x : Int) : (un 49 x == bi 44 x 0) = true := by rw [← un_49, ← bi_44]; exact beq_self_eq_true _
theorem ounlike (x y : Int) (b : Bool) (h : (sg x < 0) ↔ ¬ (b = true ↔ sg y < 0)) : (un 49 x != un 49 y) = b := by
  rw [← un_49, ← un_49]
  by_cases h1 : sg x < 0 <;> by_cases h2 : sg y < 0 <;> cases b <;> simp [fl, h1, h2] at h ⊢
theorem sgs {x y : Int} (hx : C x) (hy : C y) (b : Bool) (h : (sg x < sg y ↔ x < y) ↔ b = false) : (sg x < 0) ↔ ¬ (b = true ↔ sg y < 0) := by
  unfold C at hx hy
  unfold sg at *
  cases b <;> simp at h ⊢ <;> split at h <;> split at h <;> omega
end Go.Proofs.Ytmcfbcebjfeemaa
