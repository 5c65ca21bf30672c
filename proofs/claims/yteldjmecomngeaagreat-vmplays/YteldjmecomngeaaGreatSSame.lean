import Derived.Test.YteldjmecomngeaaGreatSDataC
import Derived.Laws.StructEq
namespace Go.Proofs.YteldjmecomngeaaGreat.S
open Go.RowKit
open Go.Proofs
set_option linter.unusedVariables false
set_option linter.unusedSimpArgs false
def okK (t : Int × Int) : Bool := decide (1 <= t.1) && decide (t.1 <= 4)
def okR (r : List (Int × Int)) : Bool := r.all okK
def mayS (d : List Int) (r : List (Int × Int)) : Bool := okR r && (decide (d.length <= 256) && decide (r.length <= 128))
set_option maxHeartbeats 1000000
set_option maxRecDepth 100000
theorem okR_no (r : List (Int × Int)) (k : Nat) (a : Int × Int) (h : r[k]? = some a) (hk : okK a = false) : okR r = false := by
 rw [okR, Bool.eq_false_iff]
 intro c
 rw [List.all_eq_true] at c
 have := c a (List.mem_of_getElem? h)
 rw [hk] at this; cases this
theorem okK_t {t : Int × Int} (h1 : 1 <= t.1) (h2 : t.1 <= 4) : okK t = true := by rw [okK, decide_eq_true h1, decide_eq_true h2]; rfl
theorem okK_f {t : Int × Int} (h : t.1 < 1 \/ 4 < t.1) : okK t = false := by
 rcases h with h | h
 ·rw [okK, decide_eq_false (by omega)]; rfl
 ·rw [okK, decide_eq_false (p := t.1 <= 4) (by omega), Bool.and_false]
theorem okR_yes (r : List (Int × Int)) (h : ∀ (j : Nat) a, r[j]? = some a -> okK a = true) : okR r = true := by
 rw [okR, List.all_eq_true]
 intro a ha
 obtain ⟨j, hj⟩ := List.mem_iff_getElem?.1 ha
 exact h j a hj
theorem hid {p : Prop} (h : p) : Hid p := h
def z60 : List Value := pc eU 0 []
def z50 : List Value := pc eK (0, 0) []
theorem zinfo60 : (Tryz.prog.info? 117).map (fun i => i.zero) = some (some (.agg z60.toArray)) := by kernel_rfl
theorem zinfo50 : (Tryz.prog.info? 123).map (fun i => i.zero) = some (some (.agg z50.toArray)) := by kernel_rfl
theorem zeroValue60 (w : World) : (zeroValue 117).run Tryz.prog w = .ok (.agg z60.toArray) w := by
 have h := zinfo60
 cases hq : Tryz.prog.info? 117 with
 | none => rw [hq] at h; cases h
 | some i =>
  rw [hq] at h; have hz : i.zero = some (.agg z60.toArray) := Option.some.inj h
  simp [zeroValue, typeInfo, hq, hz]
theorem zeroValue50 (w : World) : (zeroValue 123).run Tryz.prog w = .ok (.agg z50.toArray) w := by
 have h := zinfo50
 cases hq : Tryz.prog.info? 123 with
 | none => rw [hq] at h; cases h
 | some i =>
  rw [hq] at h; have hz : i.zero = some (.agg z50.toArray) := Option.some.inj h
  simp [zeroValue, typeInfo, hq, hz]
theorem zc60 (w : World) : Tryz.zeroCells117 = z60.toArray := by
 have h := (Tryz.zeroValue117 w).symm.trans (zeroValue60 w)
 injection h with h1
 injection h1
theorem build60 (W : World) : (Instr.build 117 #[]).run Tryz.prog W = .ok (.agg z60.toArray) W := by
 simp [Instr.build, zc60 W, Value.cells, run_underlying Tryz.underlying117, Tryz.sizeOf115, Instr.fill]
theorem zc50 (w : World) : Tryz.zeroCells123 = z50.toArray := by
 have h := (Tryz.zeroValue123 w).symm.trans (zeroValue50 w)
 injection h with h1
 injection h1
theorem build50 (W : World) : (Instr.build 123 #[]).run Tryz.prog W = .ok (.agg z50.toArray) W := by
 simp [Instr.build, zc50 W, Value.cells, run_underlying Tryz.underlying123, Tryz.sizeOf121, Instr.fill]
theorem wpList_build60 {ops : Array Oper} {rest : List Oper} {o : Oper} {a : Act} {w : World} {Q : Exit -> Act -> World -> Prop} (hg : o.guard = none) (ho : o.op = .build 117 #[])
  (h : wpList Tryz.prog ops Q rest (a.put o.dst (.agg z60.toArray)) w) : wpList Tryz.prog ops Q (o :: rest) a w :=
 wpList_plain hg fun _ hK => by
  unfold Oper.wp execOp; have e := build60 w; simp only [ho, List.map_toArray, List.map_nil, Sem.run_bind, e, Result.andThen_ok]; exact hK _ _ h
theorem wpList_build50 {ops : Array Oper} {rest : List Oper} {o : Oper} {a : Act} {w : World} {Q : Exit -> Act -> World -> Prop} (hg : o.guard = none) (ho : o.op = .build 123 #[])
  (h : wpList Tryz.prog ops Q rest (a.put o.dst (.agg z50.toArray)) w) : wpList Tryz.prog ops Q (o :: rest) a w :=
 wpList_plain hg fun _ hK => by
  unfold Oper.wp execOp; have e := build50 w; simp only [ho, List.map_toArray, List.map_nil, Sem.run_bind, e, Result.andThen_ok]; exact hK _ _ h
theorem hasD0 (W : World) : HasD (W.alloc (.cells z60.toArray 117)) W.heap.size [] := ⟨heap_alloc_new W _, by simp⟩
theorem hasR0 (W : World) : HasR (W.alloc (.cells z50.toArray 123)) W.heap.size [] := ⟨heap_alloc_new W _, by simp⟩
theorem At.below {b B : Nat} {W W' : World} (h : At b W W') (hB : B <= b) (hs : B <= W.heap.size) : Below B W W' := Tc.below h hs fun i e => by subst e; exact hB
set_option maxHeartbeats 2000000
set_option maxRecDepth 100000
theorem stacks_any (pd pr : Option Addr) (cd cr : Nat) (d : List Int) (r : List (Int × Int)) (hd : d.length <= room) (hr : r.length <= room) (w : World) (h1 : Sl eU 1 w pd d) (h2 : Sl eK 2 w pr r) :
  Calls Tryz.prog 51 #[.slice pd d.length cd, .slice pr r.length cr] w fun e w' => Below w.heap.size w w' /\ ((mayS d r = true /\ ∃ b1 b2, e = .returned (.tuple #[.pointer (some ⟨b1, 0, none⟩), .pointer (some ⟨b2, 0, none⟩), .int .i64 0]) /\ HasD w' b1 d /\ HasR w' b2 r /\ w.heap.size <= b1 /\ w.heap.size <= b2 /\ b1 ≠ b2) \/
   (mayS d r = false /\ e = .returned (.tuple #[.pointer none, .pointer none, .int .i64 2]))) := by
 have hr' := hr
 unfold room at hr'
 go_enter Tryz.func51, Tryz.ntmps51
 go_wp2
 go_loopw [13] (fun i wr => ∃ k : Nat, k <= r.length /\ i = .int .i64 (k : Int) /\ (∀ j a, j < k -> r[j]? = some a -> okK a = true) /\ Below w.heap.size w wr) (fun i _ => r.length - (intOf i).toNat)
 case atStart => exact ⟨0, by omega, rfl, fun j a hj => by omega, Below.refl _ _⟩
 case round =>
  obtain ⟨k, hk, rfl, hG, hB⟩ := hrel
  by_cases hlt : k < r.length
  ·have i1 : (k : Int) < r.length := by omega
   have ha := List.getElem?_eq_getElem hlt; obtain ⟨b, o, rfl, e1, e2⟩ := (h2.below hB).k k r[k] ha; have hno : okK r[k] = false -> mayS d r = false := fun c => by rw [mayS, okR_no r k _ ha c]; rfl
   have hG2 : okK r[k] = true -> ∀ j a, j < k + 1 -> r[j]? = some a -> okK a = true := by
    intro c j a hj he
    by_cases e : j = k
    ·subst e; rw [ha] at he; cases he; exact c
    ·exact hG j a (by omega) he
   have hB2 : Below w.heap.size w (wr.alloc (Obj.cells #[.int .i64 (r[k]).1, .int .u16 (r[k]).2] 101)) := hB.alloc hB.size _; clear hG h1 h2 ha; have HG := hid hG2; have HN := hid hno; have HB := hid hB2; clear hG2 hno hB2 hB; generalize r[k] = t at *
   by_cases c1 : t.1 < 1
   ·have d1 : decide (t.1 < 1) = true := decide_eq_true c1
    have f1 := HN.out (okK_f (.inl c1)); have HF := hid f1; clear f1; go_wp2; refine bodyPost_ret (v := .tuple #[.pointer none, .pointer none, .int .i64 2]) (by simp [results, Tryz.results51, go_sem]) rfl ?_; exact ⟨HB.out, .inr ⟨HF.out, rfl⟩⟩
   have d1 : decide (t.1 < 1) = false := decide_eq_false c1
   by_cases c2 : 4 < t.1
   ·have d2 : decide (4 < t.1) = true := decide_eq_true c2
    have f1 := HN.out (okK_f (.inr c2)); have HF := hid f1; clear f1; go_wp2; refine bodyPost_ret (v := .tuple #[.pointer none, .pointer none, .int .i64 2]) (by simp [results, Tryz.results51, go_sem]) rfl ?_; exact ⟨HB.out, .inr ⟨HF.out, rfl⟩⟩
   have d2 : decide (4 < t.1) = false := decide_eq_false c2; go_wp2; go_roundw
   case rel =>
    have hz := HG.out (okK_t (by omega) (by omega)); exact ⟨k + 1, by omega, by go_num, hz, HB.out⟩
   case measure => simp [intOf]; omega
  ·obtain rfl : k = r.length := by omega
   have hM : mayS d r = (decide (d.length <= 256) && decide (r.length <= 128)) := by
    rw [mayS, okR_yes r (fun j a he => hG j a (List.getElem?_eq_some_iff.1 he).1 he), Bool.true_and]
   have HM := hid hM; clear hM hG; obtain ⟨wA, hwA⟩ : ∃ wA, wr.alloc (.cells z60.toArray 117) = wA := ⟨_, rfl⟩
   have a1 := hasD0 wr; rw [hwA] at a1; have sA : wA.heap.size = wr.heap.size + 1 := by rw [<- hwA]; simp
   have bA : Below wr.heap.size wr wA := by rw [<- hwA]; exact (Below.refl _ _).alloc (Nat.le_refl _) _
   obtain ⟨wB, hwB⟩ : ∃ wB, wA.alloc (.cells z50.toArray 123) = wB := ⟨_, rfl⟩
   have a2 := hasR0 wA; rw [hwB] at a2; have bB : Below wA.heap.size wA wB := by rw [<- hwB]; exact (Below.refl _ _).alloc (Nat.le_refl _) _
   have a3 := a1.below bB; have hBB : Below w.heap.size w wB := hB.trans ((bA.trans (bB.mono bA.size)).mono hB.size); have hws := hB.size; have f1 := h1.below hBB; have f2 := h2.below hBB; rw [sA] at a2; have HA3 := hid a3; have HA2 := hid a2; have HF1 := hid f1; have HF2 := hid h2; have HBB := hid hBB; have hsB : wr.heap.size < wB.heap.size := lt_of a3.1; have HS : Hid (wA.heap.size = wr.heap.size + 1) := sA; clear a1 a2 a3 bA bB hB f1 f2 h1 h2 hBB; have hlen : ¬ ((r.length : Int) < r.length) := by omega
   go_wp2_with (first | (refine wpList_build60 rfl rfl ?_) | (refine wpList_build50 rfl rfl ?_))
   by_cases c1 : d.length <= 256
   ·refine (dpush_yes wr.heap.size [] d pd cd wB HA3.out HF1.out (by simpa using c1)).mono ?_
    rintro e w1 ⟨rfl, g1, t1⟩; have hB1 : Below w.heap.size w w1 := HBB.out.trans (t1.below (by omega) HBB.out.size); have g2 : HasR w1 (wr.heap.size + 1) [] := HA2.out.kept (t1.block _ (lt_of HA2.out.1) (by omega)); have g3 := HF2.out.below hB1; have G1 := hid g1; have G2 := hid g2; have G3 := hid g3; have T1 := hid t1; have HB1 := hid hB1; clear g1 g2 g3 t1 hB1; go_wp2_with fail
    by_cases c2 : r.length <= 128
    ·refine (rpush_yes (wr.heap.size + 1) [] r pr cr w1 G2.out G3.out (by simpa using c2)).mono ?_
     rintro e w2 ⟨rfl, g4, t2⟩; have hB2 : Below w.heap.size w w2 := HB1.out.trans (t2.below (by omega) HB1.out.size); have g5 := G1.out.kept (t2.block _ (lt_of G1.out.1) (by omega)); have G4 := hid g4; have G5 := hid g5; have HB2 := hid hB2; clear g4 g5 t2 hB2; go_wp2; refine bodyPost_ret (v := .tuple #[.pointer (some ⟨wr.heap.size, 0, none⟩), .pointer (some ⟨wr.heap.size + 1, 0, none⟩), .int .i64 0]) (by simp [results, Tryz.results51, go_sem]) rfl ?_; exact ⟨HB2.out, .inl ⟨by rw [HM.out, decide_eq_true c1, decide_eq_true c2]; rfl, _, _, rfl, by simpa using G5.out, by simpa using G4.out, hws, by omega, by omega⟩⟩
    ·refine (rpush_no (wr.heap.size + 1) [] r pr cr w1 G2.out (by simp; omega) hr).mono ?_
     rintro e w2 ⟨rfl, hw2⟩; obtain rfl := hw2.symm; go_wp2; refine bodyPost_ret (v := .tuple #[.pointer none, .pointer none, .int .i64 2]) (by simp [results, Tryz.results51, go_sem]) rfl ?_; exact ⟨HB1.out, .inr ⟨by rw [HM.out, decide_eq_false c2, Bool.and_false], rfl⟩⟩
   ·refine (dpush_no wr.heap.size [] d pd cd wB HA3.out (by simp; omega) hd).mono ?_
    rintro e w1 ⟨rfl, hw1⟩; obtain rfl := hw1.symm; go_wp2; refine bodyPost_ret (v := .tuple #[.pointer none, .pointer none, .int .i64 2]) (by simp [results, Tryz.results51, go_sem]) rfl ?_; exact ⟨HBB.out, .inr ⟨by rw [HM.out, decide_eq_false c1]; rfl, rfl⟩⟩
end Go.Proofs.YteldjmecomngeaaGreat.S
