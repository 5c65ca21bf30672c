import Derived.Test.YtgponcjjnjpfkaaGreatSRetB
import Derived.Laws.StructEq
/-! SameCells, SameReturn, May. -/
namespace Go.Proofs.YtgponcjjnjpfkaaGreat.S
open Go.RowKit
open Go.Proofs
set_option linter.unusedVariables false
set_option linter.unusedSimpArgs false
def okK (t : Int × Int) : Bool := decide (1 ≤ t.1) && decide (t.1 ≤ 4)
def okR (r : List (Int × Int)) : Bool := r.all okK
def mayS (d : List Int) (r : List (Int × Int)) : Bool := okR r && (decide (d.length ≤ 256) && decide (r.length ≤ 128))
set_option maxHeartbeats 1000000
set_option maxRecDepth 100000
theorem sameU (p p' : Option Addr) (c c' : Nat) (l : List Int) (hl : l.length ≤ room) (w : World) (h : Sl eU 1 w p l) (h' : Sl eU 1 w p' l) :
    Calls Tryz.prog 41 #[.slice p l.length c, .slice p' l.length c'] w fun e w' => e = .returned (.bool true) ∧ ∃ q, w' = w.drewN q := by
  unfold room at hl
  go_enter Tryz.func41, Tryz.ntmps41
  go_wp2
  go_loopw [5] (fun i wr => ∃ k q : Nat, k ≤ l.length ∧ i = .int .i64 (k : Int) ∧ wr = w.drewN q) (fun i _ => l.length - (intOf i).toNat)
  case atStart => exact ⟨0, 0, by omega, rfl, rfl⟩
  case round =>
    obtain ⟨k, q, hk, rfl, rfl⟩ := hrel
    by_cases hlt : k < l.length
    · have i1 : (k : Int) < l.length := by omega
      obtain ⟨b, o, rfl, e1⟩ := h.u k l[k] (List.getElem?_eq_getElem hlt)
      obtain ⟨b', o', rfl, f1⟩ := h'.u k l[k] (List.getElem?_eq_getElem hlt)
      generalize l[k] = t at *
      have g1 : ∀ q, (w.drewN q).cell? ⟨b, o + k, none⟩ = some (.int .u16 t) := fun q => e1
      have g4 : ∀ q, (w.drewN q).cell? ⟨b', o' + k, none⟩ = some (.int .u16 t) := fun q => f1
      clear h h'
      go_wp2_with fail
      go_quiet (fail)
      go_wp2
      go_roundw
      case rel =>
        first
          | exact ⟨k + 1, _, by omega, by go_num, rfl⟩
          | ((repeat apply Exists.intro); refine ⟨⟨k + 1, _, by omega, ?_, rfl⟩, rfl⟩; go_num)
      case measure => simp [intOf]; omega
    · obtain rfl : k = l.length := by omega
      go_wp2
      go_ret
      exact ⟨rfl, _, rfl⟩
theorem sameK (p p' : Option Addr) (c c' : Nat) (l : List (Int × Int)) (hl : l.length ≤ room) (w : World) (h : Sl eK 2 w p l) (h' : Sl eK 2 w p' l) :
    Calls Tryz.prog 16 #[.slice p l.length c, .slice p' l.length c'] w fun e w' => e = .returned (.bool true) ∧ ∃ q, w' = w.drewN q := by
  unfold room at hl
  go_enter Tryz.func16, Tryz.ntmps16
  go_wp2
  go_loopw [5] (fun i wr => ∃ k q : Nat, k ≤ l.length ∧ i = .int .i64 (k : Int) ∧ wr = w.drewN q) (fun i _ => l.length - (intOf i).toNat)
  case atStart => exact ⟨0, 0, by omega, rfl, rfl⟩
  case round =>
    obtain ⟨k, q, hk, rfl, rfl⟩ := hrel
    by_cases hlt : k < l.length
    · have i1 : (k : Int) < l.length := by omega
      obtain ⟨b, o, rfl, e1, e2⟩ := h.k k l[k] (List.getElem?_eq_getElem hlt)
      obtain ⟨b', o', rfl, f1, f2⟩ := h'.k k l[k] (List.getElem?_eq_getElem hlt)
      generalize l[k] = t at *
      have g1 : ∀ q, (w.drewN q).cell? ⟨b, o + k * 2, none⟩ = some (.int .i64 t.1) := fun q => e1
      have g2 : ∀ q, (w.drewN q).cell? ⟨b, o + k * 2 + 1, none⟩ = some (.int .u16 t.2) := fun q => e2
      have g4 : ∀ q, (w.drewN q).cell? ⟨b', o' + k * 2, none⟩ = some (.int .i64 t.1) := fun q => f1
      have g5 : ∀ q, (w.drewN q).cell? ⟨b', o' + k * 2 + 1, none⟩ = some (.int .u16 t.2) := fun q => f2
      clear h h'
      go_wp2_with fail
      go_quiet (fail)
      go_wp2
      go_roundw
      case rel =>
        first
          | exact ⟨k + 1, _, by omega, by go_num, rfl⟩
          | ((repeat apply Exists.intro); refine ⟨⟨k + 1, _, by omega, ?_, rfl⟩, rfl⟩; go_num)
      case measure => simp [intOf]; omega
    · obtain rfl : k = l.length := by omega
      go_wp2
      go_ret
      exact ⟨rfl, _, rfl⟩
theorem okR_no (r : List (Int × Int)) (k : Nat) (a : Int × Int) (h : r[k]? = some a) (hk : okK a = false) : okR r = false := by
  rw [okR, Bool.eq_false_iff]
  intro c
  rw [List.all_eq_true] at c
  have := c a (List.mem_of_getElem? h)
  rw [hk] at this; cases this
theorem okK_t {t : Int × Int} (h1 : 1 ≤ t.1) (h2 : t.1 ≤ 4) : okK t = true := by rw [okK, decide_eq_true h1, decide_eq_true h2]; rfl
theorem okK_f {t : Int × Int} (h : t.1 < 1 ∨ 4 < t.1) : okK t = false := by
  rcases h with h | h
  · rw [okK, decide_eq_false (by omega)]; rfl
  · rw [okK, decide_eq_false (p := t.1 ≤ 4) (by omega), Bool.and_false]
theorem okR_yes (r : List (Int × Int)) (h : ∀ (j : Nat) a, r[j]? = some a → okK a = true) : okR r = true := by
  rw [okR, List.all_eq_true]
  intro a ha
  obtain ⟨j, hj⟩ := List.mem_iff_getElem?.1 ha
  exact h j a hj
end Go.Proofs.YtgponcjjnjpfkaaGreat.S
/-! Stacks. -/
namespace Go.Proofs.YtgponcjjnjpfkaaGreat.S
open Go.RowKit
open Go.Proofs
set_option linter.unusedVariables false
set_option linter.unusedSimpArgs false
theorem hid {p : Prop} (h : p) : Hid p := h
def z60 : List Value := pc eU 0 []
def z50 : List Value := pc eK (0, 0) []
theorem zinfo60 : (Tryz.prog.info? 112).map (fun i => i.zero) = some (some (.agg z60.toArray)) := by kernel_rfl
theorem zinfo50 : (Tryz.prog.info? 107).map (fun i => i.zero) = some (some (.agg z50.toArray)) := by kernel_rfl
theorem zeroValue60 (w : World) : (zeroValue 112).run Tryz.prog w = .ok (.agg z60.toArray) w := by
  have h := zinfo60
  cases hq : Tryz.prog.info? 112 with
  | none => rw [hq] at h; cases h
  | some i =>
    rw [hq] at h
    have hz : i.zero = some (.agg z60.toArray) := Option.some.inj h
    simp [zeroValue, typeInfo, hq, hz]
theorem zeroValue50 (w : World) : (zeroValue 107).run Tryz.prog w = .ok (.agg z50.toArray) w := by
  have h := zinfo50
  cases hq : Tryz.prog.info? 107 with
  | none => rw [hq] at h; cases h
  | some i =>
    rw [hq] at h
    have hz : i.zero = some (.agg z50.toArray) := Option.some.inj h
    simp [zeroValue, typeInfo, hq, hz]
theorem zc60 (w : World) : Tryz.zeroCells112 = z60.toArray := by
  have h := (Tryz.zeroValue112 w).symm.trans (zeroValue60 w)
  injection h with h1
  injection h1
theorem build60 (W : World) : (Instr.build 112 #[]).run Tryz.prog W = .ok (.agg z60.toArray) W := by
  simp [Instr.build, zc60 W, Value.cells, run_underlying Tryz.underlying112, Tryz.sizeOf110, Instr.fill]
theorem zc50 (w : World) : Tryz.zeroCells107 = z50.toArray := by
  have h := (Tryz.zeroValue107 w).symm.trans (zeroValue50 w)
  injection h with h1
  injection h1
theorem build50 (W : World) : (Instr.build 107 #[]).run Tryz.prog W = .ok (.agg z50.toArray) W := by
  simp [Instr.build, zc50 W, Value.cells, run_underlying Tryz.underlying107, Tryz.sizeOf105, Instr.fill]
theorem wpList_build60 {ops : Array Oper} {rest : List Oper} {o : Oper} {a : Act} {w : World} {Q : Exit → Act → World → Prop} (hg : o.guard = none) (ho : o.op = .build 112 #[])
    (h : wpList Tryz.prog ops Q rest (a.put o.dst (.agg z60.toArray)) w) : wpList Tryz.prog ops Q (o :: rest) a w :=
  wpList_plain hg fun _ hK => by
    unfold Oper.wp execOp
    have e := build60 w
    simp only [ho, List.map_toArray, List.map_nil, Sem.run_bind, e, Result.andThen_ok]
    exact hK _ _ h
theorem wpList_build50 {ops : Array Oper} {rest : List Oper} {o : Oper} {a : Act} {w : World} {Q : Exit → Act → World → Prop} (hg : o.guard = none) (ho : o.op = .build 107 #[])
    (h : wpList Tryz.prog ops Q rest (a.put o.dst (.agg z50.toArray)) w) : wpList Tryz.prog ops Q (o :: rest) a w :=
  wpList_plain hg fun _ hK => by
    unfold Oper.wp execOp
    have e := build50 w
    simp only [ho, List.map_toArray, List.map_nil, Sem.run_bind, e, Result.andThen_ok]
    exact hK _ _ h
theorem hasD0 (W : World) : HasD (W.alloc (.cells z60.toArray 112)) W.heap.size [] := ⟨heap_alloc_new W _, by simp⟩
theorem hasR0 (W : World) : HasR (W.alloc (.cells z50.toArray 107)) W.heap.size [] := ⟨heap_alloc_new W _, by simp⟩
theorem At.below {b B : Nat} {W W' : World} (h : At b W W') (hB : B ≤ b) (hs : B ≤ W.heap.size) : Below B W W' := Tc.below h hs fun i e => by subst e; exact hB
set_option maxHeartbeats 2000000
set_option maxRecDepth 100000
theorem stacks_any (pd pr : Option Addr) (cd cr : Nat) (d : List Int) (r : List (Int × Int)) (hd : d.length ≤ room) (hr : r.length ≤ room) (w : World) (h1 : Sl eU 1 w pd d) (h2 : Sl eK 2 w pr r) :
    Calls Tryz.prog 42 #[.slice pd d.length cd, .slice pr r.length cr] w fun e w' => Below w.heap.size w w' ∧ ((mayS d r = true ∧ ∃ b1 b2, e = .returned (.tuple #[.pointer (some ⟨b1, 0, none⟩), .pointer (some ⟨b2, 0, none⟩), .int .i64 0]) ∧ HasD w' b1 d ∧ HasR w' b2 r ∧ w.heap.size ≤ b1 ∧ w.heap.size ≤ b2 ∧ b1 ≠ b2) ∨
      (mayS d r = false ∧ e = .returned (.tuple #[.pointer none, .pointer none, .int .i64 2]))) := by
  have hr' := hr
  unfold room at hr'
  go_enter Tryz.func42, Tryz.ntmps42
  go_wp2
  go_loopw [13] (fun i wr => ∃ k : Nat, k ≤ r.length ∧ i = .int .i64 (k : Int) ∧ (∀ j a, j < k → r[j]? = some a → okK a = true) ∧ Below w.heap.size w wr) (fun i _ => r.length - (intOf i).toNat)
  case atStart => exact ⟨0, by omega, rfl, fun j a hj => by omega, Below.refl _ _⟩
  case round =>
    obtain ⟨k, hk, rfl, hG, hB⟩ := hrel
    by_cases hlt : k < r.length
    · have i1 : (k : Int) < r.length := by omega
      have ha := List.getElem?_eq_getElem hlt
      obtain ⟨b, o, rfl, e1, e2⟩ := (h2.below hB).k k r[k] ha
      have hno : okK r[k] = false → mayS d r = false := fun c => by rw [mayS, okR_no r k _ ha c]; rfl
      have hG2 : okK r[k] = true → ∀ j a, j < k + 1 → r[j]? = some a → okK a = true := by
        intro c j a hj he
        by_cases e : j = k
        · subst e; rw [ha] at he; cases he; exact c
        · exact hG j a (by omega) he
      have hB2 : Below w.heap.size w (wr.alloc (Obj.cells #[.int .i64 (r[k]).1, .int .u16 (r[k]).2] 44)) := hB.alloc hB.size _
      clear hG h1 h2 ha
      have HG := hid hG2
      have HN := hid hno
      have HB := hid hB2
      clear hG2 hno hB2 hB
      generalize r[k] = t at *
      by_cases c1 : t.1 < 1
      · have d1 : decide (t.1 < 1) = true := decide_eq_true c1
        have f1 := HN.out (okK_f (.inl c1))
        have HF := hid f1
        clear f1
        go_wp2
        refine bodyPost_ret (v := .tuple #[.pointer none, .pointer none, .int .i64 2]) (by simp [results, Tryz.results42, go_sem]) rfl ?_
        exact ⟨HB.out, .inr ⟨HF.out, rfl⟩⟩
      have d1 : decide (t.1 < 1) = false := decide_eq_false c1
      by_cases c2 : 4 < t.1
      · have d2 : decide (4 < t.1) = true := decide_eq_true c2
        have f1 := HN.out (okK_f (.inr c2))
        have HF := hid f1
        clear f1
        go_wp2
        refine bodyPost_ret (v := .tuple #[.pointer none, .pointer none, .int .i64 2]) (by simp [results, Tryz.results42, go_sem]) rfl ?_
        exact ⟨HB.out, .inr ⟨HF.out, rfl⟩⟩
      have d2 : decide (4 < t.1) = false := decide_eq_false c2
      go_wp2
      go_roundw
      case rel =>
        have hz := HG.out (okK_t (by omega) (by omega))
        exact ⟨k + 1, by omega, by go_num, hz, HB.out⟩
      case measure => simp [intOf]; omega
    · obtain rfl : k = r.length := by omega
      have hM : mayS d r = (decide (d.length ≤ 256) && decide (r.length ≤ 128)) := by
        rw [mayS, okR_yes r (fun j a he => hG j a (List.getElem?_eq_some_iff.1 he).1 he), Bool.true_and]
      have HM := hid hM
      clear hM hG
      obtain ⟨wA, hwA⟩ : ∃ wA, wr.alloc (.cells z60.toArray 112) = wA := ⟨_, rfl⟩
      have a1 := hasD0 wr
      rw [hwA] at a1
      have sA : wA.heap.size = wr.heap.size + 1 := by rw [← hwA]; simp
      have bA : Below wr.heap.size wr wA := by rw [← hwA]; exact (Below.refl _ _).alloc (Nat.le_refl _) _
      obtain ⟨wB, hwB⟩ : ∃ wB, wA.alloc (.cells z50.toArray 107) = wB := ⟨_, rfl⟩
      have a2 := hasR0 wA
      rw [hwB] at a2
      have bB : Below wA.heap.size wA wB := by rw [← hwB]; exact (Below.refl _ _).alloc (Nat.le_refl _) _
      have a3 := a1.below bB
      have hBB : Below w.heap.size w wB := hB.trans ((bA.trans (bB.mono bA.size)).mono hB.size)
      have hws := hB.size
      have f1 := h1.below hBB
      have f2 := h2.below hBB
      rw [sA] at a2
      have HA3 := hid a3
      have HA2 := hid a2
      have HF1 := hid f1
      have HF2 := hid h2
      have HBB := hid hBB
      have hsB : wr.heap.size < wB.heap.size := lt_of a3.1
      have HS : Hid (wA.heap.size = wr.heap.size + 1) := sA
      clear a1 a2 a3 bA bB hB f1 f2 h1 h2 hBB
      have hlen : ¬ ((r.length : Int) < r.length) := by omega
      go_wp2_with (first | (refine wpList_build60 rfl rfl ?_) | (refine wpList_build50 rfl rfl ?_))
      by_cases c1 : d.length ≤ 256
      · refine (dpush_yes wr.heap.size [] d pd cd wB HA3.out HF1.out (by simpa using c1)).mono ?_
        rintro e w1 ⟨rfl, g1, t1⟩
        have hB1 : Below w.heap.size w w1 := HBB.out.trans (t1.below (by omega) HBB.out.size)
        have g2 : HasR w1 (wr.heap.size + 1) [] := HA2.out.kept (t1.block _ (lt_of HA2.out.1) (by omega))
        have g3 := HF2.out.below hB1
        have G1 := hid g1
        have G2 := hid g2
        have G3 := hid g3
        have T1 := hid t1
        have HB1 := hid hB1
        clear g1 g2 g3 t1 hB1
        go_wp2_with fail
        by_cases c2 : r.length ≤ 128
        · refine (rpush_yes (wr.heap.size + 1) [] r pr cr w1 G2.out G3.out (by simpa using c2)).mono ?_
          rintro e w2 ⟨rfl, g4, t2⟩
          have hB2 : Below w.heap.size w w2 := HB1.out.trans (t2.below (by omega) HB1.out.size)
          have g5 := G1.out.kept (t2.block _ (lt_of G1.out.1) (by omega))
          have G4 := hid g4
          have G5 := hid g5
          have HB2 := hid hB2
          clear g4 g5 t2 hB2
          go_wp2
          refine bodyPost_ret (v := .tuple #[.pointer (some ⟨wr.heap.size, 0, none⟩), .pointer (some ⟨wr.heap.size + 1, 0, none⟩), .int .i64 0]) (by simp [results, Tryz.results42, go_sem]) rfl ?_
          exact ⟨HB2.out, .inl ⟨by rw [HM.out, decide_eq_true c1, decide_eq_true c2]; rfl, _, _, rfl, by simpa using G5.out, by simpa using G4.out, hws, by omega, by omega⟩⟩
        · refine (rpush_no (wr.heap.size + 1) [] r pr cr w1 G2.out (by simp; omega) hr).mono ?_
          rintro e w2 ⟨rfl, hw2⟩
          obtain rfl := hw2.symm
          go_wp2
          refine bodyPost_ret (v := .tuple #[.pointer none, .pointer none, .int .i64 2]) (by simp [results, Tryz.results42, go_sem]) rfl ?_
          exact ⟨HB1.out, .inr ⟨by rw [HM.out, decide_eq_false c2, Bool.and_false], rfl⟩⟩
      · refine (dpush_no wr.heap.size [] d pd cd wB HA3.out (by simp; omega) hd).mono ?_
        rintro e w1 ⟨rfl, hw1⟩
        obtain rfl := hw1.symm
        go_wp2
        refine bodyPost_ret (v := .tuple #[.pointer none, .pointer none, .int .i64 2]) (by simp [results, Tryz.results42, go_sem]) rfl ?_
        exact ⟨HBB.out, .inr ⟨by rw [HM.out, decide_eq_false c1]; rfl, rfl⟩⟩
end Go.Proofs.YtgponcjjnjpfkaaGreat.S
/-! The reference's data stack. -/
namespace Go.Proofs.YtgponcjjnjpfkaaGreat.S
open Go.RowKit
open Go.Proofs
set_option linter.unusedVariables false
set_option linter.unusedSimpArgs false
/-- Nothing below B is touched, and of what lies above only blocks of these types. -/
structure KT (S : TypeId → Prop) (B : Nat) (W W' : World) : Prop where
  bel : Below B W W'
  typ : ∀ (k : Nat) c t x, W.heap[k]? = some (.cells c t x) → ¬ S t → W'.heap[k]? = some (.cells c t x)
theorem KT.refl (S : TypeId → Prop) (B : Nat) (W : World) : KT S B W W := ⟨Below.refl _ _, fun _ _ _ _ h _ => h⟩
theorem KT.trans {S : TypeId → Prop} {B : Nat} {a b c : World} (h : KT S B a b) (k : KT S B b c) : KT S B a c := ⟨h.bel.trans k.bel, fun i cs t x e n => k.typ i cs t x (h.typ i cs t x e n) n⟩
theorem KT.mono {S T : TypeId → Prop} {B : Nat} {a b : World} (h : KT S B a b) (k : ∀ t, S t → T t) : KT T B a b := ⟨h.bel, fun i cs t x e n => h.typ i cs t x e fun s => n (k t s)⟩
theorem KT.of {S : TypeId → Prop} {B : Nat} {a b : World} (h : Below a.heap.size a b) (hB : B ≤ a.heap.size) : KT S B a b := ⟨h.mono hB, fun i cs t x e _ => (h.block i (lt_of e)).trans e⟩
theorem KT.at {S : TypeId → Prop} {B b : Nat} {W W' : World} {c : Array Value} {t : TypeId} {x : Nat × Nat} (h : At b W W') (hb : W.heap[b]? = some (.cells c t x)) (hS : S t) (hB : B ≤ b) : KT S B W W' :=
  ⟨h.below hB (by have := lt_of hb; omega), fun i cs t' x' e n => (h.block i (lt_of e) (by rintro rfl; rw [hb] at e; injection e with e; injection e with e1 e2 e3; subst e2; exact n hS)).trans e⟩
theorem KT.own {S : TypeId → Prop} {B : Nat} {W W' : World} (h : KT S B W W') {B' : Nat} {e : TypeId} {size : Nat} {v : Value} {n : Nat} {xs : List Value} (ho : W.ownsRow B' e size v n xs) (he : ¬ S e) : W'.ownsRow B' e size v n xs := by
  refine ⟨ho.1, ?_⟩
  rcases ho.2 with ho | ⟨g, cap, cur, rfl, h2, h3, h4⟩
  · exact .inl ho
  · exact .inr ⟨g, cap, cur, rfl, h2, h.typ _ _ _ _ h3 he, h4⟩
theorem At.drew {b : Nat} {W W' : World} (h : At b W W') : At b W W'.drew := Tc.drew h
/-- The reference's data stack. -/
structure EV (W : World) (B be : Nat) (ev : Value) (D : List Int) : Prop where
  blk : W.heap[be]? = some (.cells [ev].toArray 89 (0, 0))
  row : RowU W B ev D
  hb : B ≤ be
  len : D.length ≤ 256
theorem EV.kt {S : TypeId → Prop} {B0 : Nat} {W W' : World} {B be : Nat} {ev : Value} {D : List Int} (h : EV W B be ev D) (k : KT S B0 W W') (h1 : ¬ S 89) (h2 : ¬ S 26) : EV W' B be ev D :=
  ⟨k.typ _ _ _ _ h.blk h1, k.own h.row h2, h.hb, h.len⟩
/-- The new list lies where the old one lay, or in new memory. -/
def Nw (w : World) (v v' : Value) : Prop := ∀ g, v'.ownBlock = some g → v.ownBlock = some g ∨ w.heap.size ≤ g
/-- An own row cut to its beginning. -/
theorem own_cut {W : World} {B : Nat} {e : TypeId} {size : Nat} {g n cap : Nat} {xs : List Value} (h : W.ownsRow B e size (.slice (some ⟨g, 0, none⟩) n cap) n xs) (m : Nat) (hm : m ≤ n) : W.ownsRow B e size (.slice (some ⟨g, 0, none⟩) m cap) m (xs.take (m * size)) := by
  rcases h.2 with ⟨h, _⟩ | ⟨g', cap', cur, h1, h2, h3, h4, h5, h6, h7⟩
  · cases h
  · simp only [Value.slice.injEq, Option.some.injEq, Addr.mk.injEq, true_and, and_true] at h1
    obtain ⟨rfl, rfl⟩ := h1
    have hl := h.1
    have hms : m * size ≤ n * size := Nat.mul_le_mul_right _ hm
    refine ⟨by rw [List.length_take, hl]; omega, .inr ⟨g, cap, cur, rfl, h2, h3, by omega, h5, h6, ?_⟩⟩
    rw [← h7, List.take_take, Nat.min_eq_left hms]
theorem rowU_pos {W : World} {B : Nat} {v : Value} {l : List Int} (h : RowU W B v l) (h0 : 0 < l.length) : ∃ g cap, v = .slice (some ⟨g, 0, none⟩) l.length cap ∧ B ≤ g ∧ l.length ≤ cap := by
  rcases h.2 with ⟨_, h⟩ | ⟨g, cap, cur, h1, h2, h3, h4, _⟩
  · omega
  · exact ⟨g, cap, h1, h2, h4⟩
theorem ex_slice {W : World} {B : Nat} {e : TypeId} {size : Nat} {v : Value} {n : Nat} {xs : List Value} (h : W.ownsRow B e size v n xs) : ∃ p c, v = .slice p n c := by
  rcases h.2 with ⟨rfl, h'⟩ | ⟨g, cap, cur, h1, _⟩
  · exact ⟨none, 0, by rw [h']⟩
  · exact ⟨_, _, h1⟩
theorem own_ne {W : World} {B : Nat} {e : TypeId} {size : Nat} {v : Value} {n : Nat} {xs : List Value} (h : W.ownsRow B e size v n xs) {b : Nat} {c : Array Value} {t : TypeId} {x : Nat × Nat} (hb : W.heap[b]? = some (.cells c t x)) (ht : t ≠ e) : ∀ g, v.ownBlock = some g → g ≠ b := by
  rcases h.2 with ⟨rfl, _⟩ | ⟨g', cap, cur, rfl, _, h3, _⟩
  · intro g e; simp [Value.ownBlock] at e
  · intro g e
    simp [Value.ownBlock] at e
    subst e
    rintro rfl
    rw [hb] at h3
    injection h3 with h3
    injection h3 with _ h3
    exact ht h3
set_option maxHeartbeats 1000000
set_option maxRecDepth 100000
end Go.Proofs.YtgponcjjnjpfkaaGreat.S
/-! The reference's return stack; its Need. -/
namespace Go.Proofs.YtgponcjjnjpfkaaGreat.S
open Go.RowKit
open Go.Proofs
set_option linter.unusedVariables false
set_option linter.unusedSimpArgs false
/-- The reference's return stack. -/
structure QV (W : World) (B bq : Nat) (qv : Value) (D : List (Int × Int)) : Prop where
  blk : W.heap[bq]? = some (.cells [qv].toArray 91 (0, 0))
  row : RowK W B qv D
  hb : B ≤ bq
  len : D.length ≤ 128
theorem QV.kt {S : TypeId → Prop} {B0 : Nat} {W W' : World} {B bq : Nat} {qv : Value} {D : List (Int × Int)} (h : QV W B bq qv D) (k : KT S B0 W W') (h1 : ¬ S 91) (h2 : ¬ S 44) : QV W' B bq qv D :=
  ⟨k.typ _ _ _ _ h.blk h1, k.own h.row h2, h.hb, h.len⟩
theorem rowK_pos {W : World} {B : Nat} {v : Value} {l : List (Int × Int)} (h : RowK W B v l) (h0 : 0 < l.length) : ∃ g cap, v = .slice (some ⟨g, 0, none⟩) l.length cap ∧ B ≤ g ∧ l.length ≤ cap := by
  rcases h.2 with ⟨_, h⟩ | ⟨g, cap, cur, h1, h2, h3, h4, _⟩
  · omega
  · exact ⟨g, cap, h1, h2, h4⟩
theorem rowK_get {W : World} {B g cap : Nat} {l : List (Int × Int)} (h : RowK W B (.slice (some ⟨g, 0, none⟩) l.length cap) l) (i : Nat) (a : Int × Int) (ha : l[i]? = some a) : W.cell? ⟨g, i * 2, none⟩ = some (.int .i64 a.1) ∧ W.cell? ⟨g, i * 2 + 1, none⟩ = some (.int .u16 a.2) := by
  rcases h.ls with ⟨e, _⟩ | ⟨x, c, e, _, hs⟩
  · cases e
  · simp only [Value.slice.injEq, true_and] at e
    obtain ⟨e, rfl⟩ := e
    obtain ⟨b, o, e1, e2, e3⟩ := hs.k i a ha
    rw [← e] at e1
    simp only [Option.some.injEq, Addr.mk.injEq] at e1
    obtain ⟨rfl, rfl, _⟩ := e1
    rw [Nat.zero_add] at e2 e3
    exact ⟨e2, e3⟩
/-- An own row with one cell set. -/
theorem own_set {W : World} {B : Nat} {e : TypeId} {size g n cap : Nat} {xs : List Value} (h : W.ownsRow B e size (.slice (some ⟨g, 0, none⟩) n cap) n xs) (i : Nat) (hi : i < xs.length) (u : Value) : (W.setCell ⟨g, i, none⟩ u).ownsRow B e size (.slice (some ⟨g, 0, none⟩) n cap) n (xs.set i u) := by
  rcases h.2 with ⟨h, _⟩ | ⟨g', cap', cur, h1, h2, h3, h4, h5, h6, h7⟩
  · cases h
  · simp only [Value.slice.injEq, Option.some.injEq, Addr.mk.injEq, true_and, and_true] at h1
    obtain ⟨rfl, rfl⟩ := h1
    obtain ⟨cl⟩ := cur
    have hx : xs.length = n * size := h.1
    refine ⟨by rw [List.length_set]; exact hx, .inr ⟨g, cap, (cl.set i u).toArray, rfl, h2, setCell_heap W g i cl e u h3, h4, h5, ?_, ?_⟩⟩
    · simpa using h6
    · simp only at h7 ⊢
      rw [← h7, List.take_set]
theorem enK_set (T : List (Int × Int)) (k v x : Int) : (en eK (T ++ [(k, v)])).set (T.length * 2 + 1) (.int .u16 x) = en eK (T ++ [(k, x)]) := by
  have e2 : (en eK T).length = T.length * 2 := by rw [en_len hK]
  rw [en_append, en_append, List.set_append_right _ _ (by omega), e2, show T.length * 2 + 1 - T.length * 2 = 1 by omega]
  rfl
set_option maxHeartbeats 1000000
set_option maxRecDepth 100000
end Go.Proofs.YtgponcjjnjpfkaaGreat.S
