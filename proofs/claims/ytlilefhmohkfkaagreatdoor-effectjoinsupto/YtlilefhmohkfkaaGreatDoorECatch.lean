import Derived.Test.YtlilefhmohkfkaaGreatDoorEWord
import Derived.Defers
import Derived.Recover
/-! typedOf's deferred function literal. -/
namespace Go.Proofs.YtlilefhmohkfkaaGreatDoor.E
open Go.RowKit
open Go.Proofs
open Go.Proofs.YtlilefhmohkfkaaGreatDoor.Y (Nd Df Ps ndc dfc hid)
set_option linter.unusedVariables false
set_option linter.unusedSimpArgs false
set_option maxHeartbeats 2000000
set_option maxRecDepth 100000
theorem sizeT : (Tryz.prog.info? 47).map (·.size) = some 9 := by kernel_rfl
theorem sizeF : (Tryz.prog.info? 109).map (·.size) = some 3 := by kernel_rfl
theorem Gw.rowG {g : Nat} {A B : World} (h : Gw g A B) (c : Array Value) : Gw g A (B.setRow g c) :=
  ⟨h.os, h.tape, h.output, by rw [size_setRow]; exact h.size, fun k hk hg => (setRow_other B g k c hg).trans (h.block k hk hg)⟩
theorem row_below {n : Nat} {A B : World} (h : Below n A B) (b : Nat) (hb : n ≤ b) (c : Array Value) : Below n A (B.setRow b c) :=
  ⟨h.os, h.tape, h.output, by rw [size_setRow]; exact h.size, fun k hk => (setRow_other B b k c (by omega)).trans (h.block k hk)⟩
theorem run_assert (W : World) (v : Value) : (Instr.typeAssert (.iface 109 v) 20 109 false).run Tryz.prog W = .ok v W := by
  simp [Instr.typeAssert, run_underlying Tryz.underlying109]
theorem catch_idle (p q : Addr) (w : World) :
    CallsD Tryz.prog 56 #[.pointer (some p), .pointer (some q)] .returning w fun e u' w' => e = .returned (.tuple #[]) ∧ u' = .returning ∧ w' = w := by
  refine callsD_of_wpS Tryz.func56 rfl fun c₀ cs hu => ?_
  apply wpS_seq
  apply wpS_region
  simp [wpOpsS, go_sem, recoverD, hu, Tryz.ntmps56, Exit.thenS]
  have ht : (#[Value.pointer (some p), Value.pointer (some q)] ++ ((Array.replicate 14 undef).setIfInBounds 2 Value.nilIface).setIfInBounds 0 Value.nilIface) = #[Value.pointer (some p), Value.pointer (some q), Value.nilIface, undef, Value.nilIface, undef, undef, undef, undef, undef, undef, undef, undef, undef, undef, undef] := rfl
  rw [ht]
  refine wpS_of_wp ?_
  go_wp2
  clear ht
  cases c₀
  simp_all [bodyPostS, results, Tryz.results56]
theorem catch_flt (d : Df) (bv : Value) (t : Ty) (er : Er) (b b' : Nat) (w : World) (hne : b ≠ b') (h : w.heap[b]? = some (.cells (dfc d bv).toArray 27 (0, 0))) (h' : w.heap[b']? = some (.cells (tyc t).toArray 47 (0, 0))) :
    CallsD Tryz.prog 56 #[.pointer (some ⟨b, 0, none⟩), .pointer (some ⟨b', 0, none⟩)] (.panicking (flt er)) w fun e u' w' =>
      e = .returned (.tuple #[]) ∧ u' = .panicking [{ v := .iface 109 (.agg #[.int .i64 er.1, .int .i64 er.2.1, .int .i64 er.2.2]), recovered := true }] ∧ w'.heap[b']? = some (.cells (tyc ⟨d.nm, 0, 0, 0, 0, false, er.1, er.2⟩).toArray 47 (0, 0)) ∧ Gw b' w w' := by
  unfold flt
  refine callsD_of_wpS Tryz.func56 rfl fun c₀ cs hu => ?_
  apply wpS_seq
  apply wpS_region
  simp [wpOpsS, go_sem, recoverD, hu, Tryz.ntmps56, Exit.thenS]
  generalize hv : Value.agg #[.int .i64 er.1, .int .i64 er.2.1, .int .i64 er.2.2] = v
  have ht : (#[Value.pointer (some ⟨b, 0, none⟩), Value.pointer (some ⟨b', 0, none⟩)] ++ ((Array.replicate 14 undef).setIfInBounds 2 (Value.iface 109 v)).setIfInBounds 0 (Value.iface 109 v)) = #[Value.pointer (some ⟨b, 0, none⟩), Value.pointer (some ⟨b', 0, none⟩), Value.iface 109 v, undef, Value.iface 109 v, undef, undef, undef, undef, undef, undef, undef, undef, undef, undef, undef] := rfl
  rw [ht, ← hv]
  clear hv ht v
  refine wpS_of_wp ?_
  have ta := fun W => run_assert W (.agg #[.int .i64 er.1, .int .i64 er.2.1, .int .i64 er.2.2])
  obtain ⟨c0, c1, c2, c3, c4, c5⟩ := df_cells h
  obtain ⟨W1, hW1⟩ : ∃ W1, w.alloc (.cells #[.int .i64 0, .int .i64 0, .int .i64 0] 109) = W1 := ⟨_, rfl⟩
  have hB : Below w.heap.size w W1 := by rw [← hW1]; exact (Below.refl _ _).alloc (Nat.le_refl _) _
  have hf : W1.heap[w.heap.size]? = some (.cells #[.int .i64 0, .int .i64 0, .int .i64 0] 109 (0, 0)) := by rw [← hW1]; exact heap_alloc_new w _
  have HS := hid (And.intro hB (And.intro h h'))
  clear h h' hB
  go_upto_region 3 with (refine wpList_store_row rfl 109 _ _ rfl w.heap.size _ rfl rfl 109 _ hf (by exact sizeF) (by rfl) (by simp [Value.oneCell']) ?_)
  have hf2 := setRow_heap W1 w.heap.size _ #[.int .i64 er.1, .int .i64 er.2.1, .int .i64 er.2.2] _ _ hf
  have hB2 : Below w.heap.size w (W1.setRow w.heap.size #[.int .i64 er.1, .int .i64 er.2.1, .int .i64 er.2.2]) := row_below HS.out.1 _ (Nat.le_refl _) _
  clear hf hW1 c0 c1 c2 c3 c4 c5 ta
  generalize W1.setRow w.heap.size #[.int .i64 er.1, .int .i64 er.2.1, .int .i64 er.2.2] = W2 at *
  have h2 := (hB2.block _ (S.lt_of HS.out.2.1)).trans HS.out.2.1
  have h2' := (hB2.block _ (S.lt_of HS.out.2.2)).trans HS.out.2.2
  obtain ⟨c0, c1, c2, c3, c4, c5⟩ := df_cells h2
  have p0 := S.cell_of W2 w.heap.size 0 _ 109 _ hf2 rfl
  have p1 := S.cell_of W2 w.heap.size 1 _ 109 _ hf2 rfl
  have p2 := S.cell_of W2 w.heap.size 2 _ 109 _ hf2 rfl
  go_wp2_with (refine wpList_store_row rfl 47 _ _ rfl b' _ rfl rfl 47 _ h2' (by exact sizeT) (by rfl) (by simp [Value.oneCell']) ?_)
  have h3 := setRow_heap W2 b' _ (tyc ⟨d.nm, 0, 0, 0, 0, false, er.1, er.2⟩).toArray _ _ h2'
  have hG : Gw b' w (W2.setRow b' (tyc ⟨d.nm, 0, 0, 0, 0, false, er.1, er.2⟩).toArray) := (Gw.of hB2).trans (Gw.rowG (Gw.refl _ _) _)
  refine (?_ : bodyPostS Tryz.prog Tryz.f56 c₀ cs _ _ _ _ _)
  exact ⟨rfl, _, rfl, _, results_none rfl _ _ _, rfl, rfl, h3, hG⟩
end Go.Proofs.YtlilefhmohkfkaaGreatDoor.E
/-! typedOf. -/
namespace Go.Proofs.YtlilefhmohkfkaaGreatDoor.E
open Go.RowKit
open Go.Proofs
open Go.Proofs.YtlilefhmohkfkaaGreatDoor.Y (Nd Df Ps ndc dfc hid)
set_option linter.unusedVariables false
set_option linter.unusedSimpArgs false
set_option maxHeartbeats 2000000
set_option maxRecDepth 100000
open Y (NV cells6)
open R (En cks MP)
/-- What typedOf answers. -/
def TO (W : World) (t : Ty) (e : Ending) (w' : World) : Prop := e = .returned (.agg (tyc t).toArray) ∧ Below W.heap.size W w'
def dfr (w : World) : List Deferred := [{ target := Target.fn (Fn.func 56) #[.pointer (some ⟨w.heap.size, 0, none⟩), .pointer (some ⟨w.heap.size + 1, 0, none⟩)], args := #[] }]
theorem door_res {T : Array Value} {b : Nat} {t : Ty} {W : World} (ht : T.getD 6 undef = .pointer (some ⟨b, 0, none⟩)) (h : W.heap[b]? = some (.cells (tyc t).toArray 47 (0, 0))) : (results Tryz.f46 T).run Tryz.prog W = .ok (.agg (tyc t).toArray) W := by
  have e : (results Tryz.f46 T).run Tryz.prog W = ((asAddr (T.getD 6 undef)).run Tryz.prog W).andThen fun a w₁ => (loadVar 47 a).run Tryz.prog w₁ := by
    simp only [results, Tryz.results46]
    simp [Sem.run_bind, Result.andThen]
  rw [e, ht]
  simp [asAddr, run_loadVar_row W b _ 47 _ _ _ h Tryz.underlying47 rfl sizeT]
theorem door_panic (w W : World) (d : Df) (bv : Value) (t : Ty) (er : Er) (T : Array Value) (ht : T.getD 6 undef = .pointer (some ⟨w.heap.size + 1, 0, none⟩))
    (h0 : W.heap[w.heap.size]? = some (.cells (dfc d bv).toArray 27 (0, 0))) (h1 : W.heap[w.heap.size + 1]? = some (.cells (tyc t).toArray 47 (0, 0))) (hB : Below w.heap.size w W) :
    bodyPostD Tryz.prog Tryz.f46 (TO w ⟨d.nm, 0, 0, 0, 0, false, er.1, er.2⟩) (Exit.panic (flt er)) { tmps := T, defers := dfr w } W := by
  unfold dfr
  refine leaves_cons (f := 56) (args := #[.pointer (some ⟨w.heap.size, 0, none⟩), .pointer (some ⟨w.heap.size + 1, 0, none⟩)]) (by simp) (by simp [go_sem]) ?_
  refine (catch_flt d bv t er w.heap.size (w.heap.size + 1) W (by omega) h0 h1).mono ?_
  rintro e u' w'' ⟨rfl, rfl, g0, g1⟩
  exact ⟨_, door_res ht g0, rfl, Gw.below hB g1 (by omega)⟩
theorem door_ret (w W : World) (t : Ty) (T : Array Value) (ht : T.getD 6 undef = .pointer (some ⟨w.heap.size + 1, 0, none⟩))
    (h1 : W.heap[w.heap.size + 1]? = some (.cells (tyc t).toArray 47 (0, 0))) (hB : Below w.heap.size w W) :
    bodyPostD Tryz.prog Tryz.f46 (TO w t) Exit.ret { tmps := T, defers := dfr w } W := by
  unfold dfr
  refine leaves_cons (f := 56) (args := #[.pointer (some ⟨w.heap.size, 0, none⟩), .pointer (some ⟨w.heap.size + 1, 0, none⟩)]) (by simp) (by simp [go_sem]) ?_
  refine (catch_idle ⟨w.heap.size, 0, none⟩ ⟨w.heap.size + 1, 0, none⟩ W).mono ?_
  rintro e u' w'' ⟨rfl, rfl, rfl⟩
  exact ⟨_, door_res ht h1, rfl, hB⟩
theorem leaves_congr {fn : Func} {T T' : Array Value} {R : Ending → World → Prop} (h : results fn T = results fn T') : ∀ (ds : List Deferred) (u : FrameMode) (w : World), Leaves Tryz.prog fn T R ds u w → Leaves Tryz.prog fn T' R ds u w
  | [], .returning, w, hL => by obtain ⟨v, h1, h2⟩ := hL; exact ⟨v, h ▸ h1, h2⟩
  | [], .panicking c, w, hL => hL
  | [], .run, w, hL => hL
  | d :: ds, u, w, hL => by
    obtain ⟨h1, fv, cap, f, args, h2, h3, h4⟩ := hL
    refine ⟨h1, fv, cap, f, args, h2, h3, h4.mono ?_⟩
    intro e u' w' he
    cases e with
    | returned v => exact leaves_congr h ds _ _ he
    | panicked c => exact leaves_congr h ds _ _ he
    | outgrown => exact he
theorem res_put (T : Array Value) (d : Nat) (v : Value) (h6 : d ≠ 6) : results Tryz.f46 (T.setIfInBounds d v) = results Tryz.f46 T := by
  have e6 : (T.setIfInBounds d v)[6]? = T[6]? := Array.getElem?_setIfInBounds_ne h6
  simp [results, Tryz.results46, e6]
theorem put_door {R : Ending → World → Prop} {c : List PanicEntry} {a : Act} {w : World} (d : Nat) (h6 : d ≠ 6) (v : Value) (h : bodyPostD Tryz.prog Tryz.f46 R (.panic c) (a.put (some d) v) w) : bodyPostD Tryz.prog Tryz.f46 R (.panic c) a w :=
  leaves_congr (res_put a.tmps d v h6) _ _ _ h
theorem typedOf_any (at_ : En) (tl : List Ty) (names : List ByteArray) (qn : QN at_ tl names) (d : Df) (bv : Value) (O : Nat → Prop) (mb : Nat) (av : Value) (W : World) (hO : ∀ j, O j → j < W.heap.size) (hV : NV W O bv d.body) (hck : cks names d.body (0, false) = 0) (hM : MP W mb at_) (hT : TL W av tl) (hal : tb av < W.heap.size) :
    Calls Tryz.prog 46 #[.agg (dfc d bv).toArray, .map (some mb), av] W (TO W (tyOf (known at_ tl) d)) := by
  obtain ⟨q, cq, rfl, _, _⟩ := hV.ex
  have hmf : ∀ (fn : Fn) (first cap : Array Value) (w : World), (Instr.makeFunc fn first cap).run Tryz.prog w = .ok (.func fn first cap) w := fun _ _ _ _ => rfl
  obtain ⟨W0, hW0⟩ : ∃ W0, W.alloc (.cells #[.int .i64 d.k, .string d.nm, .int .u16 d.v, .slice q d.body.length cq, .int .i64 d.p.1, .int .i64 d.p.2] 27) = W0 := ⟨_, rfl⟩
  obtain ⟨W1, hW1⟩ : ∃ W1, W0.alloc (.cells #[.string ⟨#[]⟩, .int .i64 0, .int .i64 0, .int .i64 0, .int .i64 0, .bool false, .int .i64 0, .int .i64 0, .int .i64 0] 47) = W1 := ⟨_, rfl⟩
  have hs0 : W0.heap.size = W.heap.size + 1 := by rw [← hW0]; simp
  have hs1 : W1.heap.size = W.heap.size + 2 := by rw [← hW1]; simp [hs0]
  have hB1 : Below W.heap.size W W1 := by rw [← hW1, ← hW0]; exact ((Below.refl _ _).alloc (Nat.le_refl _) _).alloc (by simp) _
  have k1 : W1.heap[W.heap.size]? = some (.cells (dfc d (.slice q d.body.length cq)).toArray 27 (0, 0)) := by rw [← hW1]; exact (Below.heap_alloc _ _ _ (by omega)).trans (by rw [← hW0]; exact heap_alloc_new W _)
  have k2 : W1.heap[W0.heap.size]? = some (.cells (tyc ⟨⟨#[]⟩, 0, 0, 0, 0, false, 0, (0, 0)⟩).toArray 47 (0, 0)) := by rw [← hW1]; exact heap_alloc_new W0 _
  obtain ⟨ab, ac, rfl, hl, hc⟩ := id hT
  obtain ⟨W2, hW2⟩ : ∃ W2, W1.alloc (.cells #[.map (some mb), .slice (some ⟨ab, 0, none⟩) tl.length ac, .int .i64 0, .int .i64 0, .int .i64 0, .int .i64 0, .bool true, .int .i64 0] 112) = W2 := ⟨_, rfl⟩
  have zb : Below W1.heap.size W1 W2 := by rw [← hW2]; exact (Below.refl _ _).alloc (Nat.le_refl _) _
  have hE : EW W2 W1.heap.size (.map (some mb)) (.slice (some ⟨ab, 0, none⟩) tl.length ac) w0 := by rw [← hW2]; exact heap_alloc_new W1 _
  have hB2 : Below W.heap.size W W2 := ⟨zb.os.trans hB1.os, zb.tape.trans hB1.tape, zb.output.trans hB1.output, Nat.le_trans hB1.size zb.size, fun k hk => (zb.block k (by omega)).trans (hB1.block k hk)⟩
  have l1 : W2.heap[W.heap.size]? = some (.cells (dfc d (.slice q d.body.length cq)).toArray 27 (0, 0)) := (zb.block _ (by omega)).trans k1
  have l2 : W2.heap[W0.heap.size]? = some (.cells (tyc ⟨⟨#[]⟩, 0, 0, 0, 0, false, 0, (0, 0)⟩).toArray 47 (0, 0)) := (zb.block _ (by omega)).trans k2
  rw [hs0] at k2 l2
  have hs1' : W1.heap.size = W.heap.size + 1 + 1 := hs1
  rw [hs1'] at hE
  have e2 : (((W.alloc (.cells (dfc d (.slice q d.body.length cq)).toArray 27)).alloc (.cells #[.string ⟨#[]⟩, .int .i64 0, .int .i64 0, .int .i64 0, .int .i64 0, .bool false, .int .i64 0, .int .i64 0, .int .i64 0] 47)).alloc (.cells #[.map (some mb), .slice (some ⟨ab, 0, none⟩) tl.length ac, .int .i64 0, .int .i64 0, .int .i64 0, .int .i64 0, .bool true, .int .i64 0] 112)) = W2 := by rw [← hW2, ← hW1, ← hW0]; rfl
  have hO2 : ∀ j, O j → j < W2.drew.heap.size := fun j hj => Nat.lt_of_lt_of_le (hO j hj) hB2.size
  have hG2 : Gw (W.heap.size + 1 + 1) W W2.drew := Gw.of hB2.drew
  have hOg : ¬ O (W.heap.size + 1 + 1) := fun hj => by have := hO _ hj; omega
  have hLU : LU W2.drew (W.heap.size + 1 + 1) (.map (some mb)) (.slice (some ⟨ab, 0, none⟩) tl.length ac) at_ tl :=
    ⟨⟨mb, rfl, hM.kept (hG2.block mb hM.lt (by have := hM.lt; omega)), by have := hM.lt; omega⟩, hT.kept (hG2.block _ hal (by omega)), by omega, Nat.lt_of_lt_of_le hal hG2.size⟩
  have hcl := word_any at_ tl names qn d _ O (W.heap.size + 1 + 1) _ _ W2.drew hO2 hOg (nv_gw hV hG2 hO hOg) hck hE hLU
  have HS := hid (And.intro l1 (And.intro l2 (And.intro hB2 hs1')))
  have HR : Y.Hd (tyOf (known at_ tl) d = match word (known at_ tl) d with | .error e => ⟨d.nm, 0, 0, 0, 0, false, e.1, e.2⟩ | .ok w => ⟨d.nm, w.i, if w.nv then 0 else w.i + w.lf, w.d, w.r, w.nv, 0, (0, 0)⟩) := ⟨rfl⟩
  generalize tyOf (known at_ tl) d = R at *
  generalize word (known at_ tl) d = G at *
  clear k1 k2 l1 l2 hB1 hB2 zb hO2 hG2 hOg hLU hV hck hE hM hT hal hc hl hO qn hs0 hs1 hs1' hW0 hW1 hW2
  go_enter_defers Tryz.func46, Tryz.ntmps46
  go_upto_region 3 with fail
  clear e2 hmf
  have t1 : (fun wz : World => wz.heap[W.heap.size]? = some (.cells (dfc d (.slice q d.body.length cq)).toArray 27 (0, 0))) W2.drew := HS.out.1
  refine wp_region_drop [6] (S := fun wz : World => wz.heap[W.heap.size]? = some (.cells (dfc d (.slice q d.body.length cq)).toArray 27 (0, 0))) (by kernel_rfl) t1 (fun hHeld => ?_)
  have HS2 : Y.Hd (W2.drew.heap[W.heap.size]? = some (.cells (dfc d (.slice q d.body.length cq)).toArray 27 (0, 0)) ∧ W2.drew.heap[W.heap.size + 1]? = some (.cells (tyc ⟨⟨#[]⟩, 0, 0, 0, 0, false, 0, (0, 0)⟩).toArray 47 (0, 0)) ∧ Below W.heap.size W W2.drew) := ⟨HS.out.1, HS.out.2.1, HS.out.2.2.1.drew⟩
  generalize W2.drew = y0 at *
  clear t1 HS
  refine wpD_takeP (i := 0) (v := ?_) rfl (by kernel_rfl) (by kernel_rfl) (by kernel_rfl) (by kernel_rfl) (fun c a w h => put_door _ (by decide) _ h) (Or.inl ⟨by rfl, ?_⟩) (fun _ => hHeld) ?_
  rotate_left
  · (intro w hSw; clear hSw; go_simp; try with_reducible rfl)
  simp only [Act.put, List.getElem_toArray, List.getElem_cons_zero, List.getElem_cons_succ, List.setIfInBounds_toArray, List.set_cons_zero, List.set_cons_succ]
  refine wpD_takeT (i := 1) (v := ?_) rfl (by kernel_rfl) (by kernel_rfl) (by kernel_rfl) (by kernel_rfl) (by kernel_rfl) (by kernel_rfl) (fun c a w h => put_door _ (by decide) _ h) (Or.inl ⟨by rfl, ?_⟩) hHeld ?_
  rotate_left
  · (intro w hSw; (try dsimp only at hSw); obtain ⟨c0, c1, c2, c3, c4, c5⟩ := df_cells hSw; go_simp; try with_reducible rfl)
  simp only [Act.put, List.getElem_toArray, List.getElem_cons_zero, List.getElem_cons_succ, List.setIfInBounds_toArray, List.set_cons_zero, List.set_cons_succ]
  refine wpD_takeP (i := 2) (v := ?_) rfl (by kernel_rfl) (by kernel_rfl) (by kernel_rfl) (by kernel_rfl) (fun c a w h => put_door _ (by decide) _ h) (Or.inl ⟨by rfl, ?_⟩) (fun _ => hHeld) ?_
  rotate_left
  · (intro w hSw; clear hSw; go_simp; try with_reducible rfl)
  simp only [Act.put, List.getElem_toArray, List.getElem_cons_zero, List.getElem_cons_succ, List.setIfInBounds_toArray, List.set_cons_zero, List.set_cons_succ]
  refine wpD_takeT (i := 3) (v := ?_) rfl (by kernel_rfl) (by kernel_rfl) (by kernel_rfl) (by kernel_rfl) (by kernel_rfl) (by kernel_rfl) (fun c a w h => put_door _ (by decide) _ h) (Or.inl ⟨by rfl, ?_⟩) hHeld ?_
  rotate_left
  · (intro w hSw; (try dsimp only at hSw); obtain ⟨c0, c1, c2, c3, c4, c5⟩ := df_cells hSw; go_simp; try with_reducible rfl)
  simp only [Act.put, List.getElem_toArray, List.getElem_cons_zero, List.getElem_cons_succ, List.setIfInBounds_toArray, List.set_cons_zero, List.set_cons_succ]
  refine wpD_ready (rs := [4]) (by kernel_rfl) (by simp) ?_
  refine AllD.cons rfl (fun K hK => ?_) AllD.nil
  go_simp
  refine hcl.mono ?_
  intro e y1 hp
  clear hcl
  cases G with
  | error er =>
    obtain ⟨rfl, hG⟩ := hp
    have hB3 := Gw.below HS2.out.2.2 hG (by omega)
    rw [HR.out]
    exact door_panic W y1 d _ _ er _ rfl (hG.keep HS2.out.1 (by omega)) (hG.keep HS2.out.2.1 (by omega)) hB3
  | ok w =>
  obtain ⟨oo, hoo⟩ : ∃ oo : Int, oo = (if w.nv then 0 else w.i + w.lf) := ⟨_, rfl⟩
  replace HR : Y.Hd (R = ⟨d.nm, w.i, oo, w.d, w.r, w.nv, 0, (0, 0)⟩) := ⟨by rw [HR.out, hoo]⟩
  replace hp : e = .returned (.agg #[.int .i64 w.i, .int .i64 oo, .int .i64 w.d, .int .i64 w.r, .bool w.nv]) ∧ Gw (W.heap.size + 1 + 1) y0 y1 := by rw [hoo]; exact hp
  clear hoo
  obtain ⟨rfl, hG⟩ := hp
  have hB3 := Gw.below HS2.out.2.2 hG (by omega)
  have hd3 := hG.keep HS2.out.1 (by omega)
  have HT3 := hid (And.intro (hG.keep HS2.out.2.1 (by omega)) hB3)
  clear hG hB3 HS2
  refine hK.out _ _ hd3 (fun hHeld => ?_)
  clear hK K
  try simp only [Act.put, List.getElem_toArray, List.getElem_cons_zero, List.getElem_cons_succ, List.setIfInBounds_toArray, List.set_cons_zero, List.set_cons_succ]
  refine wpD_takeP (i := 5) (v := ?_) rfl (by kernel_rfl) (by kernel_rfl) (by kernel_rfl) (by kernel_rfl) (fun c a w h => put_door _ (by decide) _ h) (Or.inl ⟨by rfl, ?_⟩) (fun _ => hHeld) ?_
  rotate_left
  · (intro w hSw; clear hSw; go_simp; try with_reducible rfl)
  simp only [Act.put, List.getElem_toArray, List.getElem_cons_zero, List.getElem_cons_succ, List.setIfInBounds_toArray, List.set_cons_zero, List.set_cons_succ]
  have h4 := HT3.out.1
  refine wpD_ready (rs := [6]) (by kernel_rfl) (by simp) ?_
  refine AllD.late rfl (by kernel_rfl) (fun K hK => ?_)
  refine wp_store_row 47 _ _ rfl (W.heap.size + 1) _ rfl rfl 47 _ h4 (by exact sizeT) (by rfl) (by simp [Value.oneCell']) ?_
  refine hK.out _ _ ?_
  clear hK K
  refine wpD_done (by kernel_rfl) ?_ _
  simp only [Act.put]
  have h5 : (y1.setRow (W.heap.size + 1) (tyc ⟨d.nm, w.i, oo, w.d, w.r, w.nv, 0, (0, 0)⟩).toArray).heap[W.heap.size + 1]? = some (.cells (tyc ⟨d.nm, w.i, oo, w.d, w.r, w.nv, 0, (0, 0)⟩).toArray 47 (0, 0)) := setRow_heap y1 _ _ _ _ _ h4
  have hB5 : Below W.heap.size W (y1.setRow (W.heap.size + 1) (tyc ⟨d.nm, w.i, oo, w.d, w.r, w.nv, 0, (0, 0)⟩).toArray) := row_below HT3.out.2 _ (by omega) _
  clear hHeld h4 hd3 HT3
  unfold tyc at h5 hB5
  simp only at h5 hB5
  generalize y1.setRow (W.heap.size + 1) [.string d.nm, .int .i64 w.i, .int .i64 oo, .int .i64 w.d, .int .i64 w.r, .bool w.nv, .int .i64 0, .int .i64 0, .int .i64 0].toArray = y5 at *
  go_wp2_with fail
  rw [HR.out]
  exact door_ret W y5 ⟨d.nm, w.i, oo, w.d, w.r, w.nv, 0, (0, 0)⟩ _ rfl h5 hB5
end Go.Proofs.YtlilefhmohkfkaaGreatDoor.E
/-! placesOf. -/
namespace Go.Proofs.YtlilefhmohkfkaaGreatDoor.E
open Go.RowKit
open Go.Proofs
open Go.Proofs.YtlilefhmohkfkaaGreatDoor.Y (Nd Df Ps ndc dfc hid NV DV D1 cells6)
open Go.Proofs.YtlilefhmohkfkaaGreatDoor.R (MP En numb ents lk run_put take_any below_setBlock setBlock_other)
open Go.ChangeMaps (setBlock)
set_option linter.unusedVariables false
set_option linter.unusedSimpArgs false
set_option maxHeartbeats 2000000
set_option maxRecDepth 100000
theorem run_mk (k : IntKind) (n : Int) (w : World) : (Instr.makeMap 75 (some (.int k n))).run Tryz.prog w = .ok (.map (some w.heap.size)) (w.alloc (.map #[] 0)) := by
  simp [Instr.makeMap, run_underlying Tryz.underlying75, asInt, asIntOf]
theorem placesOf_any (ds : List Df) (hnew : ∀ (k : Nat) (d : Df), ds[k]? = some d → lk (numb ((ds.take k).map (·.nm)) 0) d.nm = none) (v : Value) (O : Nat → Prop) (W : World) (hO : ∀ j, O j → j < W.heap.size) (h : DV W O v ds) :
    Calls Tryz.prog 31 #[v] W fun e w' => e = .returned (.map (some W.heap.size)) ∧ Below W.heap.size W w' ∧ MP w' W.heap.size (numb (ds.map (·.nm)) 0) := by
  obtain ⟨p, c, rfl, hl, hp⟩ := h
  obtain ⟨W0, hW0⟩ : ∃ W0, W.alloc (.map #[] 0) = W0 := ⟨_, rfl⟩
  have hB : Below W.heap.size W W0 := by rw [← hW0]; exact (Below.refl _ _).alloc (Nat.le_refl _) _
  have v0 : MP W0 W.heap.size [] := by rw [← hW0]; exact MP.made W
  have HV := hid (And.intro v0 hB)
  clear v0 hB
  have hmm := run_mk .i64
  go_enter Tryz.func31, Tryz.ntmps31
  go_wp2
  clear hW0 hmm
  go_loopw [11] (fun ix wr => ∃ k : Nat, k ≤ ds.length ∧ ix = .int .i64 (k : Int) ∧ Below W.heap.size W wr ∧ MP wr W.heap.size (numb ((ds.take k).map (·.nm)) 0)) (fun ix _ => ds.length - (intOf ix).toNat)
  case atStart => exact ⟨0, by omega, rfl, HV.out.2, HV.out.1⟩
  case round =>
    obtain ⟨k, hk, rfl, hb, hM⟩ := hrel
    by_cases hlt : k < ds.length
    · have i1 : (k : Int) < ds.length := by omega
      have ea := List.getElem?_eq_getElem hlt
      generalize ds[k] = d at *
      obtain ⟨b, o, rfl, hOb, bv, hcl, hN⟩ := hp k d ea
      obtain ⟨q, cq, rfl, _, _⟩ := hN.ex
      have k1 := hb.block b (hO b hOb)
      obtain ⟨g0, g1, g2, g3, g4, g5⟩ := cells6 fun j x hx => (World.cell?_of_block (w := W) (a := ⟨b, o + k * 6 + j, none⟩) k1).trans (hcl j x hx)
      obtain ⟨W2, hW2⟩ : ∃ W2, wr.alloc (.cells #[.int .i64 d.k, .string d.nm, .int .u16 d.v, .slice q d.body.length cq, .int .i64 d.p.1, .int .i64 d.p.2] 27) = W2 := ⟨_, rfl⟩
      have z2 : Below wr.heap.size wr W2 := by rw [← hW2]; exact (Below.refl _ _).alloc (Nat.le_refl _) _
      have v2 : W2.heap[wr.heap.size]? = some (.cells (dfc d (.slice q d.body.length cq)).toArray 27 (0, 0)) := by rw [← hW2]; exact heap_alloc_new wr _
      have hB2 : Below W.heap.size W W2 := hb.trans (z2.mono hb.size)
      obtain ⟨x0, x1, x2, x3, x4, x5⟩ := df_cells v2
      have hM2 : MP W2 W.heap.size (numb ((ds.take k).map (·.nm)) 0) := hM.below z2 hM.lt
      have hput := run_put W2 W.heap.size d.nm (k : Int) _ hM2 (hnew k d ea)
      have hM4 := hM2.put d.nm (k : Int)
      rw [← take_any ds k d ea] at hput hM4
      have HB4 := hid (below_setBlock hB2 W.heap.size (Nat.le_refl _) (.map (ents 0 (numb ((ds.take (k + 1)).map (·.nm)) 0)).toArray (numb ((ds.take (k + 1)).map (·.nm)) 0).length))
      have HM4 := hid hM4
      generalize setBlock W2 W.heap.size (.map (ents 0 (numb ((ds.take (k + 1)).map (·.nm)) 0)).toArray (numb ((ds.take (k + 1)).map (·.nm)) 0).length) = w4 at *
      clear z2 v2 hb hB2 k1 hp hN hcl hO ea hM hM2 hk hM4 hnew
      go_wp2
      go_roundw
      case rel =>
        first
          | exact ⟨k + 1, by omega, by go_num, HB4.out, HM4.out⟩
          | ((repeat apply Exists.intro); refine ⟨⟨k + 1, by omega, ?_, HB4.out, HM4.out⟩, rfl⟩; go_num)
      case measure => simp [intOf]; omega
    · have i1 : ¬ (k : Int) < ds.length := by omega
      rw [List.take_of_length_le (by omega)] at hM
      have HM := hid hM
      clear hM hnew
      go_wp2
      go_ret
      exact ⟨rfl, hb, HM.out⟩
end Go.Proofs.YtlilefhmohkfkaaGreatDoor.E
/-! wordsOf. -/
namespace Go.Proofs.YtlilefhmohkfkaaGreatDoor.E
open Go.RowKit
open Go.Proofs
open Go.Proofs.YtlilefhmohkfkaaGreatDoor.Y (Nd Df Ps ndc dfc hid NV DV D1 cells6)
set_option linter.unusedVariables false
set_option linter.unusedSimpArgs false
set_option maxHeartbeats 2000000
set_option maxRecDepth 100000
theorem own_ge {W : World} {B : Nat} {e : TypeId} {size : Nat} {v : Value} {n : Nat} {xs : List Value} (h : W.ownsRow B e size v n xs) : ∀ g, v.ownBlock = some g → B ≤ g := by
  intro g hg
  rcases h.2 with ⟨rfl, _⟩ | ⟨g', cap, cur, rfl, h2, _⟩
  · cases hg
  · cases hg; exact h2
theorem own_is {W : World} {B : Nat} {e : TypeId} {size : Nat} {v : Value} {n : Nat} {xs : List Value} (h : W.ownsRow B e size v n xs) : ∃ p c, v = .slice p n c := by
  rcases h.2 with ⟨rfl, rfl⟩ | ⟨g', cap, cur, rfl, h2, _⟩
  · exact ⟨_, _, rfl⟩
  · exact ⟨_, _, rfl⟩
/-- An own row's cell. -/
theorem own_cell {W : World} {B : Nat} {e : TypeId} {size : Nat} {v : Value} {n : Nat} {xs : List Value} (h : W.ownsRow B e size v n xs) (hn : 0 < n) : ∃ g c, v = .slice (some ⟨g, 0, none⟩) n c ∧ B ≤ g ∧ g < W.heap.size ∧ ∀ (j : Nat) (x : Value), xs[j]? = some x → W.cell? ⟨g, j, none⟩ = some x := by
  rcases h.2 with ⟨rfl, rfl⟩ | ⟨g', cap, cur, rfl, h2, h3, _, _, h4, h5⟩
  · omega
  · refine ⟨g', cap, rfl, h2, S.lt_of h3, fun j x hj => ?_⟩
    rw [← h5, List.getElem?_take] at hj
    split at hj
    · exact S.cell_of W g' j cur.toList e x (by simpa using h3) hj
    · cases hj
theorem dfc_one (d : Df) (bv : Value) (h1 : ∃ p m c, bv = .slice p m c) : ∀ u ∈ dfc d bv, u.oneCell' = true := by
  obtain ⟨_, _, _, rfl⟩ := h1
  intro u hu
  simp only [dfc, List.mem_cons, List.not_mem_nil, or_false] at hu
  rcases hu with rfl | rfl | rfl | rfl | rfl | rfl <;> rfl
theorem infoDef : (Tryz.prog.info? 27).map (fun i => (i.zero, i.size, i.bytes)) = some (some (.agg #[.int .i64 0, .string ⟨#[]⟩, .int .u16 0, .slice none 0 0, .int .i64 0, .int .i64 0]), 6, 72) := by kernel_rfl
def wv (x : Df × Value) : List Value := dfc x.1 x.2
def isW (d : Df) : Bool := d.k == 1
theorem wordsOf_take (ds : List Df) (k : Nat) (d : Df) (h : ds[k]? = some d) : wordsOf (ds.take (k + 1)) = if isW d then wordsOf (ds.take k) ++ [d] else wordsOf (ds.take k) := by
  unfold wordsOf isW
  rw [List.take_add_one, h, List.filter_append]
  by_cases hd : (d.k == 1) = true <;> simp [hd]
theorem words_dv (W w : World) (O : Nat → Prop) (v : Value) (prs : List (Df × Value)) (B : Nat) (hB : W.heap.size ≤ B) (hO : ∀ j, O j → j < W.heap.size) (hb : Below W.heap.size W w) (hp : ∀ x ∈ prs, NV W O x.2 x.1.body) (hl : prs.length ≤ 1048576) (ho : w.ownsRow B 27 6 v prs.length (S.en wv prs)) :
    DV w (fun i => O i ∨ (W.heap.size ≤ i ∧ i < w.heap.size)) v (prs.map (·.1)) := by
  obtain ⟨p, c, rfl⟩ := own_is ho
  refine ⟨p, c, by rw [List.length_map], by rw [List.length_map]; omega, fun i d hi => ?_⟩
  rw [List.getElem?_map] at hi
  obtain ⟨x, hx, rfl⟩ : ∃ x, prs[i]? = some x ∧ x.1 = d := by
    cases e : prs[i]? with
    | none => rw [e] at hi; cases hi
    | some x => rw [e] at hi; exact ⟨x, rfl, by simpa using hi⟩
  have hlt := (List.getElem?_eq_some_iff.1 hx).1
  obtain ⟨g, c', e, h2, h3, h4⟩ := own_cell ho (by omega)
  cases e
  refine ⟨g, 0, rfl, .inr ⟨by omega, h3⟩, x.2, fun j y hy => ?_, (hp x (List.mem_of_getElem? hx)).kept (fun i hi => hb.block i (hO i hi)) fun i hi => .inl hi⟩
  have hj : j < 6 := by
    have := (List.getElem?_eq_some_iff.1 hy).1
    simpa [dfc] using this
  rw [Nat.zero_add]
  exact h4 _ _ ((S.en_get (e := wv) (s := 6) (fun a => rfl) prs i j x hx hj).trans hy)
theorem wordsOf_any (ds : List Df) (hd : ds.length ≤ 1048576) (dv bkv : Value) (hbk : ∃ p n c, bkv = .slice p n c) (O : Nat → Prop) (W : World) (hO : ∀ j, O j → j < W.heap.size) (h : DV W O dv ds) :
    Calls Tryz.prog 29 #[.agg #[dv, bkv]] W fun e w' => ∃ v, e = .returned v ∧ Below W.heap.size W w' ∧ DV w' (fun i => O i ∨ (W.heap.size ≤ i ∧ i < w'.heap.size)) v (wordsOf ds) := by
  obtain ⟨p, c, rfl, hl, hp⟩ := h
  obtain ⟨bp, bn, bc, rfl⟩ := hbk
  obtain ⟨W0, hW0⟩ : ∃ W0, W.alloc (.cells #[.slice p ds.length c, .slice bp bn bc] 35) = W0 := ⟨_, rfl⟩
  have hB : Below W.heap.size W W0 := by rw [← hW0]; exact (Below.refl _ _).alloc (Nat.le_refl _) _
  have v0 : W0.heap[W.heap.size]? = some (.cells [.slice p ds.length c, .slice bp bn bc].toArray 35 (0, 0)) := by rw [← hW0]; exact heap_alloc_new W _
  have c0 := S.cell_of W0 _ 0 _ 35 _ v0 rfl
  have HV := hid (And.intro v0 hB)
  clear v0 hB
  go_enter Tryz.func29, Tryz.ntmps29
  go_wp2
  clear hW0 c0
  go_loopw [3, 9] (fun wo ix wr => ∃ (k : Nat) (prs : List (Df × Value)), k ≤ ds.length ∧ ix = .int .i64 (k : Int) ∧ Below W.heap.size W wr ∧ prs.map (·.1) = wordsOf (ds.take k) ∧ (∀ x ∈ prs, NV W O x.2 x.1.body) ∧ wr.ownsRow W.heap.size 27 6 wo prs.length (S.en wv prs)) (fun _ ix _ => ds.length - (intOf ix).toNat)
  case atStart => exact ⟨0, [], by omega, rfl, HV.out.2, rfl, by simp, World.ownsRow_nil _ _ _ _⟩
  case round =>
    obtain ⟨k, prs, hk, rfl, hb, hE, hN, hR⟩ := hrel
    have hpl : prs.length ≤ k := by
      have := congrArg List.length hE
      rw [List.length_map] at this
      rw [this]
      exact Nat.le_trans (List.length_filter_le _ _) (by rw [List.length_take]; omega)
    obtain ⟨p3, c3, rfl⟩ := own_is hR
    by_cases hlt : k < ds.length
    · have i1 : (k : Int) < ds.length := by omega
      have ea := List.getElem?_eq_getElem hlt
      generalize ds[k] = d at *
      obtain ⟨b, o, rfl, hOb, bv, hcl, hNv⟩ := hp k d ea
      obtain ⟨q, cq, rfl, _, _⟩ := id hNv.ex
      have k1 := hb.block b (hO b hOb)
      obtain ⟨g0, g1, g2, g3, g4, g5⟩ := cells6 fun j x hx => (World.cell?_of_block (w := W) (a := ⟨b, o + k * 6 + j, none⟩) k1).trans (hcl j x hx)
      obtain ⟨W2, hW2⟩ : ∃ W2, wr.alloc (.cells #[.int .i64 d.k, .string d.nm, .int .u16 d.v, .slice q d.body.length cq, .int .i64 d.p.1, .int .i64 d.p.2] 27) = W2 := ⟨_, rfl⟩
      have z2 : Below wr.heap.size wr W2 := by rw [← hW2]; exact (Below.refl _ _).alloc (Nat.le_refl _) _
      have v2 : W2.heap[wr.heap.size]? = some (.cells (dfc d (.slice q d.body.length cq)).toArray 27 (0, 0)) := by rw [← hW2]; exact heap_alloc_new wr _
      have hB2 : Below W.heap.size W W2 := hb.trans (z2.mono hb.size)
      obtain ⟨x0, x1, x2, x3, x4, x5⟩ := df_cells v2
      have hR2 : W2.ownsRow W.heap.size 27 6 (.slice p3 prs.length c3) prs.length (S.en wv prs) := S.own_kept hR fun g _ hg => z2.block g hg
      have HT := hid (wordsOf_take ds k d ea)
      have HH := hid (And.intro hB2 (And.intro hE (And.intro hN hNv)))
      clear z2 v2 hb k1 hcl ea hB2 hE hN hNv hR hp hO
      unfold isW at HT
      by_cases hz : d.k = 1
      · have hz1 : (d.k == 1) = true := by simpa using hz
        rw [hz1, if_pos rfl] at HT
        obtain ⟨y4, hy4⟩ : ∃ y4, W2.alloc (.cells #[.int .i64 d.k, .string d.nm, .int .u16 d.v, .slice q d.body.length cq, .int .i64 d.p.1, .int .i64 d.p.2] 27) = y4 := ⟨_, rfl⟩
        have k4 : Below W2.heap.size W2 y4 := by rw [← hy4]; exact (Below.refl _ _).alloc (Nat.le_refl _) _
        have v4 : y4.heap[W2.heap.size]? = some (.cells (dfc d (.slice q d.body.length cq)).toArray 27 (0, 0)) := by rw [← hy4]; exact heap_alloc_new W2 _
        have hB4 : Below W.heap.size W y4 := HH.out.1.trans (k4.mono HH.out.1.size)
        have oR : y4.ownsRow W.heap.size 27 6 (.slice p3 prs.length c3) prs.length (S.en wv prs) := S.own_kept hR2 fun g _ hg => k4.block g hg
        have hcs : S.Cs y4 (.slice (some ⟨W2.heap.size, 0, none⟩) 1 1) 6 1 (dfc d (.slice q d.body.length cq)) := .inr ⟨_, _, rfl, rfl, fun j u hj => by rw [Addr.add_lit, Nat.zero_add]; exact S.cell_of y4 _ j _ _ u v4 hj, dfc_one _ _ ⟨_, _, _, rfl⟩⟩
        have hsz4 : W.heap.size ≤ y4.heap.size := hB4.size
        have HB4 := hid hB4
        have HY := hid hy4
        clear k4 v4 hB4 hy4 hR2 hz
        go_wp2_with (rw [HY.out]; refine S.wpList_append_row y4 rfl _ _ 32 27 _ 6 72 Tryz.underlying32 infoDef rfl (by decide) rfl W.heap.size (.slice p3 prs.length c3) prs.length (S.en wv prs) rfl oR _ 1 _ rfl hcs (by unfold S.room; omega) (by unfold maxLen; omega) hsz4 (fun v5 w5 hr1 hg1 => ?_); have HG := hid (And.intro hr1 hg1); clear hr1 hg1)
        have hB5 : Below W.heap.size W w5 := HG.out.2.belowAll (own_ge oR) HB4.out (Nat.le_refl _)
        refine ⟨⟨k + 1, prs ++ [(d, .slice q d.body.length cq)], by omega, by rw [Int.natCast_add]; rfl, hB5, by rw [List.map_append, HH.out.2.1, HT.out]; rfl, fun x hx => ?_, ?_⟩, by simp only [intOf]; omega⟩
        · rcases List.mem_append.1 hx with hx | hx
          · exact HH.out.2.2.1 x hx
          · rw [List.mem_singleton] at hx
            subst hx
            exact HH.out.2.2.2
        · rw [List.length_append, S.en_append]
          have e1 : S.en wv [(d, Value.slice q d.body.length cq)] = dfc d (.slice q d.body.length cq) := by simp [S.en, wv]
          rw [e1]
          exact HG.out.1
      · have hz1 : (d.k == 1) = false := by simpa using hz
        rw [hz1] at HT
        have HR := hid hR2
        clear hR2 hz
        go_wp2
        go_roundw
        case rel =>
          first
            | exact ⟨k + 1, prs, by omega, by go_num, HH.out.1, by rw [HT.out]; exact HH.out.2.1, HH.out.2.2.1, HR.out⟩
            | ((repeat apply Exists.intro); refine ⟨⟨k + 1, prs, by omega, ?_, HH.out.1, by rw [HT.out]; exact HH.out.2.1, HH.out.2.2.1, HR.out⟩, rfl⟩; go_num)
        case measure => simp [intOf]; omega
    · have i1 : ¬ (k : Int) < ds.length := by omega
      rw [List.take_of_length_le (by omega)] at hE
      have hdv := words_dv W wr O _ prs W.heap.size (Nat.le_refl _) hO hb hN (by omega) hR
      rw [hE] at hdv
      have HD := hid hdv
      clear hdv hE hN hR
      go_wp2
      go_ret
      exact ⟨_, rfl, hb, HD.out⟩
end Go.Proofs.YtlilefhmohkfkaaGreatDoor.E
