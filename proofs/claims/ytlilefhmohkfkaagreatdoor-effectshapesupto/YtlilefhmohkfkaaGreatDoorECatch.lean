import Derived.Test.YtlilefhmohkfkaaGreatDoorEWord
import Derived.Defers
import Derived.Recover
namespace Go.Proofs.YtlilefhmohkfkaaGreatDoor.E
open Go.RowKit
open Go.Proofs
open Go.Proofs.YtlilefhmohkfkaaGreatDoor.Y (Nd Df Ps ndc dfc hid)
set_option linter.unusedVariables false
set_option linter.unusedSimpArgs false
set_option maxHeartbeats 2000000
set_option maxRecDepth 100000
theorem sizeT : (Tryz.prog.info? 47).map (·.size) = some 9 := by kernel_rfl
theorem sizeF : (Tryz.prog.info? 109).map (·.size) = some 3 := by kernel_rfl
theorem Gw.rowG {g : Nat} {A B : World} (h : Gw g A B) (c : Array Value) : Gw g A (B.setRow g c) :=
 ⟨h.os, h.tape, h.output, by rw [size_setRow]; exact h.size, fun k hk hg => (setRow_other B g k c hg).trans (h.block k hk hg)⟩
theorem row_below {n : Nat} {A B : World} (h : Below n A B) (b : Nat) (hb : n <= b) (c : Array Value) : Below n A (B.setRow b c) :=
 ⟨h.os, h.tape, h.output, by rw [size_setRow]; exact h.size, fun k hk => (setRow_other B b k c (by omega)).trans (h.block k hk)⟩
theorem run_assert (W : World) (v : Value) : (Instr.typeAssert (.iface 109 v) 20 109 false).run Tryz.prog W = .ok v W := by
 simp [Instr.typeAssert, run_underlying Tryz.underlying109]
theorem catch_idle (p q : Addr) (w : World) :
  CallsD Tryz.prog 56 #[.pointer (some p), .pointer (some q)] .returning w fun e u' w' => e = .returned (.tuple #[]) /\ u' = .returning /\ w' = w := by
 refine callsD_of_wpS Tryz.func56 rfl fun c₀ cs hu => ?_
 apply wpS_seq
 apply wpS_region
 simp [wpOpsS, go_sem, recoverD, hu, Tryz.ntmps56, Exit.thenS]
 have ht : (#[Value.pointer (some p), Value.pointer (some q)] ++ ((Array.replicate 14 undef).setIfInBounds 2 Value.nilIface).setIfInBounds 0 Value.nilIface) = #[Value.pointer (some p), Value.pointer (some q), Value.nilIface, undef, Value.nilIface, undef, undef, undef, undef, undef, undef, undef, undef, undef, undef, undef] := rfl
 rw [ht]
 refine wpS_of_wp ?_
 go_wp2
 clear ht
 cases c₀
 simp_all [bodyPostS, results, Tryz.results56]
theorem catch_flt (d : Df) (bv : Value) (t : Ty) (er : Er) (b b' : Nat) (w : World) (hne : b ≠ b') (h : w.heap[b]? = some (.cells (dfc d bv).toArray 27 (0, 0))) (h' : w.heap[b']? = some (.cells (tyc t).toArray 47 (0, 0))) :
  CallsD Tryz.prog 56 #[.pointer (some ⟨b, 0, none⟩), .pointer (some ⟨b', 0, none⟩)] (.panicking (flt er)) w fun e u' w' =>
   e = .returned (.tuple #[]) /\ u' = .panicking [{ v := .iface 109 (.agg #[.int .i64 er.1, .int .i64 er.2.1, .int .i64 er.2.2]), recovered := true }] /\ w'.heap[b']? = some (.cells (tyc ⟨d.nm, 0, 0, 0, 0, false, er.1, er.2⟩).toArray 47 (0, 0)) /\ Gw b' w w' := by
 unfold flt
 refine callsD_of_wpS Tryz.func56 rfl fun c₀ cs hu => ?_
 apply wpS_seq
 apply wpS_region
 simp [wpOpsS, go_sem, recoverD, hu, Tryz.ntmps56, Exit.thenS]
 generalize hv : Value.agg #[.int .i64 er.1, .int .i64 er.2.1, .int .i64 er.2.2] = v
 have ht : (#[Value.pointer (some ⟨b, 0, none⟩), Value.pointer (some ⟨b', 0, none⟩)] ++ ((Array.replicate 14 undef).setIfInBounds 2 (Value.iface 109 v)).setIfInBounds 0 (Value.iface 109 v)) = #[Value.pointer (some ⟨b, 0, none⟩), Value.pointer (some ⟨b', 0, none⟩), Value.iface 109 v, undef, Value.iface 109 v, undef, undef, undef, undef, undef, undef, undef, undef, undef, undef, undef] := rfl
 rw [ht, <- hv]
 clear hv ht v
 refine wpS_of_wp ?_
 have ta := fun W => run_assert W (.agg #[.int .i64 er.1, .int .i64 er.2.1, .int .i64 er.2.2])
 obtain ⟨c0, c1, c2, c3, c4, c5⟩ := df_cells h
 obtain ⟨W1, hW1⟩ : ∃ W1, w.alloc (.cells #[.int .i64 0, .int .i64 0, .int .i64 0] 109) = W1 := ⟨_, rfl⟩
 have hB : Below w.heap.size w W1 := by rw [<- hW1]; exact (Below.refl _ _).alloc (Nat.le_refl _) _
 have hf : W1.heap[w.heap.size]? = some (.cells #[.int .i64 0, .int .i64 0, .int .i64 0] 109 (0, 0)) := by rw [<- hW1]; exact heap_alloc_new w _
 have HS := hid (And.intro hB (And.intro h h'))
 clear h h' hB
 go_upto_region 3 with (refine wpList_store_row rfl 109 _ _ rfl w.heap.size _ rfl rfl 109 _ hf (by exact sizeF) (by rfl) (by simp [Value.oneCell']) ?_)
 have hf2 := setRow_heap W1 w.heap.size _ #[.int .i64 er.1, .int .i64 er.2.1, .int .i64 er.2.2] _ _ hf
 have hB2 : Below w.heap.size w (W1.setRow w.heap.size #[.int .i64 er.1, .int .i64 er.2.1, .int .i64 er.2.2]) := row_below HS.out.1 _ (Nat.le_refl _) _
 clear hf hW1 c0 c1 c2 c3 c4 c5 ta
 generalize W1.setRow w.heap.size #[.int .i64 er.1, .int .i64 er.2.1, .int .i64 er.2.2] = W2 at *
 have h2 := (hB2.block _ (S.lt_of HS.out.2.1)).trans HS.out.2.1
 have h2' := (hB2.block _ (S.lt_of HS.out.2.2)).trans HS.out.2.2
 obtain ⟨c0, c1, c2, c3, c4, c5⟩ := df_cells h2
 have p0 := S.cell_of W2 w.heap.size 0 _ 109 _ hf2 rfl
 have p1 := S.cell_of W2 w.heap.size 1 _ 109 _ hf2 rfl
 have p2 := S.cell_of W2 w.heap.size 2 _ 109 _ hf2 rfl
 go_wp2_with (refine wpList_store_row rfl 47 _ _ rfl b' _ rfl rfl 47 _ h2' (by exact sizeT) (by rfl) (by simp [Value.oneCell']) ?_)
 have h3 := setRow_heap W2 b' _ (tyc ⟨d.nm, 0, 0, 0, 0, false, er.1, er.2⟩).toArray _ _ h2'
 have hG : Gw b' w (W2.setRow b' (tyc ⟨d.nm, 0, 0, 0, 0, false, er.1, er.2⟩).toArray) := (Gw.of hB2).trans (Gw.rowG (Gw.refl _ _) _)
 refine (?_ : bodyPostS Tryz.prog Tryz.f56 c₀ cs _ _ _ _ _)
 exact ⟨rfl, _, rfl, _, results_none rfl _ _ _, rfl, rfl, h3, hG⟩
set_option maxHeartbeats 2000000
set_option maxRecDepth 100000
open Y (NV cells6)
open R (En cks MP)
def TO (W : World) (t : Ty) (e : Ending) (w' : World) : Prop := e = .returned (.agg (tyc t).toArray) /\ Below W.heap.size W w'
def dfr (w : World) : List Deferred := [{ target := Target.fn (Fn.func 56) #[.pointer (some ⟨w.heap.size, 0, none⟩), .pointer (some ⟨w.heap.size + 1, 0, none⟩)], args := #[] }]
theorem door_res {T : Array Value} {b : Nat} {t : Ty} {W : World} (ht : T.getD 6 undef = .pointer (some ⟨b, 0, none⟩)) (h : W.heap[b]? = some (.cells (tyc t).toArray 47 (0, 0))) : (results Tryz.f46 T).run Tryz.prog W = .ok (.agg (tyc t).toArray) W := by
 have e : (results Tryz.f46 T).run Tryz.prog W = ((asAddr (T.getD 6 undef)).run Tryz.prog W).andThen fun a w₁ => (loadVar 47 a).run Tryz.prog w₁ := by
  simp only [results, Tryz.results46]
  simp [Sem.run_bind, Result.andThen]
 rw [e, ht]
 simp [asAddr, run_loadVar_row W b _ 47 _ _ _ h Tryz.underlying47 rfl sizeT]
theorem door_panic (w W : World) (d : Df) (bv : Value) (t : Ty) (er : Er) (T : Array Value) (ht : T.getD 6 undef = .pointer (some ⟨w.heap.size + 1, 0, none⟩))
  (h0 : W.heap[w.heap.size]? = some (.cells (dfc d bv).toArray 27 (0, 0))) (h1 : W.heap[w.heap.size + 1]? = some (.cells (tyc t).toArray 47 (0, 0))) (hB : Below w.heap.size w W) :
  bodyPostD Tryz.prog Tryz.f46 (TO w ⟨d.nm, 0, 0, 0, 0, false, er.1, er.2⟩) (Exit.panic (flt er)) { tmps := T, defers := dfr w } W := by
 unfold dfr
 refine leaves_cons (f := 56) (args := #[.pointer (some ⟨w.heap.size, 0, none⟩), .pointer (some ⟨w.heap.size + 1, 0, none⟩)]) (by simp) (by simp [go_sem]) ?_
 refine (catch_flt d bv t er w.heap.size (w.heap.size + 1) W (by omega) h0 h1).mono ?_
 rintro e u' w'' ⟨rfl, rfl, g0, g1⟩
 exact ⟨_, door_res ht g0, rfl, Gw.below hB g1 (by omega)⟩
theorem door_ret (w W : World) (t : Ty) (T : Array Value) (ht : T.getD 6 undef = .pointer (some ⟨w.heap.size + 1, 0, none⟩))
  (h1 : W.heap[w.heap.size + 1]? = some (.cells (tyc t).toArray 47 (0, 0))) (hB : Below w.heap.size w W) :
  bodyPostD Tryz.prog Tryz.f46 (TO w t) Exit.ret { tmps := T, defers := dfr w } W := by
 unfold dfr
 refine leaves_cons (f := 56) (args := #[.pointer (some ⟨w.heap.size, 0, none⟩), .pointer (some ⟨w.heap.size + 1, 0, none⟩)]) (by simp) (by simp [go_sem]) ?_
 refine (catch_idle ⟨w.heap.size, 0, none⟩ ⟨w.heap.size + 1, 0, none⟩ W).mono ?_
 rintro e u' w'' ⟨rfl, rfl, rfl⟩
 exact ⟨_, door_res ht h1, rfl, hB⟩
theorem leaves_congr {fn : Func} {T T' : Array Value} {R : Ending -> World -> Prop} (h : results fn T = results fn T') : ∀ (ds : List Deferred) (u : FrameMode) (w : World), Leaves Tryz.prog fn T R ds u w -> Leaves Tryz.prog fn T' R ds u w
 | [], .returning, w, hL => by obtain ⟨v, h1, h2⟩ := hL; exact ⟨v, h ▸ h1, h2⟩
 | [], .panicking c, w, hL => hL
 | [], .run, w, hL => hL
 | d :: ds, u, w, hL => by
  obtain ⟨h1, fv, cap, f, args, h2, h3, h4⟩ := hL
  refine ⟨h1, fv, cap, f, args, h2, h3, h4.mono ?_⟩
  intro e u' w' he
  cases e with
  | returned v => exact leaves_congr h ds _ _ he
  | panicked c => exact leaves_congr h ds _ _ he
  | outgrown => exact he
theorem res_put (T : Array Value) (d : Nat) (v : Value) (h6 : d ≠ 6) : results Tryz.f46 (T.setIfInBounds d v) = results Tryz.f46 T := by
 have e6 : (T.setIfInBounds d v)[6]? = T[6]? := Array.getElem?_setIfInBounds_ne h6
 simp [results, Tryz.results46, e6]
theorem put_door {R : Ending -> World -> Prop} {c : List PanicEntry} {a : Act} {w : World} (d : Nat) (h6 : d ≠ 6) (v : Value) (h : bodyPostD Tryz.prog Tryz.f46 R (.panic c) (a.put (some d) v) w) : bodyPostD Tryz.prog Tryz.f46 R (.panic c) a w :=
 leaves_congr (res_put a.tmps d v h6) _ _ _ h
theorem typedOf_any (at_ : En) (tl : List Ty) (names : List ByteArray) (qn : QN at_ tl names) (d : Df) (bv : Value) (O : Nat -> Prop) (mb : Nat) (av : Value) (W : World) (hO : ∀ j, O j -> j < W.heap.size) (hV : NV W O bv d.body) (hck : cks names d.body (0, false) = 0) (hM : MP W mb at_) (hT : TL W av tl) (hal : tb av < W.heap.size) :
  Calls Tryz.prog 46 #[.agg (dfc d bv).toArray, .map (some mb), av] W (TO W (tyOf (known at_ tl) d)) := by
 obtain ⟨q, cq, rfl, _, _⟩ := hV.ex
 have hmf : ∀ (fn : Fn) (first cap : Array Value) (w : World), (Instr.makeFunc fn first cap).run Tryz.prog w = .ok (.func fn first cap) w := fun _ _ _ _ => rfl
 obtain ⟨W0, hW0⟩ : ∃ W0, W.alloc (.cells #[.int .i64 d.k, .string d.nm, .int .u16 d.v, .slice q d.body.length cq, .int .i64 d.p.1, .int .i64 d.p.2] 27) = W0 := ⟨_, rfl⟩
 obtain ⟨W1, hW1⟩ : ∃ W1, W0.alloc (.cells #[.string ⟨#[]⟩, .int .i64 0, .int .i64 0, .int .i64 0, .int .i64 0, .bool false, .int .i64 0, .int .i64 0, .int .i64 0] 47) = W1 := ⟨_, rfl⟩
 have hs0 : W0.heap.size = W.heap.size + 1 := by rw [<- hW0]; simp
 have hs1 : W1.heap.size = W.heap.size + 2 := by rw [<- hW1]; simp [hs0]
 have hB1 : Below W.heap.size W W1 := by rw [<- hW1, <- hW0]; exact ((Below.refl _ _).alloc (Nat.le_refl _) _).alloc (by simp) _
 have k1 : W1.heap[W.heap.size]? = some (.cells (dfc d (.slice q d.body.length cq)).toArray 27 (0, 0)) := by rw [<- hW1]; exact (Below.heap_alloc _ _ _ (by omega)).trans (by rw [<- hW0]; exact heap_alloc_new W _)
 have k2 : W1.heap[W0.heap.size]? = some (.cells (tyc ⟨⟨#[]⟩, 0, 0, 0, 0, false, 0, (0, 0)⟩).toArray 47 (0, 0)) := by rw [<- hW1]; exact heap_alloc_new W0 _
 obtain ⟨ab, ac, rfl, hl, hc⟩ := id hT
 obtain ⟨W2, hW2⟩ : ∃ W2, W1.alloc (.cells #[.map (some mb), .slice (some ⟨ab, 0, none⟩) tl.length ac, .int .i64 0, .int .i64 0, .int .i64 0, .int .i64 0, .bool true, .int .i64 0] 112) = W2 := ⟨_, rfl⟩
 have zb : Below W1.heap.size W1 W2 := by rw [<- hW2]; exact (Below.refl _ _).alloc (Nat.le_refl _) _
 have hE : EW W2 W1.heap.size (.map (some mb)) (.slice (some ⟨ab, 0, none⟩) tl.length ac) w0 := by rw [<- hW2]; exact heap_alloc_new W1 _
 have hB2 : Below W.heap.size W W2 := ⟨zb.os.trans hB1.os, zb.tape.trans hB1.tape, zb.output.trans hB1.output, Nat.le_trans hB1.size zb.size, fun k hk => (zb.block k (by omega)).trans (hB1.block k hk)⟩
 have l1 : W2.heap[W.heap.size]? = some (.cells (dfc d (.slice q d.body.length cq)).toArray 27 (0, 0)) := (zb.block _ (by omega)).trans k1
 have l2 : W2.heap[W0.heap.size]? = some (.cells (tyc ⟨⟨#[]⟩, 0, 0, 0, 0, false, 0, (0, 0)⟩).toArray 47 (0, 0)) := (zb.block _ (by omega)).trans k2
 rw [hs0] at k2 l2
 have hs1' : W1.heap.size = W.heap.size + 1 + 1 := hs1
 rw [hs1'] at hE
 have e2 : (((W.alloc (.cells (dfc d (.slice q d.body.length cq)).toArray 27)).alloc (.cells #[.string ⟨#[]⟩, .int .i64 0, .int .i64 0, .int .i64 0, .int .i64 0, .bool false, .int .i64 0, .int .i64 0, .int .i64 0] 47)).alloc (.cells #[.map (some mb), .slice (some ⟨ab, 0, none⟩) tl.length ac, .int .i64 0, .int .i64 0, .int .i64 0, .int .i64 0, .bool true, .int .i64 0] 112)) = W2 := by rw [<- hW2, <- hW1, <- hW0]; rfl
 have hO2 : ∀ j, O j -> j < W2.drew.heap.size := fun j hj => Nat.lt_of_lt_of_le (hO j hj) hB2.size
 have hG2 : Gw (W.heap.size + 1 + 1) W W2.drew := Gw.of hB2.drew
 have hOg : ¬ O (W.heap.size + 1 + 1) := fun hj => by have := hO _ hj; omega
 have hLU : LU W2.drew (W.heap.size + 1 + 1) (.map (some mb)) (.slice (some ⟨ab, 0, none⟩) tl.length ac) at_ tl :=
  ⟨⟨mb, rfl, hM.kept (hG2.block mb hM.lt (by have := hM.lt; omega)), by have := hM.lt; omega⟩, hT.kept (hG2.block _ hal (by omega)), by omega, Nat.lt_of_lt_of_le hal hG2.size⟩
 have hcl := word_any at_ tl names qn d _ O (W.heap.size + 1 + 1) _ _ W2.drew hO2 hOg (nv_gw hV hG2 hO hOg) hck hE hLU
 have HS := hid (And.intro l1 (And.intro l2 (And.intro hB2 hs1')))
 have HR : Y.Hd (tyOf (known at_ tl) d = match word (known at_ tl) d with | .error e => ⟨d.nm, 0, 0, 0, 0, false, e.1, e.2⟩ | .ok w => ⟨d.nm, w.i, if w.nv then 0 else w.i + w.lf, w.d, w.r, w.nv, 0, (0, 0)⟩) := ⟨rfl⟩
 generalize tyOf (known at_ tl) d = R at *
 generalize word (known at_ tl) d = G at *
 clear k1 k2 l1 l2 hB1 hB2 zb hO2 hG2 hOg hLU hV hck hE hM hT hal hc hl hO qn hs0 hs1 hs1' hW0 hW1 hW2
 go_enter_defers Tryz.func46, Tryz.ntmps46
 go_upto_region 3 with fail
 clear e2 hmf
 have t1 : (fun wz : World => wz.heap[W.heap.size]? = some (.cells (dfc d (.slice q d.body.length cq)).toArray 27 (0, 0))) W2.drew := HS.out.1
 refine wp_region_drop [6] (S := fun wz : World => wz.heap[W.heap.size]? = some (.cells (dfc d (.slice q d.body.length cq)).toArray 27 (0, 0))) (by kernel_rfl) t1 (fun hHeld => ?_)
 have HS2 : Y.Hd (W2.drew.heap[W.heap.size]? = some (.cells (dfc d (.slice q d.body.length cq)).toArray 27 (0, 0)) /\ W2.drew.heap[W.heap.size + 1]? = some (.cells (tyc ⟨⟨#[]⟩, 0, 0, 0, 0, false, 0, (0, 0)⟩).toArray 47 (0, 0)) /\ Below W.heap.size W W2.drew) := ⟨HS.out.1, HS.out.2.1, HS.out.2.2.1.drew⟩
 generalize W2.drew = y0 at *
 clear t1 HS
 refine wpD_takeP (i := 0) (v := ?_) rfl (by kernel_rfl) (by kernel_rfl) (by kernel_rfl) (by kernel_rfl) (fun c a w h => put_door _ (by decide) _ h) (Or.inl ⟨by rfl, ?_⟩) (fun _ => hHeld) ?_
 rotate_left
 ·(intro w hSw; clear hSw; go_simp; try with_reducible rfl)
 simp only [E.pts]
 refine wpD_takeT (i := 1) (v := ?_) rfl (by kernel_rfl) (by kernel_rfl) (by kernel_rfl) (by kernel_rfl) (by kernel_rfl) (by kernel_rfl) (fun c a w h => put_door _ (by decide) _ h) (Or.inl ⟨by rfl, ?_⟩) hHeld ?_
 rotate_left
 ·(intro w hSw; (try dsimp only at hSw); obtain ⟨c0, c1, c2, c3, c4, c5⟩ := df_cells hSw; go_simp; try with_reducible rfl)
 simp only [E.pts]
 refine wpD_takeP (i := 2) (v := ?_) rfl (by kernel_rfl) (by kernel_rfl) (by kernel_rfl) (by kernel_rfl) (fun c a w h => put_door _ (by decide) _ h) (Or.inl ⟨by rfl, ?_⟩) (fun _ => hHeld) ?_
 rotate_left
 ·(intro w hSw; clear hSw; go_simp; try with_reducible rfl)
 simp only [E.pts]
 refine wpD_takeT (i := 3) (v := ?_) rfl (by kernel_rfl) (by kernel_rfl) (by kernel_rfl) (by kernel_rfl) (by kernel_rfl) (by kernel_rfl) (fun c a w h => put_door _ (by decide) _ h) (Or.inl ⟨by rfl, ?_⟩) hHeld ?_
 rotate_left
 ·(intro w hSw; (try dsimp only at hSw); obtain ⟨c0, c1, c2, c3, c4, c5⟩ := df_cells hSw; go_simp; try with_reducible rfl)
 simp only [E.pts]
 refine wpD_ready (rs := [4]) (by kernel_rfl) (by simp) ?_
 refine AllD.cons rfl (fun K hK => ?_) AllD.nil
 go_simp
 refine hcl.mono ?_
 intro e y1 hp
 clear hcl
 cases G with
 | error er =>
  obtain ⟨rfl, hG⟩ := hp
  have hB3 := Gw.below HS2.out.2.2 hG (by omega)
  rw [HR.out]
  exact door_panic W y1 d _ _ er _ rfl (hG.keep HS2.out.1 (by omega)) (hG.keep HS2.out.2.1 (by omega)) hB3
 | ok w =>
 obtain ⟨oo, hoo⟩ : ∃ oo : Int, oo = (if w.nv then 0 else w.i + w.lf) := ⟨_, rfl⟩
 replace HR : Y.Hd (R = ⟨d.nm, w.i, oo, w.d, w.r, w.nv, 0, (0, 0)⟩) := ⟨by rw [HR.out, hoo]⟩
 replace hp : e = .returned (.agg #[.int .i64 w.i, .int .i64 oo, .int .i64 w.d, .int .i64 w.r, .bool w.nv]) /\ Gw (W.heap.size + 1 + 1) y0 y1 := by rw [hoo]; exact hp
 clear hoo
 obtain ⟨rfl, hG⟩ := hp
 have hB3 := Gw.below HS2.out.2.2 hG (by omega)
 have hd3 := hG.keep HS2.out.1 (by omega)
 have HT3 := hid (And.intro (hG.keep HS2.out.2.1 (by omega)) hB3)
 clear hG hB3 HS2
 refine hK.out _ _ hd3 (fun hHeld => ?_)
 clear hK K
 try simp only [E.pts]
 refine wpD_takeP (i := 5) (v := ?_) rfl (by kernel_rfl) (by kernel_rfl) (by kernel_rfl) (by kernel_rfl) (fun c a w h => put_door _ (by decide) _ h) (Or.inl ⟨by rfl, ?_⟩) (fun _ => hHeld) ?_
 rotate_left
 ·(intro w hSw; clear hSw; go_simp; try with_reducible rfl)
 simp only [E.pts]
 have h4 := HT3.out.1
 refine wpD_ready (rs := [6]) (by kernel_rfl) (by simp) ?_
 refine AllD.late rfl (by kernel_rfl) (fun K hK => ?_)
 refine wp_store_row 47 _ _ rfl (W.heap.size + 1) _ rfl rfl 47 _ h4 (by exact sizeT) (by rfl) (by simp [Value.oneCell']) ?_
 refine hK.out _ _ ?_
 clear hK K
 refine wpD_done (by kernel_rfl) ?_ _
 simp only [Act.put]
 have h5 : (y1.setRow (W.heap.size + 1) (tyc ⟨d.nm, w.i, oo, w.d, w.r, w.nv, 0, (0, 0)⟩).toArray).heap[W.heap.size + 1]? = some (.cells (tyc ⟨d.nm, w.i, oo, w.d, w.r, w.nv, 0, (0, 0)⟩).toArray 47 (0, 0)) := setRow_heap y1 _ _ _ _ _ h4
 have hB5 : Below W.heap.size W (y1.setRow (W.heap.size + 1) (tyc ⟨d.nm, w.i, oo, w.d, w.r, w.nv, 0, (0, 0)⟩).toArray) := row_below HT3.out.2 _ (by omega) _
 clear hHeld h4 hd3 HT3
 unfold tyc at h5 hB5
 simp only at h5 hB5
 generalize y1.setRow (W.heap.size + 1) [.string d.nm, .int .i64 w.i, .int .i64 oo, .int .i64 w.d, .int .i64 w.r, .bool w.nv, .int .i64 0, .int .i64 0, .int .i64 0].toArray = y5 at *
 go_wp2_with fail
 rw [HR.out]
 exact door_ret W y5 ⟨d.nm, w.i, oo, w.d, w.r, w.nv, 0, (0, 0)⟩ _ rfl h5 hB5
end Go.Proofs.YtlilefhmohkfkaaGreatDoor.E
