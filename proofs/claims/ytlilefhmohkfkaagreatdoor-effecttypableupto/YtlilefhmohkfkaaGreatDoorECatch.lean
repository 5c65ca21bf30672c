import Derived.Test.YtlilefhmohkfkaaGreatDoorEWord
import Derived.Defers
import Derived.Recover
namespace Go.Proofs.YtlilefhmohkfkaaGreatDoor.E
open Go.RowKit
open Go.Proofs
open Go.Proofs.YtlilefhmohkfkaaGreatDoor.Y (Nd Df Ps ndc dfc hid)
set_option linter.unusedVariables false
set_option linter.unusedSimpArgs false
set_option maxHeartbeats 2000000
set_option maxRecDepth 100000
theorem sizeT : (Tryz.prog.info? 47).map (·.size) = some 9 := by kernel_rfl
theorem sizeF : (Tryz.prog.info? 109).map (·.size) = some 3 := by kernel_rfl
theorem Gw.rowG {g : Nat} {A B : World} (h : Gw g A B) (c : Array Value) : Gw g A (B.setRow g c) :=
 ⟨h.os, h.tape, h.output, by rw [size_setRow]; exact h.size, fun k hk hg => (setRow_other B g k c hg).trans (h.block k hk hg)⟩
theorem row_below {n : Nat} {A B : World} (h : Below n A B) (b : Nat) (hb : n <= b) (c : Array Value) : Below n A (B.setRow b c) :=
 ⟨h.os, h.tape, h.output, by rw [size_setRow]; exact h.size, fun k hk => (setRow_other B b k c (by omega)).trans (h.block k hk)⟩
theorem run_assert (W : World) (v : Value) : (Instr.typeAssert (.iface 109 v) 20 109 false).run Tryz.prog W = .ok v W := by
 simp [Instr.typeAssert, run_underlying Tryz.underlying109]
theorem catch_idle (p q : Addr) (w : World) :
  CallsD Tryz.prog 56 #[.pointer (some p), .pointer (some q)] .returning w fun e u' w' => e = .returned (.tuple #[]) /\ u' = .returning /\ w' = w := by
 refine callsD_of_wpS Tryz.func56 rfl fun c₀ cs hu => ?_
 apply wpS_seq
 apply wpS_region
 simp [wpOpsS, go_sem, recoverD, hu, Tryz.ntmps56, Exit.thenS]
 have ht : (#[Value.pointer (some p), Value.pointer (some q)] ++ ((Array.replicate 14 undef).setIfInBounds 2 Value.nilIface).setIfInBounds 0 Value.nilIface) = #[Value.pointer (some p), Value.pointer (some q), Value.nilIface, undef, Value.nilIface, undef, undef, undef, undef, undef, undef, undef, undef, undef, undef, undef] := rfl
 rw [ht]
 refine wpS_of_wp ?_
 go_wp2
 clear ht
 cases c₀
 simp_all [bodyPostS, results, Tryz.results56]
theorem catch_flt (d : Df) (bv : Value) (t : Ty) (er : Er) (b b' : Nat) (w : World) (hne : b ≠ b') (h : w.heap[b]? = some (.cells (dfc d bv).toArray 27 (0, 0))) (h' : w.heap[b']? = some (.cells (tyc t).toArray 47 (0, 0))) :
  CallsD Tryz.prog 56 #[.pointer (some ⟨b, 0, none⟩), .pointer (some ⟨b', 0, none⟩)] (.panicking (flt er)) w fun e u' w' =>
   e = .returned (.tuple #[]) /\ u' = .panicking [{ v := .iface 109 (.agg #[.int .i64 er.1, .int .i64 er.2.1, .int .i64 er.2.2]), recovered := true }] /\ w'.heap[b']? = some (.cells (tyc ⟨d.nm, 0, 0, 0, 0, false, er.1, er.2⟩).toArray 47 (0, 0)) /\ Gw b' w w' := by
 unfold flt
 refine callsD_of_wpS Tryz.func56 rfl fun c₀ cs hu => ?_
 apply wpS_seq
 apply wpS_region
 simp [wpOpsS, go_sem, recoverD, hu, Tryz.ntmps56, Exit.thenS]
 generalize hv : Value.agg #[.int .i64 er.1, .int .i64 er.2.1, .int .i64 er.2.2] = v
 have ht : (#[Value.pointer (some ⟨b, 0, none⟩), Value.pointer (some ⟨b', 0, none⟩)] ++ ((Array.replicate 14 undef).setIfInBounds 2 (Value.iface 109 v)).setIfInBounds 0 (Value.iface 109 v)) = #[Value.pointer (some ⟨b, 0, none⟩), Value.pointer (some ⟨b', 0, none⟩), Value.iface 109 v, undef, Value.iface 109 v, undef, undef, undef, undef, undef, undef, undef, undef, undef, undef, undef] := rfl
 rw [ht, <- hv]
 clear hv ht v
 refine wpS_of_wp ?_
 have ta := fun W => run_assert W (.agg #[.int .i64 er.1, .int .i64 er.2.1, .int .i64 er.2.2])
 obtain ⟨c0, c1, c2, c3, c4, c5⟩ := df_cells h
 obtain ⟨W1, hW1⟩ : ∃ W1, w.alloc (.cells #[.int .i64 0, .int .i64 0, .int .i64 0] 109) = W1 := ⟨_, rfl⟩
 have hB : Below w.heap.size w W1 := by rw [<- hW1]; exact (Below.refl _ _).alloc (Nat.le_refl _) _
 have hf : W1.heap[w.heap.size]? = some (.cells #[.int .i64 0, .int .i64 0, .int .i64 0] 109 (0, 0)) := by rw [<- hW1]; exact heap_alloc_new w _
 have HS := hid (And.intro hB (And.intro h h'))
 clear h h' hB
 go_upto_region 3 with (refine wpList_store_row rfl 109 _ _ rfl w.heap.size _ rfl rfl 109 _ hf (by exact sizeF) (by rfl) (by simp [Value.oneCell']) ?_)
 have hf2 := setRow_heap W1 w.heap.size _ #[.int .i64 er.1, .int .i64 er.2.1, .int .i64 er.2.2] _ _ hf
 have hB2 : Below w.heap.size w (W1.setRow w.heap.size #[.int .i64 er.1, .int .i64 er.2.1, .int .i64 er.2.2]) := row_below HS.out.1 _ (Nat.le_refl _) _
 clear hf hW1 c0 c1 c2 c3 c4 c5 ta
 generalize W1.setRow w.heap.size #[.int .i64 er.1, .int .i64 er.2.1, .int .i64 er.2.2] = W2 at *
 have h2 := (hB2.block _ (S.lt_of HS.out.2.1)).trans HS.out.2.1
 have h2' := (hB2.block _ (S.lt_of HS.out.2.2)).trans HS.out.2.2
 obtain ⟨c0, c1, c2, c3, c4, c5⟩ := df_cells h2
 have p0 := S.cell_of W2 w.heap.size 0 _ 109 _ hf2 rfl
 have p1 := S.cell_of W2 w.heap.size 1 _ 109 _ hf2 rfl
 have p2 := S.cell_of W2 w.heap.size 2 _ 109 _ hf2 rfl
 go_wp2_with (refine wpList_store_row rfl 47 _ _ rfl b' _ rfl rfl 47 _ h2' (by exact sizeT) (by rfl) (by simp [Value.oneCell']) ?_)
 have h3 := setRow_heap W2 b' _ (tyc ⟨d.nm, 0, 0, 0, 0, false, er.1, er.2⟩).toArray _ _ h2'
 have hG : Gw b' w (W2.setRow b' (tyc ⟨d.nm, 0, 0, 0, 0, false, er.1, er.2⟩).toArray) := (Gw.of hB2).trans (Gw.rowG (Gw.refl _ _) _)
 refine (?_ : bodyPostS Tryz.prog Tryz.f56 c₀ cs _ _ _ _ _)
 exact ⟨rfl, _, rfl, _, results_none rfl _ _ _, rfl, rfl, h3, hG⟩
set_option maxHeartbeats 2000000
set_option maxRecDepth 100000
open Y (NV cells6)
open R (En cks MP)
def TO (W : World) (t : Ty) (e : Ending) (w' : World) : Prop := e = .returned (.agg (tyc t).toArray) /\ Below W.heap.size W w'
def dfr (w : World) : List Deferred := [{ target := Target.fn (Fn.func 56) #[.pointer (some ⟨w.heap.size, 0, none⟩), .pointer (some ⟨w.heap.size + 1, 0, none⟩)], args := #[] }]
theorem door_res {T : Array Value} {b : Nat} {t : Ty} {W : World} (ht : T.getD 6 undef = .pointer (some ⟨b, 0, none⟩)) (h : W.heap[b]? = some (.cells (tyc t).toArray 47 (0, 0))) : (results Tryz.f46 T).run Tryz.prog W = .ok (.agg (tyc t).toArray) W := by
 have e : (results Tryz.f46 T).run Tryz.prog W = ((asAddr (T.getD 6 undef)).run Tryz.prog W).andThen fun a w₁ => (loadVar 47 a).run Tryz.prog w₁ := by
  simp only [results, Tryz.results46]
  simp [Sem.run_bind, Result.andThen]
 rw [e, ht]
 simp [asAddr, run_loadVar_row W b _ 47 _ _ _ h Tryz.underlying47 rfl sizeT]
theorem door_panic (w W : World) (d : Df) (bv : Value) (t : Ty) (er : Er) (T : Array Value) (ht : T.getD 6 undef = .pointer (some ⟨w.heap.size + 1, 0, none⟩))
  (h0 : W.heap[w.heap.size]? = some (.cells (dfc d bv).toArray 27 (0, 0))) (h1 : W.heap[w.heap.size + 1]? = some (.cells (tyc t).toArray 47 (0, 0))) (hB : Below w.heap.size w W) :
  bodyPostD Tryz.prog Tryz.f46 (TO w ⟨d.nm, 0, 0, 0, 0, false, er.1, er.2⟩) (Exit.panic (flt er)) { tmps := T, defers := dfr w } W := by
 unfold dfr
 refine leaves_cons (f := 56) (args := #[.pointer (some ⟨w.heap.size, 0, none⟩), .pointer (some ⟨w.heap.size + 1, 0, none⟩)]) (by simp) (by simp [go_sem]) ?_
 refine (catch_flt d bv t er w.heap.size (w.heap.size + 1) W (by omega) h0 h1).mono ?_
 rintro e u' w'' ⟨rfl, rfl, g0, g1⟩
 exact ⟨_, door_res ht g0, rfl, Gw.below hB g1 (by omega)⟩
theorem door_ret (w W : World) (t : Ty) (T : Array Value) (ht : T.getD 6 undef = .pointer (some ⟨w.heap.size + 1, 0, none⟩))
  (h1 : W.heap[w.heap.size + 1]? = some (.cells (tyc t).toArray 47 (0, 0))) (hB : Below w.heap.size w W) :
  bodyPostD Tryz.prog Tryz.f46 (TO w t) Exit.ret { tmps := T, defers := dfr w } W := by
 unfold dfr
 refine leaves_cons (f := 56) (args := #[.pointer (some ⟨w.heap.size, 0, none⟩), .pointer (some ⟨w.heap.size + 1, 0, none⟩)]) (by simp) (by simp [go_sem]) ?_
 refine (catch_idle ⟨w.heap.size, 0, none⟩ ⟨w.heap.size + 1, 0, none⟩ W).mono ?_
 rintro e u' w'' ⟨rfl, rfl, rfl⟩
 exact ⟨_, door_res ht h1, rfl, hB⟩
theorem leaves_congr {fn : Func} {T T' : Array Value} {R : Ending -> World -> Prop} (h : results fn T = results fn T') : ∀ (ds : List Deferred) (u : FrameMode) (w : World), Leaves Tryz.prog fn T R ds u w -> Leaves Tryz.prog fn T' R ds u w
 | [], .returning, w, hL => by obtain ⟨v, h1, h2⟩ := hL; exact ⟨v, h ▸ h1, h2⟩
 | [], .panicking c, w, hL => hL
 | [], .run, w, hL => hL
 | d :: ds, u, w, hL => by
  obtain ⟨h1, fv, cap, f, args, h2, h3, h4⟩ := hL
  refine ⟨h1, fv, cap, f, args, h2, h3, h4.mono ?_⟩
  intro e u' w' he
  cases e with
  | returned v => exact leaves_congr h ds _ _ he
  | panicked c => exact leaves_congr h ds _ _ he
  | outgrown => exact he
theorem res_put (T : Array Value) (d : Nat) (v : Value) (h6 : d ≠ 6) : results Tryz.f46 (T.setIfInBounds d v) = results Tryz.f46 T := by
 have e6 : (T.setIfInBounds d v)[6]? = T[6]? := Array.getElem?_setIfInBounds_ne h6
 simp [results, Tryz.results46, e6]
theorem put_door {R : Ending -> World -> Prop} {c : List PanicEntry} {a : Act} {w : World} (d : Nat) (h6 : d ≠ 6) (v : Value) (h : bodyPostD Tryz.prog Tryz.f46 R (.panic c) (a.put (some d) v) w) : bodyPostD Tryz.prog Tryz.f46 R (.panic c) a w :=
 leaves_congr (res_put a.tmps d v h6) _ _ _ h
theorem typedOf_any (at_ : En) (tl : List Ty) (names : List ByteArray) (qn : QN at_ tl names) (d : Df) (bv : Value) (O : Nat -> Prop) (mb : Nat) (av : Value) (W : World) (hO : ∀ j, O j -> j < W.heap.size) (hV : NV W O bv d.body) (hck : cks names d.body (0, false) = 0) (hM : MP W mb at_) (hT : TL W av tl) (hal : tb av < W.heap.size) :
  Calls Tryz.prog 46 #[.agg (dfc d bv).toArray, .map (some mb), av] W (TO W (tyOf (known at_ tl) d)) := by
 obtain ⟨q, cq, rfl, _, _⟩ := hV.ex
 have hmf : ∀ (fn : Fn) (first cap : Array Value) (w : World), (Instr.makeFunc fn first cap).run Tryz.prog w = .ok (.func fn first cap) w := fun _ _ _ _ => rfl
 obtain ⟨W0, hW0⟩ : ∃ W0, W.alloc (.cells #[.int .i64 d.k, .string d.nm, .int .u16 d.v, .slice q d.body.length cq, .int .i64 d.p.1, .int .i64 d.p.2] 27) = W0 := ⟨_, rfl⟩
 obtain ⟨W1, hW1⟩ : ∃ W1, W0.alloc (.cells #[.string ⟨#[]⟩, .int .i64 0, .int .i64 0, .int .i64 0, .int .i64 0, .bool false, .int .i64 0, .int .i64 0, .int .i64 0] 47) = W1 := ⟨_, rfl⟩
 have hs0 : W0.heap.size = W.heap.size + 1 := by rw [<- hW0]; simp
 have hs1 : W1.heap.size = W.heap.size + 2 := by rw [<- hW1]; simp [hs0]
 have hB1 : Below W.heap.size W W1 := by rw [<- hW1, <- hW0]; exact ((Below.refl _ _).alloc (Nat.le_refl _) _).alloc (by simp) _
 have k1 : W1.heap[W.heap.size]? = some (.cells (dfc d (.slice q d.body.length cq)).toArray 27 (0, 0)) := by rw [<- hW1]; exact (Below.heap_alloc _ _ _ (by omega)).trans (by rw [<- hW0]; exact heap_alloc_new W _)
 have k2 : W1.heap[W0.heap.size]? = some (.cells (tyc ⟨⟨#[]⟩, 0, 0, 0, 0, false, 0, (0, 0)⟩).toArray 47 (0, 0)) := by rw [<- hW1]; exact heap_alloc_new W0 _
 obtain ⟨ab, ac, rfl, hl, hc⟩ := id hT
 obtain ⟨W2, hW2⟩ : ∃ W2, W1.alloc (.cells #[.map (some mb), .slice (some ⟨ab, 0, none⟩) tl.length ac, .int .i64 0, .int .i64 0, .int .i64 0, .int .i64 0, .bool true, .int .i64 0] 112) = W2 := ⟨_, rfl⟩
 have zb : Below W1.heap.size W1 W2 := by rw [<- hW2]; exact (Below.refl _ _).alloc (Nat.le_refl _) _
 have hE : EW W2 W1.heap.size (.map (some mb)) (.slice (some ⟨ab, 0, none⟩) tl.length ac) w0 := by rw [<- hW2]; exact heap_alloc_new W1 _
 have hB2 : Below W.heap.size W W2 := ⟨zb.os.trans hB1.os, zb.tape.trans hB1.tape, zb.output.trans hB1.output, Nat.le_trans hB1.size zb.size, fun k hk => (zb.block k (by omega)).trans (hB1.block k hk)⟩
 have l1 : W2.heap[W.heap.size]? = some (.cells (dfc d (.slice q d.body.length cq)).toArray 27 (0, 0)) := (zb.block _ (by omega)).trans k1
 have l2 : W2.heap[W0.heap.size]? = some (.cells (tyc ⟨⟨#[]⟩, 0, 0, 0, 0, false, 0, (0, 0)⟩).toArray 47 (0, 0)) := (zb.block _ (by omega)).trans k2
 rw [hs0] at k2 l2
 have hs1' : W1.heap.size = W.heap.size + 1 + 1 := hs1
 rw [hs1'] at hE
 have e2 : (((W.alloc (.cells (dfc d (.slice q d.body.length cq)).toArray 27)).alloc (.cells #[.string ⟨#[]⟩, .int .i64 0, .int .i64 0, .int .i64 0, .int .i64 0, .bool false, .int .i64 0, .int .i64 0, .int .i64 0] 47)).alloc (.cells #[.map (some mb), .slice (some ⟨ab, 0, none⟩) tl.length ac, .int .i64 0, .int .i64 0, .int .i64 0, .int .i64 0, .bool true, .int .i64 0] 112)) = W2 := by rw [<- hW2, <- hW1, <- hW0]; rfl
 have hO2 : ∀ j, O j -> j < W2.drew.heap.size := fun j hj => Nat.lt_of_lt_of_le (hO j hj) hB2.size
 have hG2 : Gw (W.heap.size + 1 + 1) W W2.drew := Gw.of hB2.drew
 have hOg : ¬ O (W.heap.size + 1 + 1) := fun hj => by have := hO _ hj; omega
 have hLU : LU W2.drew (W.heap.size + 1 + 1) (.map (some mb)) (.slice (some ⟨ab, 0, none⟩) tl.length ac) at_ tl :=
  ⟨⟨mb, rfl, hM.kept (hG2.block mb hM.lt (by have := hM.lt; omega)), by have := hM.lt; omega⟩, hT.kept (hG2.block _ hal (by omega)), by omega, Nat.lt_of_lt_of_le hal hG2.size⟩
 have hcl := word_any at_ tl names qn d _ O (W.heap.size + 1 + 1) _ _ W2.drew hO2 hOg (nv_gw hV hG2 hO hOg) hck hE hLU
 have HS := hid (And.intro l1 (And.intro l2 (And.intro hB2 hs1')))
 have HR : Y.Hd (tyOf (known at_ tl) d = match word (known at_ tl) d with | .error e => ⟨d.nm, 0, 0, 0, 0, false, e.1, e.2⟩ | .ok w => ⟨d.nm, w.i, if w.nv then 0 else w.i + w.lf, w.d, w.r, w.nv, 0, (0, 0)⟩) := ⟨rfl⟩
 generalize tyOf (known at_ tl) d = R at *
 generalize word (known at_ tl) d = G at *
 clear k1 k2 l1 l2 hB1 hB2 zb hO2 hG2 hOg hLU hV hck hE hM hT hal hc hl hO qn hs0 hs1 hs1' hW0 hW1 hW2
 go_enter_defers Tryz.func46, Tryz.ntmps46
 go_upto_region 3 with fail
 clear e2 hmf
 have t1 : (fun wz : World => wz.heap[W.heap.size]? = some (.cells (dfc d (.slice q d.body.length cq)).toArray 27 (0, 0))) W2.drew := HS.out.1
 refine wp_region_drop [6] (S := fun wz : World => wz.heap[W.heap.size]? = some (.cells (dfc d (.slice q d.body.length cq)).toArray 27 (0, 0))) (by kernel_rfl) t1 (fun hHeld => ?_)
 have HS2 : Y.Hd (W2.drew.heap[W.heap.size]? = some (.cells (dfc d (.slice q d.body.length cq)).toArray 27 (0, 0)) /\ W2.drew.heap[W.heap.size + 1]? = some (.cells (tyc ⟨⟨#[]⟩, 0, 0, 0, 0, false, 0, (0, 0)⟩).toArray 47 (0, 0)) /\ Below W.heap.size W W2.drew) := ⟨HS.out.1, HS.out.2.1, HS.out.2.2.1.drew⟩
 generalize W2.drew = y0 at *
 clear t1 HS
 refine wpD_takeP (i := 0) (v := ?_) rfl (by kernel_rfl) (by kernel_rfl) (by kernel_rfl) (by kernel_rfl) (fun c a w h => put_door _ (by decide) _ h) (Or.inl ⟨by rfl, ?_⟩) (fun _ => hHeld) ?_
 rotate_left
 ·(intro w hSw; clear hSw; go_simp; try with_reducible rfl)
 simp only [E.pts]
 refine wpD_takeT (i := 1) (v := ?_) rfl (by kernel_rfl) (by kernel_rfl) (by kernel_rfl) (by kernel_rfl) (by kernel_rfl) (by kernel_rfl) (fun c a w h => put_door _ (by decide) _ h) (Or.inl ⟨by rfl, ?_⟩) hHeld ?_
 rotate_left
 ·(intro w hSw; (try dsimp only at hSw); obtain ⟨c0, c1, c2, c3, c4, c5⟩ := df_cells hSw; go_simp; try with_reducible rfl)
 simp only [E.pts]
 refine wpD_takeP (i := 2) (v := ?_) rfl (by kernel_rfl) (by kernel_rfl) (by kernel_rfl) (by kernel_rfl) (fun c a w h => put_door _ (by decide) _ h) (Or.inl ⟨by rfl, ?_⟩) (fun _ => hHeld) ?_
 rotate_left
 ·(intro w hSw; clear hSw; go_simp; try with_reducible rfl)
 simp only [E.pts]
 refine wpD_takeT (i := 3) (v := ?_) rfl (by kernel_rfl) (by kernel_rfl) (by kernel_rfl) (by kernel_rfl) (by kernel_rfl) (by kernel_rfl) (fun c a w h => put_door _ (by decide) _ h) (Or.inl ⟨by rfl, ?_⟩) hHeld ?_
 rotate_left
 ·(intro w hSw; (try dsimp only at hSw); obtain ⟨c0, c1, c2, c3, c4, c5⟩ := df_cells hSw; go_simp; try with_reducible rfl)
 simp only [E.pts]
 refine wpD_ready (rs := [4]) (by kernel_rfl) (by simp) ?_
 refine AllD.cons rfl (fun K hK => ?_) AllD.nil
 go_simp
 refine hcl.mono ?_
 intro e y1 hp
 clear hcl
 cases G with
 | error er =>
  obtain ⟨rfl, hG⟩ := hp
  have hB3 := Gw.below HS2.out.2.2 hG (by omega)
  rw [HR.out]
  exact door_panic W y1 d _ _ er _ rfl (hG.keep HS2.out.1 (by omega)) (hG.keep HS2.out.2.1 (by omega)) hB3
 | ok w =>
 obtain ⟨oo, hoo⟩ : ∃ oo : Int, oo = (if w.nv then 0 else w.i + w.lf) := ⟨_, rfl⟩
 replace HR : Y.Hd (R = ⟨d.nm, w.i, oo, w.d, w.r, w.nv, 0, (0, 0)⟩) := ⟨by rw [HR.out, hoo]⟩
 replace hp : e = .returned (.agg #[.int .i64 w.i, .int .i64 oo, .int .i64 w.d, .int .i64 w.r, .bool w.nv]) /\ Gw (W.heap.size + 1 + 1) y0 y1 := by rw [hoo]; exact hp
 clear hoo
 obtain ⟨rfl, hG⟩ := hp
 have hB3 := Gw.below HS2.out.2.2 hG (by omega)
 have hd3 := hG.keep HS2.out.1 (by omega)
 have HT3 := hid (And.intro (hG.keep HS2.out.2.1 (by omega)) hB3)
 clear hG hB3 HS2
 refine hK.out _ _ hd3 (fun hHeld => ?_)
 clear hK K
 try simp only [E.pts]
 refine wpD_takeP (i := 5) (v := ?_) rfl (by kernel_rfl) (by kernel_rfl) (by kernel_rfl) (by kernel_rfl) (fun c a w h => put_door _ (by decide) _ h) (Or.inl ⟨by rfl, ?_⟩) (fun _ => hHeld) ?_
 rotate_left
 ·(intro w hSw; clear hSw; go_simp; try with_reducible rfl)
 simp only [E.pts]
 have h4 := HT3.out.1
 refine wpD_ready (rs := [6]) (by kernel_rfl) (by simp) ?_
 refine AllD.late rfl (by kernel_rfl) (fun K hK => ?_)
 refine wp_store_row 47 _ _ rfl (W.heap.size + 1) _ rfl rfl 47 _ h4 (by exact sizeT) (by rfl) (by simp [Value.oneCell']) ?_
 refine hK.out _ _ ?_
 clear hK K
 refine wpD_done (by kernel_rfl) ?_ _
 simp only [Act.put]
 have h5 : (y1.setRow (W.heap.size + 1) (tyc ⟨d.nm, w.i, oo, w.d, w.r, w.nv, 0, (0, 0)⟩).toArray).heap[W.heap.size + 1]? = some (.cells (tyc ⟨d.nm, w.i, oo, w.d, w.r, w.nv, 0, (0, 0)⟩).toArray 47 (0, 0)) := setRow_heap y1 _ _ _ _ _ h4
 have hB5 : Below W.heap.size W (y1.setRow (W.heap.size + 1) (tyc ⟨d.nm, w.i, oo, w.d, w.r, w.nv, 0, (0, 0)⟩).toArray) := row_below HT3.out.2 _ (by omega) _
 clear hHeld h4 hd3 HT3
 unfold tyc at h5 hB5
 simp only at h5 hB5
 generalize y1.setRow (W.heap.size + 1) [.string d.nm, .int .i64 w.i, .int .i64 oo, .int .i64 w.d, .int .i64 w.r, .bool w.nv, .int .i64 0, .int .i64 0, .int .i64 0].toArray = y5 at *
 go_wp2_with fail
 rw [HR.out]
 exact door_ret W y5 ⟨d.nm, w.i, oo, w.d, w.r, w.nv, 0, (0, 0)⟩ _ rfl h5 hB5
open Go.Proofs.YtlilefhmohkfkaaGreatDoor.Y (Nd Df Ps ndc dfc hid NV DV D1 cells6)
open Go.Proofs.YtlilefhmohkfkaaGreatDoor.R (MP En numb ents lk run_put take_any below_setBlock setBlock_other)
open Go.ChangeMaps (setBlock)
set_option linter.unusedVariables false
set_option linter.unusedSimpArgs false
set_option maxHeartbeats 2000000
set_option maxRecDepth 100000
theorem run_mk (k : IntKind) (n : Int) (w : World) : (Instr.makeMap 75 (some (.int k n))).run Tryz.prog w = .ok (.map (some w.heap.size)) (w.alloc (.map #[] 0)) := by
 simp [Instr.makeMap, run_underlying Tryz.underlying75, asInt, asIntOf]
theorem placesOf_any (ds : List Df) (hnew : ∀ (k : Nat) (d : Df), ds[k]? = some d -> lk (numb ((ds.take k).map (·.nm)) 0) d.nm = none) (v : Value) (O : Nat -> Prop) (W : World) (hO : ∀ j, O j -> j < W.heap.size) (h : DV W O v ds) :
  Calls Tryz.prog 31 #[v] W fun e w' => e = .returned (.map (some W.heap.size)) /\ Below W.heap.size W w' /\ MP w' W.heap.size (numb (ds.map (·.nm)) 0) := by
 obtain ⟨p, c, rfl, hl, hp⟩ := h
 obtain ⟨W0, hW0⟩ : ∃ W0, W.alloc (.map #[] 0) = W0 := ⟨_, rfl⟩
 have hB : Below W.heap.size W W0 := by rw [<- hW0]; exact (Below.refl _ _).alloc (Nat.le_refl _) _
 have v0 : MP W0 W.heap.size [] := by rw [<- hW0]; exact MP.made W
 have HV := hid (And.intro v0 hB)
 clear v0 hB
 have hmm := run_mk .i64
 go_enter Tryz.func31, Tryz.ntmps31
 go_wp2
 clear hW0 hmm
 go_loopw [11] (fun ix wr => ∃ k : Nat, k <= ds.length /\ ix = .int .i64 (k : Int) /\ Below W.heap.size W wr /\ MP wr W.heap.size (numb ((ds.take k).map (·.nm)) 0)) (fun ix _ => ds.length - (intOf ix).toNat)
 case atStart => exact ⟨0, by omega, rfl, HV.out.2, HV.out.1⟩
 case round =>
  obtain ⟨k, hk, rfl, hb, hM⟩ := hrel
  by_cases hlt : k < ds.length
  ·have i1 : (k : Int) < ds.length := by omega
   have ea := List.getElem?_eq_getElem hlt
   generalize ds[k] = d at *
   obtain ⟨b, o, rfl, hOb, bv, hcl, hN⟩ := hp k d ea
   obtain ⟨q, cq, rfl, _, _⟩ := hN.ex
   have k1 := hb.block b (hO b hOb)
   obtain ⟨g0, g1, g2, g3, g4, g5⟩ := cells6 fun j x hx => (World.cell?_of_block (w := W) (a := ⟨b, o + k * 6 + j, none⟩) k1).trans (hcl j x hx)
   obtain ⟨W2, hW2⟩ : ∃ W2, wr.alloc (.cells #[.int .i64 d.k, .string d.nm, .int .u16 d.v, .slice q d.body.length cq, .int .i64 d.p.1, .int .i64 d.p.2] 27) = W2 := ⟨_, rfl⟩
   have z2 : Below wr.heap.size wr W2 := by rw [<- hW2]; exact (Below.refl _ _).alloc (Nat.le_refl _) _
   have v2 : W2.heap[wr.heap.size]? = some (.cells (dfc d (.slice q d.body.length cq)).toArray 27 (0, 0)) := by rw [<- hW2]; exact heap_alloc_new wr _
   have hB2 : Below W.heap.size W W2 := hb.trans (z2.mono hb.size)
   obtain ⟨x0, x1, x2, x3, x4, x5⟩ := df_cells v2
   have hM2 : MP W2 W.heap.size (numb ((ds.take k).map (·.nm)) 0) := hM.below z2 hM.lt
   have hput := run_put W2 W.heap.size d.nm (k : Int) _ hM2 (hnew k d ea)
   have hM4 := hM2.put d.nm (k : Int)
   rw [<- take_any ds k d ea] at hput hM4
   have HB4 := hid (below_setBlock hB2 W.heap.size (Nat.le_refl _) (.map (ents 0 (numb ((ds.take (k + 1)).map (·.nm)) 0)).toArray (numb ((ds.take (k + 1)).map (·.nm)) 0).length))
   have HM4 := hid hM4
   generalize setBlock W2 W.heap.size (.map (ents 0 (numb ((ds.take (k + 1)).map (·.nm)) 0)).toArray (numb ((ds.take (k + 1)).map (·.nm)) 0).length) = w4 at *
   clear z2 v2 hb hB2 k1 hp hN hcl hO ea hM hM2 hk hM4 hnew
   go_wp2
   go_roundw
   case rel =>
    first
     | exact ⟨k + 1, by omega, by go_num, HB4.out, HM4.out⟩
     | ((repeat apply Exists.intro); refine ⟨⟨k + 1, by omega, ?_, HB4.out, HM4.out⟩, rfl⟩; go_num)
   case measure => simp [intOf]; omega
  ·have i1 : ¬ (k : Int) < ds.length := by omega
   rw [List.take_of_length_le (by omega)] at hM
   have HM := hid hM
   clear hM hnew
   go_wp2
   go_ret
   exact ⟨rfl, hb, HM.out⟩
set_option maxHeartbeats 2000000
set_option maxRecDepth 100000
theorem own_ge {W : World} {B : Nat} {e : TypeId} {size : Nat} {v : Value} {n : Nat} {xs : List Value} (h : W.ownsRow B e size v n xs) : ∀ g, v.ownBlock = some g -> B <= g := by
 intro g hg
 rcases h.2 with ⟨rfl, _⟩ | ⟨g', cap, cur, rfl, h2, _⟩
 ·cases hg
 ·cases hg; exact h2
theorem own_is {W : World} {B : Nat} {e : TypeId} {size : Nat} {v : Value} {n : Nat} {xs : List Value} (h : W.ownsRow B e size v n xs) : ∃ p c, v = .slice p n c := by
 rcases h.2 with ⟨rfl, rfl⟩ | ⟨g', cap, cur, rfl, h2, _⟩
 ·exact ⟨_, _, rfl⟩
 ·exact ⟨_, _, rfl⟩
theorem own_cell {W : World} {B : Nat} {e : TypeId} {size : Nat} {v : Value} {n : Nat} {xs : List Value} (h : W.ownsRow B e size v n xs) (hn : 0 < n) : ∃ g c, v = .slice (some ⟨g, 0, none⟩) n c /\ B <= g /\ g < W.heap.size /\ ∀ (j : Nat) (x : Value), xs[j]? = some x -> W.cell? ⟨g, j, none⟩ = some x := by
 rcases h.2 with ⟨rfl, rfl⟩ | ⟨g', cap, cur, rfl, h2, h3, _, _, h4, h5⟩
 ·omega
 ·refine ⟨g', cap, rfl, h2, S.lt_of h3, fun j x hj => ?_⟩
  rw [<- h5, List.getElem?_take] at hj
  split at hj
  ·exact S.cell_of W g' j cur.toList e x (by simpa using h3) hj
  ·cases hj
theorem dfc_one (d : Df) (bv : Value) (h1 : ∃ p m c, bv = .slice p m c) : ∀ u ∈ dfc d bv, u.oneCell' = true := by
 obtain ⟨_, _, _, rfl⟩ := h1
 intro u hu
 simp only [dfc, List.mem_cons, List.not_mem_nil, or_false] at hu
 rcases hu with rfl | rfl | rfl | rfl | rfl | rfl <;> rfl
theorem infoDef : (Tryz.prog.info? 27).map (fun i => (i.zero, i.size, i.bytes)) = some (some (.agg #[.int .i64 0, .string ⟨#[]⟩, .int .u16 0, .slice none 0 0, .int .i64 0, .int .i64 0]), 6, 72) := by kernel_rfl
def wv (x : Df × Value) : List Value := dfc x.1 x.2
def isW (d : Df) : Bool := d.k == 1
theorem wordsOf_take (ds : List Df) (k : Nat) (d : Df) (h : ds[k]? = some d) : wordsOf (ds.take (k + 1)) = if isW d then wordsOf (ds.take k) ++ [d] else wordsOf (ds.take k) := by
 unfold wordsOf isW
 rw [List.take_add_one, h, List.filter_append]
 by_cases hd : (d.k == 1) = true <;> simp [hd]
theorem words_dv (W w : World) (O : Nat -> Prop) (v : Value) (prs : List (Df × Value)) (B : Nat) (hB : W.heap.size <= B) (hO : ∀ j, O j -> j < W.heap.size) (hb : Below W.heap.size W w) (hp : ∀ x ∈ prs, NV W O x.2 x.1.body) (hl : prs.length <= 1048576) (ho : w.ownsRow B 27 6 v prs.length (S.en wv prs)) :
  DV w (fun i => O i \/ (W.heap.size <= i /\ i < w.heap.size)) v (prs.map (·.1)) := by
 obtain ⟨p, c, rfl⟩ := own_is ho
 refine ⟨p, c, by rw [List.length_map], by rw [List.length_map]; omega, fun i d hi => ?_⟩
 rw [List.getElem?_map] at hi
 obtain ⟨x, hx, rfl⟩ : ∃ x, prs[i]? = some x /\ x.1 = d := by
  cases e : prs[i]? with
  | none => rw [e] at hi; cases hi
  | some x => rw [e] at hi; exact ⟨x, rfl, by simpa using hi⟩
 have hlt := (List.getElem?_eq_some_iff.1 hx).1
 obtain ⟨g, c', e, h2, h3, h4⟩ := own_cell ho (by omega)
 cases e
 refine ⟨g, 0, rfl, .inr ⟨by omega, h3⟩, x.2, fun j y hy => ?_, (hp x (List.mem_of_getElem? hx)).kept (fun i hi => hb.block i (hO i hi)) fun i hi => .inl hi⟩
 have hj : j < 6 := by
  have := (List.getElem?_eq_some_iff.1 hy).1
  simpa [dfc] using this
 rw [Nat.zero_add]
 exact h4 _ _ ((S.en_get (e := wv) (s := 6) (fun a => rfl) prs i j x hx hj).trans hy)
theorem wordsOf_any (ds : List Df) (hd : ds.length <= 1048576) (dv bkv : Value) (hbk : ∃ p n c, bkv = .slice p n c) (O : Nat -> Prop) (W : World) (hO : ∀ j, O j -> j < W.heap.size) (h : DV W O dv ds) :
  Calls Tryz.prog 29 #[.agg #[dv, bkv]] W fun e w' => ∃ v, e = .returned v /\ Below W.heap.size W w' /\ DV w' (fun i => O i \/ (W.heap.size <= i /\ i < w'.heap.size)) v (wordsOf ds) := by
 obtain ⟨p, c, rfl, hl, hp⟩ := h
 obtain ⟨bp, bn, bc, rfl⟩ := hbk
 obtain ⟨W0, hW0⟩ : ∃ W0, W.alloc (.cells #[.slice p ds.length c, .slice bp bn bc] 35) = W0 := ⟨_, rfl⟩
 have hB : Below W.heap.size W W0 := by rw [<- hW0]; exact (Below.refl _ _).alloc (Nat.le_refl _) _
 have v0 : W0.heap[W.heap.size]? = some (.cells [.slice p ds.length c, .slice bp bn bc].toArray 35 (0, 0)) := by rw [<- hW0]; exact heap_alloc_new W _
 have c0 := S.cell_of W0 _ 0 _ 35 _ v0 rfl
 have HV := hid (And.intro v0 hB)
 clear v0 hB
 go_enter Tryz.func29, Tryz.ntmps29
 go_wp2
 clear hW0 c0
 go_loopw [3, 9] (fun wo ix wr => ∃ (k : Nat) (prs : List (Df × Value)), k <= ds.length /\ ix = .int .i64 (k : Int) /\ Below W.heap.size W wr /\ prs.map (·.1) = wordsOf (ds.take k) /\ (∀ x ∈ prs, NV W O x.2 x.1.body) /\ wr.ownsRow W.heap.size 27 6 wo prs.length (S.en wv prs)) (fun _ ix _ => ds.length - (intOf ix).toNat)
 case atStart => exact ⟨0, [], by omega, rfl, HV.out.2, rfl, by simp, World.ownsRow_nil _ _ _ _⟩
 case round =>
  obtain ⟨k, prs, hk, rfl, hb, hE, hN, hR⟩ := hrel
  have hpl : prs.length <= k := by
   have := congrArg List.length hE
   rw [List.length_map] at this
   rw [this]
   exact Nat.le_trans (List.length_filter_le _ _) (by rw [List.length_take]; omega)
  obtain ⟨p3, c3, rfl⟩ := own_is hR
  by_cases hlt : k < ds.length
  ·have i1 : (k : Int) < ds.length := by omega
   have ea := List.getElem?_eq_getElem hlt
   generalize ds[k] = d at *
   obtain ⟨b, o, rfl, hOb, bv, hcl, hNv⟩ := hp k d ea
   obtain ⟨q, cq, rfl, _, _⟩ := id hNv.ex
   have k1 := hb.block b (hO b hOb)
   obtain ⟨g0, g1, g2, g3, g4, g5⟩ := cells6 fun j x hx => (World.cell?_of_block (w := W) (a := ⟨b, o + k * 6 + j, none⟩) k1).trans (hcl j x hx)
   obtain ⟨W2, hW2⟩ : ∃ W2, wr.alloc (.cells #[.int .i64 d.k, .string d.nm, .int .u16 d.v, .slice q d.body.length cq, .int .i64 d.p.1, .int .i64 d.p.2] 27) = W2 := ⟨_, rfl⟩
   have z2 : Below wr.heap.size wr W2 := by rw [<- hW2]; exact (Below.refl _ _).alloc (Nat.le_refl _) _
   have v2 : W2.heap[wr.heap.size]? = some (.cells (dfc d (.slice q d.body.length cq)).toArray 27 (0, 0)) := by rw [<- hW2]; exact heap_alloc_new wr _
   have hB2 : Below W.heap.size W W2 := hb.trans (z2.mono hb.size)
   obtain ⟨x0, x1, x2, x3, x4, x5⟩ := df_cells v2
   have hR2 : W2.ownsRow W.heap.size 27 6 (.slice p3 prs.length c3) prs.length (S.en wv prs) := S.own_kept hR fun g _ hg => z2.block g hg
   have HT := hid (wordsOf_take ds k d ea)
   have HH := hid (And.intro hB2 (And.intro hE (And.intro hN hNv)))
   clear z2 v2 hb k1 hcl ea hB2 hE hN hNv hR hp hO
   unfold isW at HT
   by_cases hz : d.k = 1
   ·have hz1 : (d.k == 1) = true := by simpa using hz
    rw [hz1, if_pos rfl] at HT
    obtain ⟨y4, hy4⟩ : ∃ y4, W2.alloc (.cells #[.int .i64 d.k, .string d.nm, .int .u16 d.v, .slice q d.body.length cq, .int .i64 d.p.1, .int .i64 d.p.2] 27) = y4 := ⟨_, rfl⟩
    have k4 : Below W2.heap.size W2 y4 := by rw [<- hy4]; exact (Below.refl _ _).alloc (Nat.le_refl _) _
    have v4 : y4.heap[W2.heap.size]? = some (.cells (dfc d (.slice q d.body.length cq)).toArray 27 (0, 0)) := by rw [<- hy4]; exact heap_alloc_new W2 _
    have hB4 : Below W.heap.size W y4 := HH.out.1.trans (k4.mono HH.out.1.size)
    have oR : y4.ownsRow W.heap.size 27 6 (.slice p3 prs.length c3) prs.length (S.en wv prs) := S.own_kept hR2 fun g _ hg => k4.block g hg
    have hcs : S.Cs y4 (.slice (some ⟨W2.heap.size, 0, none⟩) 1 1) 6 1 (dfc d (.slice q d.body.length cq)) := .inr ⟨_, _, rfl, rfl, fun j u hj => by rw [Addr.add_lit, Nat.zero_add]; exact S.cell_of y4 _ j _ _ u v4 hj, dfc_one _ _ ⟨_, _, _, rfl⟩⟩
    have hsz4 : W.heap.size <= y4.heap.size := hB4.size
    have HB4 := hid hB4
    have HY := hid hy4
    clear k4 v4 hB4 hy4 hR2 hz
    go_wp2_with (rw [HY.out]; refine S.wpList_append_row y4 rfl _ _ 32 27 _ 6 72 Tryz.underlying32 infoDef rfl (by decide) rfl W.heap.size (.slice p3 prs.length c3) prs.length (S.en wv prs) rfl oR _ 1 _ rfl hcs (by unfold S.room; omega) (by unfold maxLen; omega) hsz4 (fun v5 w5 hr1 hg1 => ?_); have HG := hid (And.intro hr1 hg1); clear hr1 hg1)
    have hB5 : Below W.heap.size W w5 := HG.out.2.belowAll (own_ge oR) HB4.out (Nat.le_refl _)
    refine ⟨⟨k + 1, prs ++ [(d, .slice q d.body.length cq)], by omega, by rw [Int.natCast_add]; rfl, hB5, by rw [List.map_append, HH.out.2.1, HT.out]; rfl, fun x hx => ?_, ?_⟩, by simp only [intOf]; omega⟩
    ·rcases List.mem_append.1 hx with hx | hx
     ·exact HH.out.2.2.1 x hx
     ·rw [List.mem_singleton] at hx
      subst hx
      exact HH.out.2.2.2
    ·rw [List.length_append, S.en_append]
     have e1 : S.en wv [(d, Value.slice q d.body.length cq)] = dfc d (.slice q d.body.length cq) := by simp [S.en, wv]
     rw [e1]
     exact HG.out.1
   ·have hz1 : (d.k == 1) = false := by simpa using hz
    rw [hz1] at HT
    have HR := hid hR2
    clear hR2 hz
    go_wp2
    go_roundw
    case rel =>
     first
      | exact ⟨k + 1, prs, by omega, by go_num, HH.out.1, by rw [HT.out]; exact HH.out.2.1, HH.out.2.2.1, HR.out⟩
      | ((repeat apply Exists.intro); refine ⟨⟨k + 1, prs, by omega, ?_, HH.out.1, by rw [HT.out]; exact HH.out.2.1, HH.out.2.2.1, HR.out⟩, rfl⟩; go_num)
    case measure => simp [intOf]; omega
  ·have i1 : ¬ (k : Int) < ds.length := by omega
   rw [List.take_of_length_le (by omega)] at hE
   have hdv := words_dv W wr O _ prs W.heap.size (Nat.le_refl _) hO hb hN (by omega) hR
   rw [hE] at hdv
   have HD := hid hdv
   clear hdv hE hN hR
   go_wp2
   go_ret
   exact ⟨_, rfl, hb, HD.out⟩
open R (En cks MP)
set_option linter.unusedVariables false
set_option linter.unusedSimpArgs false
set_option maxHeartbeats 2000000
set_option maxRecDepth 100000
theorem infoTy : (Tryz.prog.info? 47).map (fun i => (i.zero, i.size, i.bytes)) = some (some (.agg #[.string ⟨#[]⟩, .int .i64 0, .int .i64 0, .int .i64 0, .int .i64 0, .bool false, .int .i64 0, .int .i64 0, .int .i64 0]), 9, 80) := by kernel_rfl
def tysP (at_ : En) : List Ty -> List Df -> List Ty
 | l, [] => l
 | l, d :: r => tysP at_ (l ++ [tyOf (known at_ l) d]) r
theorem tysP_app (at_ : En) : ∀ (r : List Df) (l : List Ty) (d : Df), tysP at_ l (r ++ [d]) = tysP at_ l r ++ [tyOf (known at_ (tysP at_ l r)) d]
 | [], l, d => rfl
 | e :: r, l, d => by rw [List.cons_append, tysP, tysP, tysP_app at_ r]
theorem tysP_take (at_ : En) (ds : List Df) (k : Nat) (d : Df) (h : ds[k]? = some d) : tysP at_ [] (ds.take (k + 1)) = tysP at_ [] (ds.take k) ++ [tyOf (known at_ (tysP at_ [] (ds.take k))) d] := by
 rw [List.take_add_one, h]
 exact tysP_app at_ _ _ _
theorem tysP_len (at_ : En) : ∀ (r : List Df) (l : List Ty), (tysP at_ l r).length = l.length + r.length
 | [], l => rfl
 | e :: r, l => by rw [tysP, tysP_len at_ r, List.length_append, List.length_cons, List.length_cons, List.length_nil]; omega
theorem tyc_one (t : Ty) : ∀ u ∈ tyc t, u.oneCell' = true := by
 intro u hu
 simp only [tyc, List.mem_cons, List.not_mem_nil, or_false] at hu
 rcases hu with rfl | rfl | rfl | rfl | rfl | rfl | rfl | rfl | rfl <;> rfl
theorem own_tl {w : World} {B g n c : Nat} {l : List Ty} (ho : w.ownsRow B 47 9 (.slice (some ⟨g, 0, none⟩) n c) n (S.en tyc l)) (hn : n = l.length) (hl : l.length <= 1048576) : TL w (.slice (some ⟨g, 0, none⟩) n c) l := by
 subst hn
 refine ⟨g, c, rfl, by omega, fun i t j x hi hj => ?_⟩
 have hlt := (List.getElem?_eq_some_iff.1 hi).1
 obtain ⟨g', c', e, h2, h3, h4⟩ := own_cell ho (by omega)
 cases e
 have hj9 : j < 9 := by
  have := (List.getElem?_eq_some_iff.1 hj).1
  simpa [tyc] using this
 exact h4 _ _ ((S.en_get (e := tyc) (s := 9) (fun a => rfl) l i j t hi hj9).trans hj)
theorem own_at {w : World} {B : Nat} {e : TypeId} {s g n c : Nat} {xs : List Value} (ho : w.ownsRow B e s (.slice (some ⟨g, 0, none⟩) n c) n xs) : B <= g /\ g < w.heap.size := by
 rcases ho.2 with ⟨e, _⟩ | ⟨g', cap, cur, e, h2, h3, _⟩
 ·cases e
 ·cases e; exact ⟨h2, S.lt_of h3⟩
theorem typed_any (at_ : En) (ds : List Df) (hd : ds.length <= 1048576) (hq : ∀ (k : Nat) (d : Df), ds[k]? = some d -> ∃ names, QN at_ (tysP at_ [] (ds.take k)) names /\ cks names d.body (0, false) = 0) (v : Value) (O : Nat -> Prop) (mb : Nat) (W : World) (hO : ∀ j, O j -> j < W.heap.size) (h : DV W O v ds) (hM : MP W mb at_) :
  Calls Tryz.prog 30 #[v, .map (some mb)] W fun e w' => ∃ g c, e = .returned (.slice (some ⟨g, 0, none⟩) ds.length c) /\ Below W.heap.size W w' /\ w'.ownsRow W.heap.size 47 9 (.slice (some ⟨g, 0, none⟩) ds.length c) ds.length (S.en tyc (tysP at_ [] ds)) := by
 obtain ⟨p, c, rfl, hl, hp⟩ := h
 obtain ⟨i0, hi, hz0, hz1, hz2⟩ := info_parts infoTy
 obtain ⟨W0, hmk, hw0, hw1⟩ := run_make_own (P := Tryz.prog) W W.heap.size 39 47 i0 _ 9 Tryz.underlying39 hi hz0 hz1 .i64 .i64 ds.length (by rw [hz2]; omega) (by unfold maxLen; omega) (Nat.le_refl _)
 have hB : Below W.heap.size W W0 := ⟨hw1.os, hw1.tape, hw1.output, hw1.size, fun k hk => hw1.block k hk (by simp)⟩
 have HV := hid (And.intro hw0 hB)
 clear hw0 hB hi hz0 hz1 hz2 i0 hw1
 go_enter Tryz.func30, Tryz.ntmps30
 go_wp2
 clear hmk
 go_loopw [5, 13] (fun ls ix wr => ∃ (k g cp : Nat), k <= ds.length /\ ls = .slice (some ⟨g, 0, none⟩) k cp /\ ix = .int .i64 (k : Int) /\ Below W.heap.size W wr /\ wr.ownsRow W.heap.size 47 9 (.slice (some ⟨g, 0, none⟩) k cp) k (S.en tyc (tysP at_ [] (ds.take k)))) (fun _ ix _ => ds.length - (intOf ix).toNat)
 case atStart => exact ⟨0, _, _, by omega, rfl, rfl, HV.out.2, HV.out.1⟩
 case round =>
  obtain ⟨k, g, cp, hk, rfl, rfl, hb, hR⟩ := hrel
  by_cases hlt : k < ds.length
  ·have i1 : (k : Int) < ds.length := by omega
   have ea := List.getElem?_eq_getElem hlt
   generalize ds[k] = d at *
   obtain ⟨b, o, rfl, hOb, bv, hcl, hNv⟩ := hp k d ea
   obtain ⟨q, cq, rfl, _, _⟩ := id hNv.ex
   have k1 := hb.block b (hO b hOb)
   obtain ⟨g0, g1, g2, g3, g4, g5⟩ := cells6 fun j x hx => (World.cell?_of_block (w := W) (a := ⟨b, o + k * 6 + j, none⟩) k1).trans (hcl j x hx)
   obtain ⟨W2, hW2⟩ : ∃ W2, wr.alloc (.cells #[.int .i64 d.k, .string d.nm, .int .u16 d.v, .slice q d.body.length cq, .int .i64 d.p.1, .int .i64 d.p.2] 27) = W2 := ⟨_, rfl⟩
   have z2 : Below wr.heap.size wr W2 := by rw [<- hW2]; exact (Below.refl _ _).alloc (Nat.le_refl _) _
   have v2 : W2.heap[wr.heap.size]? = some (.cells (dfc d (.slice q d.body.length cq)).toArray 27 (0, 0)) := by rw [<- hW2]; exact heap_alloc_new wr _
   have hB2 : Below W.heap.size W W2 := hb.trans (z2.mono hb.size)
   obtain ⟨x0, x1, x2, x3, x4, x5⟩ := df_cells v2
   have hR2 : W2.ownsRow W.heap.size 47 9 (.slice (some ⟨g, 0, none⟩) k cp) k (S.en tyc (tysP at_ [] (ds.take k))) := S.own_kept hR fun g _ hg => z2.block g hg
   obtain ⟨names, hqn, hck⟩ := hq k d ea
   have hlen : (tysP at_ [] (ds.take k)).length = k := by rw [tysP_len, List.length_nil, List.length_take, Nat.zero_add]; omega
   have HT := hid (tysP_take at_ ds k d ea)
   generalize tysP at_ [] (ds.take k) = tl at *
   have hcall := typedOf_any at_ tl names hqn d _ O mb _ W2 (fun j hj => Nat.lt_of_lt_of_le (hO j hj) hB2.size) (hNv.below hB2 hO) hck (hM.below hB2 hM.lt) (own_tl hR2 hlen.symm (by omega)) (own_at hR2).2
   unfold dfc at hcall
   have HH := hid (And.intro hB2 hR2)
   generalize tyOf (known at_ tl) d = t at *
   clear z2 v2 hb k1 hcl ea hB2 hNv hR hR2 hp hO hq hqn hck
   go_wp2_with fail
   refine hcall.mono ?_
   rintro e w3 ⟨rfl, hb3⟩
   clear hcall x0 x1 x2 x3 x4 x5 g0 g1 g2 g3 g4 g5 hW2
   obtain ⟨y4, hy4⟩ : ∃ y4, w3.alloc (.cells #[.string t.nm, .int .i64 t.i, .int .i64 t.o, .int .i64 t.d, .int .i64 t.r, .bool t.nv, .int .i64 t.e, .int .i64 t.p.1, .int .i64 t.p.2] 47) = y4 := ⟨_, rfl⟩
   have k4 : Below w3.heap.size w3 y4 := by rw [<- hy4]; exact (Below.refl _ _).alloc (Nat.le_refl _) _
   have v4 : y4.heap[w3.heap.size]? = some (.cells (tyc t).toArray 47 (0, 0)) := by rw [<- hy4]; exact heap_alloc_new w3 _
   have hB4 : Below W2.heap.size W2 y4 := hb3.trans (k4.mono hb3.size)
   have oR : y4.ownsRow W.heap.size 47 9 (.slice (some ⟨g, 0, none⟩) k cp) k (S.en tyc tl) := S.own_kept HH.out.2 fun g _ hg => hB4.block g hg
   have hcs : S.Cs y4 (.slice (some ⟨w3.heap.size, 0, none⟩) 1 1) 9 1 (tyc t) := .inr ⟨_, _, rfl, rfl, fun j u hj => by rw [Addr.add_lit, Nat.zero_add]; exact S.cell_of y4 _ j _ _ u v4 hj, tyc_one _⟩
   have hBW : Below W.heap.size W y4 := HH.out.1.trans (hB4.mono HH.out.1.size)
   have hsz4 : W.heap.size <= y4.heap.size := hBW.size
   have HB4 := hid hBW
   have HY := hid hy4
   clear k4 v4 hB4 hy4 hb3 hBW
   unfold tyc
   go_wp2_with (rw [HY.out]; refine S.wpList_append_row y4 rfl _ _ 39 47 _ 9 80 Tryz.underlying39 infoTy rfl (by decide) rfl W.heap.size (.slice (some ⟨g, 0, none⟩) k cp) k (S.en tyc tl) rfl oR _ 1 _ rfl hcs (by unfold S.room; omega) (by unfold maxLen; omega) hsz4 (fun v5 w5 hr1 hg1 => ?_); have HG := hid (And.intro hr1 hg1); clear hr1 hg1)
   have hB5 : Below W.heap.size W w5 := HG.out.2.belowAll (own_ge oR) HB4.out (Nat.le_refl _)
   obtain ⟨g5, c5, rfl, _⟩ := own_cell HG.out.1 (by omega)
   refine ⟨⟨k + 1, g5, c5, by omega, rfl, by rw [Int.natCast_add]; rfl, hB5, ?_⟩, by simp only [intOf]; omega⟩
   rw [HT.out, S.en_append]
   have e1 : S.en tyc [t] = tyc t := by simp [S.en]
   rw [e1]
   exact HG.out.1
  ·have i1 : ¬ (k : Int) < ds.length := by omega
   obtain rfl : k = ds.length := by omega
   rw [List.take_length] at hR
   have HR := hid hR
   clear hR hq hp
   go_wp2
   go_ret
   exact ⟨_, _, rfl, hb, HR.out⟩
open Go.Proofs.YtlilefhmohkfkaaGreatDoor.Y (Nd Df Ps ndc dfc hid NV DV D1 cells6 BV)
open R (En cks MP dsE dfE chk Bk lk numb lk_numb twice_no)
set_option linter.unusedVariables false
set_option linter.unusedSimpArgs false
set_option maxHeartbeats 2000000
set_option maxRecDepth 100000
theorem word_ti (kn : ByteArray -> Option Ty) (hk : ∀ s t, kn s = some t -> TI t) (d : Df) : TI (tyOf kn d) := by
 unfold tyOf
 cases hw : word kn d with
 | error e => intro _; simp
 | ok w =>
  unfold word at hw
  cases hb : body kn d.body (w0, s0) with
  | error e => rw [hb] at hw; cases hw
  | ok x =>
   rw [hb] at hw
   have hx := (body_inv kn hk d.body _ _ xi_start hb).1
   simp only at hw
   have hw2 : ∃ w', WI w' /\ (if w'.nv = true \/ w'.i + w'.lf <= 256 then (.ok w' : Except Er Wk) else .error (153, d.p)) = .ok w := by
    by_cases hdd : x.2.dead = true
    ·rw [if_pos hdd] at hw
     exact ⟨x.1, hx.1, hw⟩
    ·rw [if_neg hdd] at hw
     cases hl : leave x.2 d.p x.1 with
     | error e => rw [hl] at hw; cases hw
     | ok w' => rw [hl] at hw; exact ⟨w', (leave_inv hx.1 hx.2 hl).1, hw⟩
   obtain ⟨w', hI, he⟩ := hw2
   split at he
   ·rename_i hc
    cases he
    intro _
    have := hI.i0; have := hI.i1; have := hI.d0; have := hI.d1; have := hI.r0; have := hI.r1; have := hI.l0
    have h2 := hI.l2
    cases hnv : w.nv with
    | true => simp only [hnv, if_true]; omega
    | false =>
     have hc2 : w.i + w.lf <= 256 := by
      rcases hc with hc | hc
      ·rw [hnv] at hc; cases hc
      ·exact hc
     have h3 := h2 hnv
     simp only [hnv, Bool.false_eq_true, if_false]
     omega
   ·cases he
theorem tysP_ti (at_ : En) : ∀ (r : List Df) (l : List Ty), (∀ t ∈ l, TI t) -> ∀ t ∈ tysP at_ l r, TI t
 | [], l, h => h
 | d :: r, l, h => by
  rw [tysP]
  refine tysP_ti at_ r _ fun t ht => ?_
  rcases List.mem_append.1 ht with ht | ht
  ·exact h t ht
  ·rw [List.mem_singleton] at ht
   subst ht
   exact word_ti _ (fun s t e => known_ti h s t e) d
theorem dsE_at : ∀ (ds : List Df) (ns : List ByteArray), dsE ns ds = 0 -> ∀ (k : Nat) (d : Df), ds[k]? = some d -> dfE (ns ++ (ds.take k).map (·.nm)) d = 0
 | [], ns, _, k, d, h => by simp at h
 | e :: r, ns, h, k, d, hk => by
  rw [dsE] at h
  by_cases h0 : dfE ns e = 0
  ·rw [if_pos h0] at h
   cases k with
   | zero =>
    simp only [List.getElem?_cons_zero, Option.some.injEq] at hk
    subst hk
    simpa using h0
   | succ k =>
    have := dsE_at r _ h k d (by simpa using hk)
    simpa [List.append_assoc] using this
  ·rw [if_neg h0] at h
   exact (h0 h).elim
theorem dfE_new (names : List ByteArray) (d : Df) (h : dfE names d = 0) : d.nm ∉ names := by
 intro hm
 have h2 := twice_no names d h
 have h3 := lk_numb d.nm names 0
 rw [h2] at h3
 have h4 : (names.any fun s => decide (s = d.nm)) = true := List.any_eq_true.2 ⟨d.nm, hm, by simp⟩
 rw [h4] at h3
 cases h3
theorem dfE_body (names : List ByteArray) (d : Df) (h : dfE names d = 0) : cks names d.body (0, false) = 0 := by
 unfold dfE at h
 split at h
 ·cases h
 ·split at h
  ·cases h
  ·split at h
   ·cases h
   ·split at h
    ·cases h
    ·exact h
theorem nodup_of : ∀ (ds : List Df) (ns : List ByteArray), ns.Nodup -> dsE ns ds = 0 -> (ns ++ ds.map (·.nm)).Nodup
 | [], ns, hn, _ => by simpa using hn
 | d :: r, ns, hn, h => by
  rw [dsE] at h
  by_cases h0 : dfE ns d = 0
  ·rw [if_pos h0] at h
   have := nodup_of r (ns ++ [d.nm]) (by
    rw [List.nodup_append]
    refine ⟨hn, by simp, fun a ha b hb => ?_⟩
    rw [List.mem_singleton] at hb
    subst hb
    intro e
    exact dfE_new ns d h0 (e ▸ ha)) h
   simpa [List.append_assoc] using this
  ·rw [if_neg h0] at h
   exact (h0 h).elim
theorem filter_at {p : Df -> Bool} : ∀ (ds : List Df) (j : Nat) (d : Df), (ds.filter p)[j]? = some d -> ∃ k, ds[k]? = some d /\ (ds.take k).filter p = (ds.filter p).take j
 | [], j, d, h => by simp at h
 | e :: r, j, d, h => by
  by_cases hp : p e = true
  ·rw [List.filter_cons_of_pos hp] at h ⊢
   cases j with
   | zero => exact ⟨0, by simpa using h, rfl⟩
   | succ j =>
    obtain ⟨k, h1, h2⟩ := filter_at r j d (by simpa using h)
    exact ⟨k + 1, by simpa using h1, by rw [List.take_succ_cons, List.filter_cons_of_pos hp, List.take_succ_cons, h2]⟩
  ·rw [List.filter_cons_of_neg hp] at h ⊢
   obtain ⟨k, h1, h2⟩ := filter_at r j d h
   exact ⟨k + 1, by simpa using h1, by rw [List.take_succ_cons, List.filter_cons_of_neg hp, h2]⟩
theorem lk_at (x : ByteArray) : ∀ (ns : List ByteArray) (i : Nat) (z : Int), lk (numb ns i) x = some z -> ∃ n : Nat, z = ((i + n : Nat) : Int) /\ ns[n]? = some x
 | [], i, z, h => by cases h
 | s :: r, i, z, h => by
  rw [numb, lk] at h
  by_cases hs : s = x
  ·rw [if_pos hs] at h
   cases h
   exact ⟨0, by simp, by simp [hs]⟩
  ·rw [if_neg hs] at h
   obtain ⟨n, h1, h2⟩ := lk_at x r (i + 1) z h
   exact ⟨n + 1, by rw [h1]; congr 1; omega, by simpa using h2⟩
theorem lk_no (x : ByteArray) (ns : List ByteArray) (h : x ∉ ns) : lk (numb ns 0) x = none := by
 cases e : lk (numb ns 0) x with
 | none => rfl
 | some z =>
  obtain ⟨n, _, h2⟩ := lk_at x ns 0 z e
  exact (h (List.mem_of_getElem? h2)).elim
theorem words_new (ds : List Df) (h : dsE [] ds = 0) (k : Nat) (d : Df) (hk : (wordsOf ds)[k]? = some d) : lk (numb (((wordsOf ds).take k).map (·.nm)) 0) d.nm = none := by
 obtain ⟨i, h1, h2⟩ := filter_at ds k d hk
 have h3 := dfE_new _ d (dsE_at ds [] h i d h1)
 refine lk_no _ _ fun hm => h3 ?_
 rw [List.nil_append]
 have h4 : (wordsOf ds).take k = (ds.take i).filter fun d => d.k == 1 := h2.symm
 rw [h4] at hm
 obtain ⟨e, he, h5⟩ := List.mem_map.1 hm
 exact List.mem_map.2 ⟨e, (List.mem_filter.1 he).1, h5⟩
theorem words_qn (ds : List Df) (h : dsE [] ds = 0) (k : Nat) (d : Df) (hk : (wordsOf ds)[k]? = some d) : ∃ names, QN (numb ((wordsOf ds).map (·.nm)) 0) (tysP (numb ((wordsOf ds).map (·.nm)) 0) [] ((wordsOf ds).take k)) names /\ cks names d.body (0, false) = 0 := by
 obtain ⟨i, h1, h2⟩ := filter_at ds k d hk
 have hkl := (List.getElem?_eq_some_iff.1 hk).1
 have h0 := dsE_at ds [] h i d h1
 rw [List.nil_append] at h0
 refine ⟨(ds.take i).map (·.nm), ⟨tysP_ti _ _ _ (by simp), fun s hs z hz => ?_⟩, dfE_body _ d h0⟩
 obtain ⟨n, rfl, hn⟩ := lk_at s _ 0 z hz
 rw [Nat.zero_add, tysP_len, List.length_nil, Nat.zero_add, List.length_take, Nat.min_eq_left (by unfold wordsOf at hkl ⊢; omega)]
 refine ⟨by omega, ?_⟩
 by_cases hnk : n < k
 ·exact_mod_cast hnk
 ·exfalso
  have hnd := nodup_of ds [] (by simp) h
  rw [List.nil_append, <- List.take_append_drop i ds, List.map_append, List.nodup_append] at hnd
  rw [List.getElem?_map] at hn
  obtain ⟨e, he, rfl⟩ : ∃ e, (wordsOf ds)[n]? = some e /\ e.nm = s := by
   cases c : (wordsOf ds)[n]? with
   | none => rw [c] at hn; cases hn
   | some e => rw [c] at hn; exact ⟨e, rfl, by simpa using hn⟩
  have hsp : wordsOf ds = (wordsOf ds).take k ++ wordsOf (ds.drop i) := by
   have h6 : wordsOf ds = wordsOf (ds.take i) ++ wordsOf (ds.drop i) := by unfold wordsOf; rw [<- List.filter_append, List.take_append_drop]
   have h7 : wordsOf (ds.take i) = (wordsOf ds).take k := h2
   rw [h7] at h6
   exact h6
  have hin : e ∈ wordsOf (ds.drop i) := by
   rw [hsp, List.getElem?_append_right (by rw [List.length_take]; omega)] at he
   exact List.mem_of_getElem? he
  exact hnd.2.2 e.nm hs e.nm (List.mem_map.2 ⟨e, (List.mem_filter.1 hin).1, rfl⟩) rfl
theorem own_mono {w : World} {B B' : Nat} {e : TypeId} {s : Nat} {v : Value} {n : Nat} {xs : List Value} (h : w.ownsRow B e s v n xs) (hb : B' <= B) : w.ownsRow B' e s v n xs := by
 refine ⟨h.1, ?_⟩
 rcases h.2 with h | ⟨g, cap, cur, h1, h2, h3⟩
 ·exact .inl h
 ·exact .inr ⟨g, cap, cur, h1, Nat.le_trans hb h2, h3⟩
def shs (ds : List Df) : List Ty := tysP (numb ((wordsOf ds).map (·.nm)) 0) [] (wordsOf ds)
theorem chk_ds {ds : List Df} {bs : List Bk} (h : chk ds bs = 0) : dsE [] ds = 0 := by
 unfold chk at h
 by_cases h0 : dsE [] ds = 0
 ·exact h0
 ·rw [if_neg h0] at h; exact h
def SO (W : World) (ds : List Df) (bs : List Bk) (e : Ending) (w' : World) : Prop :=
 Below W.heap.size W w' /\ (if chk ds bs = 0 then ∃ g c, e = .returned (.tuple #[.slice (some ⟨g, 0, none⟩) (wordsOf ds).length c, .int .i64 0]) /\ w'.ownsRow W.heap.size 47 9 (.slice (some ⟨g, 0, none⟩) (wordsOf ds).length c) (wordsOf ds).length (S.en tyc (shs ds)) else e = .returned (.tuple #[.slice none 0 0, .int .i64 (chk ds bs)]))
theorem shapes_any (ds : List Df) (bs : List Bk) (hd : ds.length <= 1048576) (hnm : ∀ d ∈ ds, d.nm.size <= maxLen) (hlb : bs.length <= 140737488355328) (dv bv : Value) (O : Nat -> Prop) (W : World) (hO : ∀ j, O j -> j < W.heap.size) (hD : DV W O dv ds) (hK : BV W O bv bs) :
  Calls Tryz.prog 12 #[.agg #[dv, bv]] W (SO W ds bs) := by
 obtain ⟨p1, c1, e1, _, _⟩ := id hD
 obtain ⟨p2, c2, e2, _⟩ := id hK
 subst e1 e2
 obtain ⟨W0, hW0⟩ : ∃ W0, W.alloc (.cells #[.slice p1 ds.length c1, .slice p2 bs.length c2] 35) = W0 := ⟨_, rfl⟩
 have hB : Below W.heap.size W W0 := by rw [<- hW0]; exact (Below.refl _ _).alloc (Nat.le_refl _) _
 have v0 : W0.heap[W.heap.size]? = some (.cells [.slice p1 ds.length c1, .slice p2 bs.length c2].toArray 35 (0, 0)) := by rw [<- hW0]; exact heap_alloc_new W _
 have c0 := S.cell_of W0 _ 0 _ 35 _ v0 rfl
 have c1 := S.cell_of W0 _ 1 _ 35 _ v0 rfl
 have hc1 := R.check_any ds bs hnm hlb _ _ O W0 (fun j hj => Nat.lt_of_lt_of_le (hO j hj) hB.size) (hD.below hB hO) (hK.below hB hO)
 have HH := hid (And.intro hB (And.intro v0 (And.intro hD (And.intro hK hO))))
 clear hB v0 hD hK hO
 go_enter Tryz.func12, Tryz.ntmps12
 go_wp2_with fail
 refine hc1.mono ?_
 rintro e w1 ⟨rfl, hb1⟩
 have hB1 : Below W.heap.size W w1 := HH.out.1.trans (hb1.mono HH.out.1.size)
 have v1 := (hb1.block _ (S.lt_of HH.out.2.1)).trans HH.out.2.1
 clear hc1 hW0 c0 c1
 have HV1 := hid (And.intro hB1 v1)
 by_cases hz : chk ds bs = 0
 ·have HZ := hid hz
  rw [hz]
  clear hz
  have c0 := S.cell_of w1 _ 0 _ 35 _ v1 rfl
  have c1 := S.cell_of w1 _ 1 _ 35 _ v1 rfl
  have hcw := wordsOf_any ds hd _ (.slice p2 bs.length c2) ⟨_, _, _, rfl⟩ O w1 (fun j hj => Nat.lt_of_lt_of_le (HH.out.2.2.2.2 j hj) hB1.size) (HH.out.2.2.1.below hB1 HH.out.2.2.2.2)
  clear hB1 v1 hb1
  go_wp2_with fail
  refine hcw.mono ?_
  rintro e w2 ⟨wo, rfl, hb2, hdv⟩
  clear hcw c0 c1
  have hwl : (wordsOf ds).length <= 1048576 := Nat.le_trans (List.length_filter_le _ _) hd
  have hO2 : ∀ j, (O j \/ (w1.heap.size <= j /\ j < w2.heap.size)) -> j < w2.heap.size := fun j hj => by
   rcases hj with hj | hj
   ·exact Nat.lt_of_lt_of_le (HH.out.2.2.2.2 j hj) (Nat.le_trans HV1.out.1.size hb2.size)
   ·exact hj.2
  have hcp := placesOf_any (wordsOf ds) (words_new ds (chk_ds HZ.out)) wo _ w2 hO2 hdv
  have hB2 : Below W.heap.size W w2 := HV1.out.1.trans (hb2.mono HV1.out.1.size)
  obtain ⟨wp, wc, e3, _⟩ := id hdv
  subst e3
  have HD := hid (And.intro hdv (And.intro hO2 (And.intro hB2 hwl)))
  clear hdv hO2 hB2 hwl hb2
  go_wp2_with fail
  refine hcp.mono ?_
  rintro e w3 ⟨rfl, hb3, hM⟩
  clear hcp
  have hct := typed_any _ (wordsOf ds) HD.out.2.2.2 (words_qn ds (chk_ds HZ.out)) _ _ w2.heap.size w3 (fun j hj => Nat.lt_of_lt_of_le (HD.out.2.1 j hj) hb3.size) (HD.out.1.below hb3 HD.out.2.1) hM
  have HB3 := hid (HD.out.2.2.1.trans (hb3.mono HD.out.2.2.1.size))
  clear hb3 hM
  go_wp2_with fail
  refine hct.mono ?_
  rintro e w4 ⟨g, c, rfl, hb4, hR⟩
  have HR := hid (And.intro hb4 hR)
  clear hct hb4 hR
  go_wp2
  refine bodyPost_ret (results_tmp2 rfl _ _ _) rfl ?_
  refine ⟨HB3.out.trans (HR.out.1.mono HB3.out.size), ?_⟩
  rw [if_pos HZ.out]
  exact ⟨g, c, rfl, own_mono HR.out.2 HB3.out.size⟩
 ·have hne : (chk ds bs != 0) = true := by simpa using hz
  have HZ := hid hz
  clear hz hB1 v1 hb1
  go_wp2
  refine bodyPost_ret (results_tmp2 rfl _ _ _) rfl ?_
  refine ⟨HV1.out.1, ?_⟩
  rw [if_neg HZ.out]
  rfl
open Go.Proofs.YtlilefhmohkfkaaGreatDoor.Y (Nd Df Ps)
open R (cks ck own1 inn uses usesF fits ck_is cks_cons)
set_option linter.unusedVariables false
set_option linter.unusedSimpArgs false
set_option maxHeartbeats 1000000
def lv : Nd -> Bool
 | ⟨k, _, _, _, th, el, _, _⟩ => k == 9 || ((th.map lv).any id || (el.map lv).any id)
open R (cks ck)
set_option linter.unusedVariables false
set_option linter.unusedSimpArgs false
set_option maxHeartbeats 1000000
def cnd (nm : ByteArray) : Nd := ⟨3, 0, 0, nm, [], [], false, (0, 0)⟩
open R (cks ck chk Bk dsE dfE lk numb)
set_option linter.unusedVariables false
set_option linter.unusedSimpArgs false
set_option maxHeartbeats 1000000
def nmain : ByteArray := ⟨#[109, 97, 105, 110]⟩
def wd (nm : ByteArray) (l : List Nd) : Df := ⟨1, nm, 0, l, (0, 0)⟩
open Go.RowKit
open Go.Proofs
open Go.Proofs.YtlilefhmohkfkaaGreatDoor.Y (Nd Df Ps ndc dfc hid NV DV D1 cells6 cells9 BV)
set_option linter.unusedVariables false
set_option linter.unusedSimpArgs false
set_option maxHeartbeats 2000000
set_option maxRecDepth 100000
theorem sizeNd : (Tryz.prog.info? 30).map (·.size) = some 9 := by kernel_rfl
theorem sizeDf : (Tryz.prog.info? 27).map (·.size) = some 6 := by kernel_rfl
theorem num_any (x : Int) (W : World) : Calls Tryz.prog 13 #[.int .i64 x] W fun e w' => e = .returned (.int .i64 x) /\ w' = W := by
 go_enter Tryz.func13, Tryz.ntmps13
 go_wp2
 go_ret
 exact ⟨rfl, rfl⟩
theorem prim_law (op : Int) (W : World) : Calls Tryz.prog 26 #[.int .i64 op] W fun e w' => e = .returned (.agg #[.int .i64 1, .int .i64 op, .int .u16 0, .string ⟨#[]⟩, .slice none 0 0, .slice none 0 0, .bool false, .int .i64 0, .int .i64 0]) /\ Below W.heap.size W w' := by
 go_enter Tryz.func26, Tryz.ntmps26
 go_wp2
 exact bodyPost_ret (results_cell_row rfl _ _ W.heap.size 30 _ (0, 0) _ rfl (heap_alloc_new W _) Tryz.underlying30 rfl sizeNd) rfl ⟨rfl, (Below.refl _ _).alloc (Nat.le_refl _) _⟩
theorem lit_law (x : Int) (W : World) : Calls Tryz.prog 27 #[.int .u16 x] W fun e w' => e = .returned (.agg #[.int .i64 2, .int .i64 0, .int .u16 x, .string ⟨#[]⟩, .slice none 0 0, .slice none 0 0, .bool false, .int .i64 0, .int .i64 0]) /\ Below W.heap.size W w' := by
 go_enter Tryz.func27, Tryz.ntmps27
 go_wp2
 exact bodyPost_ret (results_cell_row rfl _ _ W.heap.size 30 _ (0, 0) _ rfl (heap_alloc_new W _) Tryz.underlying30 rfl sizeNd) rfl ⟨rfl, (Below.refl _ _).alloc (Nat.le_refl _) _⟩
theorem call_law (nm : ByteArray) (W : World) : Calls Tryz.prog 8 #[.string nm] W fun e w' => e = .returned (.agg #[.int .i64 3, .int .i64 0, .int .u16 0, .string nm, .slice none 0 0, .slice none 0 0, .bool false, .int .i64 0, .int .i64 0]) /\ Below W.heap.size W w' := by
 go_enter Tryz.func8, Tryz.ntmps8
 go_wp2
 exact bodyPost_ret (results_cell_row rfl _ _ W.heap.size 30 _ (0, 0) _ rfl (heap_alloc_new W _) Tryz.underlying30 rfl sizeNd) rfl ⟨rfl, (Below.refl _ _).alloc (Nat.le_refl _) _⟩
theorem word_law (nm : ByteArray) (p : Option Addr) (n c : Nat) (W : World) : Calls Tryz.prog 7 #[.string nm, .slice p n c] W fun e w' => e = .returned (.agg #[.int .i64 1, .string nm, .int .u16 0, .slice p n c, .int .i64 0, .int .i64 0]) /\ Below W.heap.size W w' := by
 go_enter Tryz.func7, Tryz.ntmps7
 go_wp2
 exact bodyPost_ret (results_cell_row rfl _ _ W.heap.size 27 _ (0, 0) _ rfl (heap_alloc_new W _) Tryz.underlying27 rfl sizeDf) rfl ⟨rfl, (Below.refl _ _).alloc (Nat.le_refl _) _⟩
set_option maxHeartbeats 2000000
set_option maxRecDepth 100000
theorem shF : Tryz.prog.underlying 45 = some (.struct (Tryz.prog.fieldsOf 45)) /\ Tryz.prog.fieldsOf 45 = #[⟨ "In", 3, 0, false, "", "", 0⟩, ⟨ "Out", 3, 1, false, "", "", 8⟩, ⟨ "Data", 3, 2, false, "", "", 16⟩, ⟨ "Return", 3, 3, false, "", "", 24⟩, ⟨ "Never", 4, 4, false, "", "", 32⟩] /\ Tryz.prog.stoodInHeld 45 = false /\ Tryz.prog.cellsOf 3 = 1 /\ Tryz.prog.cellsOf 4 = 1 :=
 ⟨by kernel_rfl, by kernel_rfl, by kernel_rfl, by kernel_rfl, by kernel_rfl⟩
theorem eql_sh (W : World) (i o d r : Int) (n : Bool) : (binOp .eql 45 (.agg #[.int .i64 i, .int .i64 o, .int .i64 d, .int .i64 r, .bool n]) (.agg #[.int .i64 i, .int .i64 o, .int .i64 d, .int .i64 r, .bool n])).run Tryz.prog W = .ok (.bool true) W := by
 obtain ⟨hs, hf, hp, k3, k4⟩ := shF
 rw [run_eql_struct, run_equalIn_agg W 9999 _ _ _ hs hp, hf]
 simp [go_sem, Tryz.underlying3, Tryz.underlying4, k3, k4, Result.andThen]
theorem posF : Tryz.prog.underlying 25 = some (.struct (Tryz.prog.fieldsOf 25)) /\ Tryz.prog.fieldsOf 25 = #[⟨ "Line", 3, 0, false, "", "", 0⟩, ⟨ "Col", 3, 1, false, "", "", 8⟩] /\ Tryz.prog.stoodInHeld 25 = false /\ Tryz.prog.cellsOf 3 = 1 :=
 ⟨by kernel_rfl, by kernel_rfl, by kernel_rfl, by kernel_rfl⟩
theorem eql_pos (W : World) (a b : Int) : (binOp .eql 25 (.agg #[.int .i64 a, .int .i64 b]) (.agg #[.int .i64 a, .int .i64 b])).run Tryz.prog W = .ok (.bool true) W := by
 obtain ⟨hs, hf, hp, k3⟩ := posF
 rw [run_eql_struct, run_equalIn_agg W 9999 _ _ _ hs hp, hf]
 simp [go_sem, Tryz.underlying3, k3, Result.andThen]
end Go.Proofs.YtlilefhmohkfkaaGreatDoor.E
