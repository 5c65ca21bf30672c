import Derived.Test.YtdnklgceghllaaaGreatDoorDDrop
import Derived.Test.YtdnklgceghllaaaGreatDoorDSortR
import Derived.Test.YtdnklgceghllaaaGreatDoorDCatch
import Derived.Test.YtdnklgceghllaaaGreatDoorDPrims
namespace Go.Proofs.YtdnklgceghllaaaGreatDoor.D
open Go.RowKit
open Go.Proofs
open Go.Proofs.YtdnklgceghllaaaGreatDoor.K (Tk)
open Go.Proofs.YtdnklgceghllaaaGreatDoor.Y (Nd Df Ps ndc dfc NV NA N1 ZV hid)
open Go.Proofs.YtdnklgceghllaaaGreatDoor.R (MP En numb)
set_option linter.unusedVariables false
set_option linter.unusedSimpArgs false
set_option maxHeartbeats 4000000
set_option maxRecDepth 100000
open Go.Proofs.YtdnklgceghllaaaGreatDoor.Y (DV BV)
open Go.Proofs.YtdnklgceghllaaaGreatDoor.R (lk)
def RdO (W : World) (res : Except Er (List Df × List (Int × List UInt8))) (en : Ending) (w' : World) : Prop :=
 match res with
 | .ok x => ∃ dv xv, en = .returned (.tuple #[.agg #[dv, xv], .agg #[.int .i64 0, .int .i64 0], .int .i64 0]) /\ DV w' (New W w') dv x.1 /\ BV w' (New W w') xv x.2 /\ Below W.heap.size W w'
 | .error er => en = .returned (.tuple #[.agg #[.slice none 0 0, .slice none 0 0], .agg #[.int .i64 er.1.1, .int .i64 er.1.2], .int .i64 er.2]) /\ Below W.heap.size W w'
def dfr (b : Nat) : List Deferred := [{ target := Target.fn (Fn.func 42) #[.pointer (some ⟨b, 0, none⟩), .pointer (some ⟨b + 1, 0, none⟩), .pointer (some ⟨b + 1 + 1, 0, none⟩)], args := #[] }]
theorem door_res {T : Array Value} {b : Nat} {dv xv : Value} {p : Ps} {c : Int} {W : World} (ht4 : T.getD 4 undef = .pointer (some ⟨b, 0, none⟩)) (ht5 : T.getD 5 undef = .pointer (some ⟨b + 1, 0, none⟩)) (ht6 : T.getD 6 undef = .pointer (some ⟨b + 1 + 1, 0, none⟩)) (h : Rz W b dv xv p c) : (results Tryz.f21 T).run Tryz.prog W = .ok (.tuple #[.agg #[dv, xv], .agg #[.int .i64 p.1, .int .i64 p.2], .int .i64 c]) W := by
 have c0 := S.cell_of W b 0 [dv, xv] _ _ h.p0 rfl
 have c1 := S.cell_of W b 1 [dv, xv] _ _ h.p0 rfl
 have c2 := S.cell_of W (b + 1) 0 [.int .i64 p.1, .int .i64 p.2] _ _ h.p1 rfl
 have c3 := S.cell_of W (b + 1) 1 [.int .i64 p.1, .int .i64 p.2] _ _ h.p1 rfl
 have c4 := S.cell_of W (b + 1 + 1) 0 [.int .i64 c] _ _ h.p2 rfl
 have t4 : T[4]?.getD undef = .pointer (some ⟨b, 0, none⟩) := by rw [<- Array.getD_eq_getD_getElem?]; exact ht4
 have t5 : T[5]?.getD undef = .pointer (some ⟨b + 1, 0, none⟩) := by rw [<- Array.getD_eq_getD_getElem?]; exact ht5
 have t6 : T[6]?.getD undef = .pointer (some ⟨b + 1 + 1, 0, none⟩) := by rw [<- Array.getD_eq_getD_getElem?]; exact ht6
 simp [results, Tryz.results21, go_sem, t4, t5, t6, c0, c1, c2, c3, c4]
theorem door_panic (W w : World) (er : Er) (res : Except Er (List Df × List (Int × List UInt8))) (hres : res = .error er) (b : Nat) (hb : W.heap.size <= b) (T : Array Value) (ht4 : T.getD 4 undef = .pointer (some ⟨b, 0, none⟩)) (ht5 : T.getD 5 undef = .pointer (some ⟨b + 1, 0, none⟩)) (ht6 : T.getD 6 undef = .pointer (some ⟨b + 1 + 1, 0, none⟩)) (dv xv : Value) (p : Ps) (c : Int) (h : Rz w b dv xv p c) (hB : Below W.heap.size W w) :
  bodyPostD Tryz.prog Tryz.f21 (RdO W res) (Exit.panic (flt er)) { tmps := T, defers := dfr b } w := by
 subst hres
 unfold dfr
 refine leaves_cons (f := 42) (args := #[.pointer (some ⟨b, 0, none⟩), .pointer (some ⟨b + 1, 0, none⟩), .pointer (some ⟨b + 1 + 1, 0, none⟩)]) (by simp) (by simp [go_sem]) ?_
 refine (catch_flt dv xv p c er b w h).mono ?_
 rintro e u' w'' ⟨rfl, rfl, g0, g1⟩
 exact ⟨_, door_res ht4 ht5 ht6 g0, rfl, hB.trans (g1 _ hb)⟩
theorem door_ret (W w : World) (res : Except Er (List Df × List (Int × List UInt8))) (b : Nat) (T : Array Value) (ht4 : T.getD 4 undef = .pointer (some ⟨b, 0, none⟩)) (ht5 : T.getD 5 undef = .pointer (some ⟨b + 1, 0, none⟩)) (ht6 : T.getD 6 undef = .pointer (some ⟨b + 1 + 1, 0, none⟩)) (dv xv : Value) (x : List Df × List (Int × List UInt8)) (h : Rz w b dv xv (0, 0) 0) (hd : DV w (New W w) dv x.1) (hx : BV w (New W w) xv x.2) (hB : Below W.heap.size W w) (hres : res = .ok x) :
  bodyPostD Tryz.prog Tryz.f21 (RdO W res) Exit.ret { tmps := T, defers := dfr b } w := by
 subst hres
 unfold dfr
 refine leaves_cons (f := 42) (args := #[.pointer (some ⟨b, 0, none⟩), .pointer (some ⟨b + 1, 0, none⟩), .pointer (some ⟨b + 1 + 1, 0, none⟩)]) (by simp) (by simp [go_sem]) ?_
 refine (catch_idle b w).mono ?_
 rintro e u' w'' ⟨rfl, rfl, rfl⟩
 exact ⟨_, door_res ht4 ht5 ht6 h, dv, xv, rfl, hd, hx, hB⟩
theorem leaves_congr {fn : Func} {T T' : Array Value} {R : Ending -> World -> Prop} (h : results fn T = results fn T') : ∀ (ds : List Deferred) (u : FrameMode) (w : World), Leaves Tryz.prog fn T R ds u w -> Leaves Tryz.prog fn T' R ds u w
 | [], .returning, w, hL => by obtain ⟨v, h1, h2⟩ := hL; exact ⟨v, h ▸ h1, h2⟩
 | [], .panicking c, w, hL => hL
 | [], .run, w, hL => hL
 | d :: ds, u, w, hL => by
  obtain ⟨h1, fv, cap, f, args, h2, h3, h4⟩ := hL
  refine ⟨h1, fv, cap, f, args, h2, h3, h4.mono ?_⟩
  intro e u' w' he
  cases e with
  | returned v => exact leaves_congr h ds _ _ he
  | panicked c => exact leaves_congr h ds _ _ he
  | outgrown => exact he
theorem res_put (T : Array Value) (d : Nat) (v : Value) (h4 : d ≠ 4 /\ d ≠ 5 /\ d ≠ 6) : results Tryz.f21 (T.setIfInBounds d v) = results Tryz.f21 T := by
 have e4 : (T.setIfInBounds d v)[4]? = T[4]? := Array.getElem?_setIfInBounds_ne h4.1
 have e5 : (T.setIfInBounds d v)[5]? = T[5]? := Array.getElem?_setIfInBounds_ne h4.2.1
 have e6 : (T.setIfInBounds d v)[6]? = T[6]? := Array.getElem?_setIfInBounds_ne h4.2.2
 simp [results, Tryz.results21, e4, e5, e6]
theorem put_door {R : Ending -> World -> Prop} {c : List PanicEntry} {a : Act} {w : World} (d : Nat) (h4 : d ≠ 4 /\ d ≠ 5 /\ d ≠ 6) (v : Value) (h : bodyPostD Tryz.prog Tryz.f21 R (.panic c) (a.put (some d) v) w) : bodyPostD Tryz.prog Tryz.f21 R (.panic c) a w :=
 leaves_congr (res_put a.tmps d v h4) _ _ _ h
theorem okPO : okT 28 = true := by decide
theorem okPG : okT 26 = true := by decide
theorem okEN : okT 29 = true := by decide
def tk0 : Tk := ⟨0, Y.e0, 0, (0, 0)⟩
def rd0 (ts : List Tk) : Rd := ⟨ts, [], [], tk0, [], [], false⟩
def rv0 (tv : Value) (mn mp : Nat) : Rv := ⟨tv, .slice none 0 0, .slice none 0 0, mn, mp, .slice none 0 0, .slice none 0 0, [], fun _ => 0, [], []⟩
theorem RC.start (W : World) (pm : Px) (e : Ps) (ts : List Tk) (tv : Value) (mn mp : Nat) (y : World) (hB : Below W.heap.size W y) (ht : S.Ls tkc 5 W tv ts) (hk : MP y mn []) (hp : MP y mp pm.m) (hmn : W.heap.size <= mn) (hne : mn ≠ mp) (hx : ∀ x ∈ pm.x, okT x.2.2 = true /\ y.heap[x.1]? = some (.cells x.2.1.toArray x.2.2 (0, 0))) (y2 : World) (hy2 : y.alloc (.cells (rdc e (rd0 ts) (rv0 tv mn mp)).toArray RD) = y2) :
  RC W pm y.heap.size e y2 (rd0 ts) (rv0 tv mn mp) := by
 have hb2 : Below y.heap.size y y2 := by rw [<- hy2]; exact (Below.refl _ _).alloc (Nat.le_refl _) _
 have l1 := hk.lt
 have l2 := hp.lt
 refine ⟨hB.size, hB.trans (hb2.mono hB.size), by rw [<- hy2]; exact heap_alloc_new y _, ht, hk.kept (hb2.block _ l1), hp.kept (hb2.block _ l2), ⟨by show mn ≠ y.heap.size; omega, hmn⟩, by show mp ≠ y.heap.size; omega, hne, fun b hb => absurd rfl hb, fun b hb => absurd rfl hb, World.ownsRow_nil _ _ _ _, rfl, fun i d w hd => by simp [rd0] at hd, World.ownsRow_nil _ _ _ _, rfl, fun i d w hd => by simp [rd0] at hd, fun x hx' => ⟨(hx x hx').1, (hb2.block _ (Array.getElem?_eq_some_iff.1 (hx x hx').2).1).trans (hx x hx').2⟩⟩
theorem itemsN_end (pr : ByteArray -> Option Int) (e : Ps) (n : Nat) (r : Rd) (h : r.rest = []) : itemsN pr e n r = .ok r := by
 cases n with
 | zero => rfl
 | succ n => unfold itemsN; rw [h]; rfl
theorem itemsN_err (pr : ByteArray -> Option Int) (e : Ps) (n : Nat) (r : Rd) (er : Er) (h : r.rest ≠ []) (h1 : item pr e r = .error er) : itemsN pr e (n + 1) r = .error er := by
 rw [itemsN, if_neg (by simpa using h), h1]; rfl
theorem itemsN_step (pr : ByteArray -> Option Int) (e : Ps) (n : Nat) (r r1 : Rd) (h : r.rest ≠ []) (h1 : item pr e r = .ok r1) : itemsN pr e (n + 1) r = itemsN pr e n r1 := by
 rw [itemsN, if_neg (by simpa using h), h1]; rfl
def RL (W0 : World) (pm : Px) (g : Nat) (e : Ps) (RES : Re) (w : World) : Prop :=
 ∃ r q n, RC W0 pm g e w r q /\ IV 1000000 r /\ itemsN (lk pm.m) e n r = RES /\ r.rest.length + 1 <= n
def rres (e : Ps) (x : Re) : Except Er (List Df × List (Int × List UInt8)) := match x with
 | .ok r => if r.defs.any R.isMain then .ok (r.defs, r.banks.mergeSort fun a b => decide (a.1 <= b.1)) else .error (e, 107)
 | .error er => .error er
theorem read_is (pr : ByteArray -> Option Int) (e : Ps) (ts : List Tk) : read pr e ts = rres e (itemsN pr e (ts.length + 1) (rd0 ts)) := by
 unfold read rres rd0 tk0
 cases itemsN pr e (ts.length + 1) ⟨ts, [], [], ⟨0, Y.e0, 0, (0, 0)⟩, [], [], false⟩ <;> rfl
theorem read_any (e : Ps) (ts : List Tk) (tv : Value) (W : World) (ht : S.Ls tkc 5 W tv ts) (hts : Tks ts) (hl : ts.length <= 1000000) :
  Calls Tryz.prog 21 #[tv, .agg #[.int .i64 e.1, .int .i64 e.2]] W (RdO W (read (lk PM) e ts)) := by
 have hmf : ∀ (fn : Fn) (first cap : Array Value) (w : World), (Instr.makeFunc fn first cap).run Tryz.prog w = .ok (.func fn first cap) w := fun _ _ _ _ => rfl
 have hmm := @run_makeMap Tryz.prog
 rw [read_is]
 obtain ⟨RES, hRES⟩ : ∃ RES, itemsN (lk PM) e (ts.length + 1) (rd0 ts) = RES := ⟨_, rfl⟩
 rw [hRES]
 obtain ⟨tp, tc, htv, _, _⟩ := ht.ex
 obtain ⟨W1, hW1⟩ : ∃ W1, W.alloc (.cells #[.int .i64 e.1, .int .i64 e.2] 28) = W1 := ⟨_, rfl⟩
 obtain ⟨W2, hW2⟩ : ∃ W2, W1.alloc (.cells #[.slice none 0 0, .slice none 0 0] 26) = W2 := ⟨_, rfl⟩
 obtain ⟨W3, hW3⟩ : ∃ W3, W2.alloc (.cells #[.int .i64 0, .int .i64 0] 28) = W3 := ⟨_, rfl⟩
 obtain ⟨W4, hW4⟩ : ∃ W4, W3.alloc (.cells #[.int .i64 0] 29) = W4 := ⟨_, rfl⟩
 have s1 : W1.heap.size = W.heap.size + 1 := by rw [<- hW1]; simp
 have s2 : W2.heap.size = W.heap.size + 1 + 1 := by rw [<- hW2]; simp [s1]
 have s3 : W3.heap.size = W.heap.size + 1 + 1 + 1 := by rw [<- hW3]; simp [s2]
 have s4 : W4.heap.size = W.heap.size + 1 + 1 + 1 + 1 := by rw [<- hW4]; simp [s3]
 have e4 : (((W.alloc (.cells #[.int .i64 e.1, .int .i64 e.2] 28)).alloc (.cells #[.slice none 0 0, .slice none 0 0] 26)).alloc (.cells #[.int .i64 0, .int .i64 0] 28)).alloc (.cells #[.int .i64 0] 29) = W4 := by rw [hW1, hW2, hW3, hW4]
 have hB : Below W.heap.size W W4 := by rw [<- e4]; exact ((((Below.refl _ _).alloc (Nat.le_refl _) _).alloc (by simp) _).alloc (by simp; omega) _).alloc (by simp; omega) _
 have k0 : W4.heap[W.heap.size]? = some (.cells [.int .i64 e.1, .int .i64 e.2].toArray 28 (0, 0)) := by
  rw [<- hW4, Below.heap_alloc _ _ _ (by omega), <- hW3, Below.heap_alloc _ _ _ (by omega), <- hW2, Below.heap_alloc _ _ _ (by omega), <- hW1]; exact heap_alloc_new W _
 have k1 : W4.heap[W.heap.size + 1]? = some (.cells [.slice none 0 0, .slice none 0 0].toArray 26 (0, 0)) := by
  rw [<- hW4, Below.heap_alloc _ _ _ (by omega), <- hW3, Below.heap_alloc _ _ _ (by omega), <- hW2, <- s1]; exact heap_alloc_new W1 _
 have k2 : W4.heap[W.heap.size + 1 + 1]? = some (.cells [.int .i64 0, .int .i64 0].toArray 28 (0, 0)) := by
  rw [<- hW4, Below.heap_alloc _ _ _ (by omega), <- hW3, <- s2]; exact heap_alloc_new W2 _
 have k3 : W4.heap[W.heap.size + 1 + 1 + 1]? = some (.cells [.int .i64 0].toArray 29 (0, 0)) := by
  rw [<- hW4, <- s3]; exact heap_alloc_new W3 _
 obtain ⟨pm, hpm⟩ : ∃ pm : Px, ⟨PM, [(W.heap.size, [.int .i64 e.1, .int .i64 e.2], 28), (W.heap.size + 1, [.slice none 0 0, .slice none 0 0], 26), (W.heap.size + 1 + 1, [.int .i64 0, .int .i64 0], 28), (W.heap.size + 1 + 1 + 1, [.int .i64 0], 29)]⟩ = pm := ⟨_, rfl⟩
 have HEX := hid (fun (w : World) (hb : Below W4.heap.size W4 w) => show ∀ x ∈ pm.x, okT x.2.2 = true /\ w.heap[x.1]? = some (.cells x.2.1.toArray x.2.2 (0, 0)) from by
  rw [<- hpm]
  intro x hx
  simp only [List.mem_cons, List.not_mem_nil, or_false] at hx
  rcases hx with rfl | rfl | rfl | rfl
  ·exact ⟨okPO, (hb.block _ (by omega)).trans k0⟩
  ·exact ⟨okPG, (hb.block _ (by omega)).trans k1⟩
  ·exact ⟨okPO, (hb.block _ (by omega)).trans k2⟩
  ·exact ⟨okEN, (hb.block _ (by omega)).trans k3⟩)
 have HSX := hid (fun (w : World) (hb : Below W4.heap.size W4 w) => show (w.cell? ⟨W.heap.size, 0, none⟩ = some (.int .i64 e.1) /\ w.cell? ⟨W.heap.size, 1, none⟩ = some (.int .i64 e.2)) from by
  have k := (hb.block _ (by omega)).trans k0
  exact ⟨S.cell_of w _ 0 _ 28 _ k rfl, S.cell_of w _ 1 _ 28 _ k rfl⟩)
 have HPM := hid (show pm.m = PM /\ (⟨PM, [(W.heap.size, [.int .i64 e.1, .int .i64 e.2], 28), (W.heap.size + 1, [.slice none 0 0, .slice none 0 0], 26), (W.heap.size + 1 + 1, [.int .i64 0, .int .i64 0], 28), (W.heap.size + 1 + 1 + 1, [.int .i64 0], 29)]⟩ : Px).x = pm.x from by rw [<- hpm]; exact ⟨rfl, rfl⟩)
 have HRES := hid (And.intro hRES (And.intro hts hl))
 have HB := hid (And.intro hB s4)
 have HT := hid ht
 have HPR := hid (fun w => prims_any w)
 clear ht hts hl hRES k0 k1 k2 k3 hB hW1 hW2 hW3 hW4 s1 s2 s3 s4 hpm
 subst htv
 go_enter_defers Tryz.func21, Tryz.ntmps21
 go_upto_region 2 with fail
 clear e4 hmf
 have hBr : Below W4.heap.size W4 W4.drew := ⟨rfl, rfl, rfl, Nat.le_refl _, fun _ _ => rfl⟩
 refine wp_region_held_drew (S := fun wz : World => wz.cell? ⟨W.heap.size, 0, none⟩ = some (.int .i64 e.1) /\ wz.cell? ⟨W.heap.size, 1, none⟩ = some (.int .i64 e.2)) (by kernel_rfl) (HSX.out _ hBr) (fun hHeld => ?_)
 generalize W4.drew = y0 at *
 refine wpAnyH_take (i := 0) (v := ?_) rfl (by kernel_rfl) (by kernel_rfl) (by kernel_rfl) (fun c a w h => put_door _ (by decide) _ h) (Or.inl ⟨by rfl, ?_⟩) hHeld ?_
 rotate_left
 ·(intro w hSw; (try dsimp only at hSw); go_simp; try with_reducible rfl)
 simp only [D.pts]
 refine wpAnyH_take (i := 1) (v := ?_) rfl (by kernel_rfl) (by kernel_rfl) (by kernel_rfl) (fun c a w h => put_door _ (by decide) _ h) (Or.inl ⟨by rfl, ?_⟩) hHeld ?_
 rotate_left
 ·(intro w hSw; (try dsimp only at hSw); go_simp; try with_reducible rfl)
 simp only [D.pts]
 refine wpAnyH_ready (rs := [2, 3]) (by kernel_rfl) (by simp) ?_
 refine AllReadyH.cons rfl (fun K hK => ?_) (AllReadyH.cons rfl (fun K hK => ?_) AllReadyH.nil)
 ·rw [if_pos (by rfl)]
  go_simp
  obtain ⟨y1, hy1⟩ : ∃ y1, y0.alloc (.map #[] 0) = y1 := ⟨_, rfl⟩
  have hby1 : Below y0.heap.size y0 y1 := by rw [<- hy1]; exact (Below.refl _ _).alloc (Nat.le_refl _) _
  have mky1 : MP y1 y0.heap.size [] := by rw [<- hy1]; exact R.MP.made y0
  try rw [hy1]
  have hBm : Below W4.heap.size W4 y1 := hBr.trans (hby1.mono hBr.size)
  refine hK.out _ _ (HSX.out _ hBm) (fun hHeld => ?_)
  clear hK K
  try simp only [D.pts]
  refine wpAnyH_ready (rs := [3]) (by kernel_rfl) (by simp) ?_
  refine AllReadyH.cons rfl (fun K hK => ?_) AllReadyH.nil
  rw [if_pos (by rfl)]
  go_simp
  refine (HPR.out y1).mono ?_
  rintro e' y2 ⟨rfl, mpy2, hby2⟩
  have hBn : Below W4.heap.size W4 y2 := hBm.trans (hby2.mono hBm.size)
  refine hK.out _ _ (HSX.out _ hBn) (fun hHeld => ?_)
  clear hK K
  try simp only [D.pts]
  have hkn : MP y2 y0.heap.size [] := mky1.kept (hby2.block _ mky1.lt)
  have hpr : MP y2 y1.heap.size PM := mpy2
  have hle : W.heap.size <= y0.heap.size := by have := hBr.size; have := HB.out.2; omega
  have hne : y0.heap.size ≠ y1.heap.size := by have := mky1.lt; omega
  obtain ⟨mn, hmn⟩ : ∃ mn, y0.heap.size = mn := ⟨_, rfl⟩
  obtain ⟨mp, hmp⟩ : ∃ mp, y1.heap.size = mp := ⟨_, rfl⟩
  rw [hmn] at hkn hle hne
  rw [hmp] at hpr hne
  try rw [hmn]
  try rw [hmp]
  refine wpAnyH_take (i := 4) (v := ?_) rfl (by kernel_rfl) (by kernel_rfl) (by kernel_rfl) (fun c a w h => put_door _ (by decide) _ h) (Or.inl ⟨by rfl, ?_⟩) hHeld ?_
  rotate_left
  ·(intro w hSw; (try dsimp only at hSw); go_simp; try with_reducible rfl)
  simp only [D.pts]
  obtain ⟨y3, hy3⟩ : ∃ y3, y2.alloc (.cells (rdc e (rd0 ts) (rv0 (.slice tp ts.length tc) mn mp)).toArray RD) = y3 := ⟨_, rfl⟩
  have hR := RC.start W pm e ts (.slice tp ts.length tc) mn mp y2 (HB.out.1.trans (hBn.mono HB.out.1.size)) HT.out hkn (by rw [HPM.out.1]; exact hpr) hle hne (HEX.out _ hBn) y3 hy3
  have hb3 : Below y2.heap.size y2 y3 := by rw [<- hy3]; exact (Below.refl _ _).alloc (Nat.le_refl _) _
  have hB3 := hBn.trans (hb3.mono hBn.size)
  refine wpAnyH_ready (rs := [5]) (by kernel_rfl) (by simp) ?_
  refine AllReadyH.cons rfl (fun K hK => ?_) AllReadyH.nil
  rw [if_pos (by rfl)]
  have hy4 : y2.alloc (.cells #[.slice tp ts.length tc, .int .i64 e.1, .int .i64 e.2, .slice none 0 0, .slice none 0 0, .map (some mn), .map (some mp), .int .i64 0, .string ⟨#[]⟩, .int .u16 0, .int .i64 0, .int .i64 0, .slice none 0 0, .slice none 0 0, .bool false] RD) = y3 := hy3
  go_simp
  try rw [hy4]
  refine hK.out _ _ (HSX.out _ hB3) (fun hHeld => ?_)
  clear hK K
  try simp only [D.pts]
  refine wpAnyH_take (i := 6) (v := ?_) rfl (by kernel_rfl) (by kernel_rfl) (by kernel_rfl) (fun c a w h => put_door _ (by decide) _ h) (Or.inl ⟨by rfl, ?_⟩) hHeld ?_
  rotate_left
  ·(intro w hSw; (try dsimp only at hSw); go_simp; try with_reducible rfl)
  simp only [D.pts]
  refine wpAnyH_done (by kernel_rfl) ?_ _
  obtain ⟨g, hg⟩ : ∃ g, y2.heap.size = g := ⟨_, rfl⟩
  rw [hg] at hR
  try rw [hg]
  have HR := hid hR
  clear hkn hpr hle hne hmn hmp hy3 hy4 hR hb3 hB3 hBn hBm hBr hHeld hg hmm HPR HT HSX HEX
  have HZ := hid (fun (w : World) (hx : ∀ x ∈ pm.x, okT x.2.2 = true /\ w.heap[x.1]? = some (.cells x.2.1.toArray x.2.2 (0, 0))) => show (w.heap[W.heap.size]? = some (.cells [.int .i64 e.1, .int .i64 e.2].toArray 28 (0, 0)) /\ Rz w (W.heap.size + 1) (.slice none 0 0) (.slice none 0 0) (0, 0) 0) from by
   rw [<- HPM.out.2] at hx
   exact ⟨(hx (W.heap.size, [.int .i64 e.1, .int .i64 e.2], 28) (by simp)).2, ⟨(hx (W.heap.size + 1, [.slice none 0 0, .slice none 0 0], 26) (by simp)).2, (hx (W.heap.size + 1 + 1, [.int .i64 0, .int .i64 0], 28) (by simp)).2, (hx (W.heap.size + 1 + 1 + 1, [.int .i64 0], 29) (by simp)).2⟩⟩)
  go_wp2_with fail
  go_loopw [] (fun wr => RL W pm g e RES wr) (fun wr => restC g wr)
  case atStart =>
   refine ⟨_, _, ts.length + 1, HR.out, ⟨by show 0 + 0 + ts.length <= _; have := HRES.out.2.2; omega, by show ([] : List Int).Nodup; simp, HRES.out.2.1⟩, by rw [HPM.out.1]; exact HRES.out.1, Nat.le_refl _⟩
  case round =>
   obtain ⟨r, q, n, hR, hiv, hres, hn⟩ := hrel
   have HI := hid (And.intro hR (And.intro hiv (And.intro hres hn)))
   obtain ⟨rp, rc, hrv, _, _⟩ := hR.rest.ex
   have x0 := (rd_cells hR.blk).1
   rw [hrv] at x0
   clear hR hiv hres hn hrv
   cases hrs : r.rest with
   | nil =>
    have HE := hid (show RES = .ok r from HI.out.2.2.1.symm.trans (itemsN_end _ e n r hrs))
    rw [hrs] at x0
    obtain ⟨hR, hiv, hres, hn⟩ := HI.out
    have hli := hiv.len
    have hdl : r.defs.length <= 1000000 := by omega
    have hbl : r.banks.length <= 1000000 := by omega
    have hnd := hiv.nod
    have hcm := R.containsMain r.defs q.dv (NewB W wr) wr (fun j hj => hj.1.2) (hR.dvs hdl)
    have x3 := (rd_cells hR.blk).2.2.2.1
    obtain ⟨pd, cd, hdv⟩ := dv_val hR
    rw [hdv] at x3 hcm
    have HR5 := hid (And.intro hR (And.intro hdl (And.intro hbl hnd)))
    clear hR hiv hres hn hli hdl hbl hnd hrs HI
    go_wp2_with fail
    refine hcm.mono ?_
    rintro e' w5 ⟨rfl, hb5⟩
    clear hcm x0 x3
    obtain ⟨hR, hdl, hbl, hnd⟩ := HR5.out
    have hR5 := hR.next hb5
    obtain ⟨z0, z1⟩ := HZ.out w5 hR5.ex
    have c0 := S.cell_of w5 _ 0 _ 28 _ z0 rfl
    have c1 := S.cell_of w5 _ 1 _ 28 _ z0 rfl
    have x4 := (rd_cells hR5.blk).2.2.2.2.1
    obtain ⟨px, cx, hxv, _⟩ := hR5.banksRow
    rw [hxv] at x4
    have hso := sort_rc W pm g e w5 r q hR5 hdl hbl hnd
    rw [hxv] at hso
    have HR6 := hid (And.intro hR5 (And.intro z1 (And.intro hdv hxv)))
    clear hR hdl hbl hnd hR5 z0 z1 hb5 HR5
    cases hmain : r.defs.any R.isMain with
    | false =>
     go_wp2_with fail
     exact door_panic W w5 (e, 107) (rres e RES) (by rw [HE.out]; show (if r.defs.any R.isMain = true then _ else _) = _; rw [if_neg (by rw [hmain]; decide)]) (W.heap.size + 1) (by omega) _ rfl rfl rfl _ _ _ _ HR6.out.2.1 HR6.out.1.bel
    | true =>
     go_wp2_with fail
     refine hso.mono ?_
     rintro e' w6 ⟨rfl, hg6, hx6, hD6, hX6, hB6⟩
     clear hso c0 c1 x4
     obtain ⟨hR5, z1, hdv, hxv⟩ := HR6.out
     have hb6 := hg6.trans hR5.blk
     have y3 := (rd_cells hb6).2.2.2.1
     have y4 := (rd_cells hb6).2.2.2.2.1
     have hex6 : ∀ x ∈ pm.x, okT x.2.2 = true /\ w6.heap[x.1]? = some (.cells x.2.1.toArray x.2.2 (0, 0)) := fun x hx => ⟨(hR5.ex x hx).1, (hx6 x hx).trans (hR5.ex x hx).2⟩
     obtain ⟨_, hz6⟩ := HZ.out w6 hex6
     rw [hdv] at y3 hD6
     rw [hxv] at y4
     have H6 := hid (And.intro hD6 (And.intro hX6 (And.intro hB6 hz6)))
     have p0 := hz6.p0
     clear hR5 z1 hdv hxv hb6 hg6 hx6 hD6 hX6 hB6 hex6 HR6
     have p1 : (w6.setRow (W.heap.size + 1) #[.slice pd r.defs.length cd, .slice px r.banks.length cx]).heap[W.heap.size + 1 + 1]? = some (.cells #[.int .i64 0, .int .i64 0] 28 (0, 0)) := (setRow_other w6 _ _ _ (by omega)).trans hz6.p1
     have p2 : ((w6.setRow (W.heap.size + 1) #[.slice pd r.defs.length cd, .slice px r.banks.length cx]).setRow (W.heap.size + 1 + 1) #[.int .i64 0, .int .i64 0]).heap[W.heap.size + 1 + 1 + 1]? = some (.cells [.int .i64 0].toArray 29 (0, 0)) := (setRow_other _ _ _ _ (by omega)).trans ((setRow_other w6 _ _ _ (by omega)).trans hz6.p2)
     have t2 := S.cell_of ((w6.setRow (W.heap.size + 1) #[.slice pd r.defs.length cd, .slice px r.banks.length cx]).setRow (W.heap.size + 1 + 1) #[.int .i64 0, .int .i64 0]) _ 0 _ 29 _ p2 rfl
     have f2 := S.frozen_of ((w6.setRow (W.heap.size + 1) #[.slice pd r.defs.length cd, .slice px r.banks.length cx]).setRow (W.heap.size + 1 + 1) #[.int .i64 0, .int .i64 0]) _ 0 _ 29 p2
     have HP2 := hid (And.intro p0 (And.intro p1 p2))
     clear hz6 p2
     go_wp2_with (first | (refine wpList_store_row rfl 26 _ _ rfl (W.heap.size + 1) _ rfl rfl 26 _ p0 (by exact sizePG) (by rfl) (by simp [Value.oneCell']) ?_) | (refine wpList_store_row rfl 28 _ _ rfl (W.heap.size + 1 + 1) _ rfl rfl 28 _ p1 (by exact sizePO) (by rfl) (by simp [Value.oneCell']) ?_))
     obtain ⟨hD6, hX6, hB6, hz6⟩ := H6.out
     obtain ⟨p0, p1, p2⟩ := HP2.out
     have q0 := setRow_heap w6 (W.heap.size + 1) _ #[.slice pd r.defs.length cd, .slice px r.banks.length cx] _ _ p0
     have q1 := setRow_heap (w6.setRow (W.heap.size + 1) #[.slice pd r.defs.length cd, .slice px r.banks.length cx]) (W.heap.size + 1 + 1) _ #[.int .i64 0, .int .i64 0] _ _ p1
     obtain ⟨w8, hw8⟩ : ∃ w8, ((w6.setRow (W.heap.size + 1) #[.slice pd r.defs.length cd, .slice px r.banks.length cx]).setRow (W.heap.size + 1 + 1) #[.int .i64 0, .int .i64 0]) = w8 := ⟨_, rfl⟩
     have k8 : ∀ j, j ≠ W.heap.size + 1 -> j ≠ W.heap.size + 1 + 1 -> w8.heap[j]? = w6.heap[j]? := fun j h1 h2 => by rw [<- hw8]; exact (setRow_other _ _ _ _ h2).trans (setRow_other w6 _ _ _ h1)
     have r0 : w8.heap[W.heap.size + 1]? = some (.cells #[.slice pd r.defs.length cd, .slice px r.banks.length cx] 26 (0, 0)) := by rw [<- hw8]; exact (setRow_other _ _ _ _ (by omega)).trans q0
     rw [hw8] at p2 q1
     have hs8 : w8.heap.size = w6.heap.size := by rw [<- hw8, size_setRow, size_setRow]
     have hBe8 : Below W.heap.size W w8 := by rw [<- hw8]; exact row_below (row_below hB6 _ (by omega) _) _ (by omega) _
     try rw [hw8]
     clear hw8
     have ok8 : ∀ j, NewB W w6 j -> (w8.setCell ⟨W.heap.size + 1 + 1 + 1, 0, none⟩ (.int .i64 0)).heap[j]? = w6.heap[j]? := fun j hj => by
      obtain ⟨_, c, t, hc, hk⟩ := hj
      refine (heap_setCell_other w8 ⟨W.heap.size + 1 + 1 + 1, 0, none⟩ j _ (ty_ne hc hz6.p2 (by rintro rfl; rw [okEN] at hk; cases hk))).trans (k8 j (ty_ne hc hz6.p0 (by rintro rfl; rw [okPG] at hk; cases hk)) (ty_ne hc hz6.p1 (by rintro rfl; rw [okPO] at hk; cases hk)))
     have hsz9 : (w8.setCell ⟨W.heap.size + 1 + 1 + 1, 0, none⟩ (.int .i64 0)).heap.size = w6.heap.size := by rw [World.size_setCell, hs8]
     exact door_ret W _ (rres e RES) (W.heap.size + 1) _ rfl rfl rfl (.slice pd r.defs.length cd) (.slice px r.banks.length cx) (r.defs, r.banks.mergeSort fun a b => decide (a.1 <= b.1)) ⟨(heap_setCell_other w8 ⟨W.heap.size + 1 + 1 + 1, 0, none⟩ _ _ (by show W.heap.size + 1 ≠ W.heap.size + 1 + 1 + 1; omega)).trans r0, (heap_setCell_other w8 ⟨W.heap.size + 1 + 1 + 1, 0, none⟩ _ _ (by show W.heap.size + 1 + 1 ≠ W.heap.size + 1 + 1 + 1; omega)).trans q1, heap_setCell_same w8 _ 0 _ _ _ p2⟩ (hD6.kept ok8 (fun j hj => ⟨hj.1.1, by rw [hsz9]; exact hj.1.2⟩)) (hX6.kept ok8 (fun j hj => ⟨hj.1.1, by rw [hsz9]; exact hj.1.2⟩)) (hBe8.setCell (p := ⟨W.heap.size + 1 + 1 + 1, 0, none⟩) (by show W.heap.size <= W.heap.size + 1 + 1 + 1; omega) _) (by rw [HE.out]; show (if r.defs.any R.isMain = true then _ else _) = _; rw [if_pos hmain])
   | cons t5 ts5 =>
    rw [hrs] at x0
    obtain ⟨hR, hiv, hres, hn⟩ := HI.out
    have hli := hiv.len
    have hcall := item_any W pm g e wr r q hR (by omega) (by omega) hiv.tks (by omega)
    have i1 : (0 : Int) < ((ts5.length + 1 : Nat) : Int) := by omega
    have HNE := hid (show r.rest ≠ [] from by rw [hrs]; simp)
    obtain ⟨L5, hL5⟩ : ∃ L5, ts5.length + 1 = L5 := ⟨_, rfl⟩
    have x0' : wr.cell? ⟨g, 0, none⟩ = some (.slice rp L5 rc) := by rw [<- hL5]; exact x0
    rw [hL5] at i1
    clear x0 hL5 hR hiv hres hn hli hrs
    cases hit : item (lk pm.m) e r with
    | error er =>
     rw [hit] at hcall
     have hcall' : Calls _ _ _ _ (fun en w' => en = .panicked (flt er) /\ Bx W pm w') := hcall
     have HE := hid (show RES = .error er from by
      obtain ⟨_, _, hres, hn⟩ := HI.out
      obtain ⟨k, rfl⟩ : ∃ k, n = k + 1 := ⟨n - 1, by omega⟩
      exact hres.symm.trans (itemsN_err _ e k r er HNE.out hit))
     clear hcall hit
     go_wp2_with fail
     refine hcall'.mono ?_
     rintro e' w9 ⟨rfl, h9⟩
     exact door_panic W w9 er (rres e RES) (by rw [HE.out]; rfl) (W.heap.size + 1) (by omega) _ rfl rfl rfl _ _ _ _ (HZ.out w9 h9.2).2 h9.1
    | ok r6 =>
     rw [hit] at hcall
     have hcall' : Calls _ _ _ _ (fun en w' => en = .returned (.tuple #[]) /\ ∃ q, RC W pm g e w' r6 q) := hcall
     have Hit := hid hit
     clear hcall hit
     go_wp2_with fail
     refine hcall'.mono ?_
     rintro e' w9 ⟨rfl, q6, h6⟩
     have HRL := hid (show RL W pm g e RES w9 from by
      obtain ⟨_, hiv, hres, hn⟩ := HI.out
      obtain ⟨k, rfl⟩ : ∃ k, n = k + 1 := ⟨n - 1, by omega⟩
      have := (item_stp _ e r r6 Hit.out).2
      exact ⟨r6, q6, k, h6, hiv.item Hit.out, (itemsN_step _ e k r r6 HNE.out Hit.out).symm.trans hres, by omega⟩)
     have HMS := hid (show restC g w9 < restC g wr from by
      rw [h6.restC, HI.out.1.restC]
      exact (item_stp _ e r r6 Hit.out).2)
     clear h6 hcall'
     go_wp2
     go_roundw
     case rel => first | exact HRL.out | ((repeat apply Exists.intro); exact ⟨HRL.out, rfl⟩)
     case measure => exact HMS.out
 ·rw [if_pos (by rfl)]
  go_simp
  refine (HPR.out y0).mono ?_
  rintro e' y1 ⟨rfl, mpy1, hby1⟩
  have hBm : Below W4.heap.size W4 y1 := hBr.trans (hby1.mono hBr.size)
  refine hK.out _ _ (HSX.out _ hBm) (fun hHeld => ?_)
  clear hK K
  try simp only [D.pts]
  refine wpAnyH_ready (rs := [2]) (by kernel_rfl) (by simp) ?_
  refine AllReadyH.cons rfl (fun K hK => ?_) AllReadyH.nil
  rw [if_pos (by rfl)]
  go_simp
  obtain ⟨y2, hy2⟩ : ∃ y2, y1.alloc (.map #[] 0) = y2 := ⟨_, rfl⟩
  have hby2 : Below y1.heap.size y1 y2 := by rw [<- hy2]; exact (Below.refl _ _).alloc (Nat.le_refl _) _
  have mky2 : MP y2 y1.heap.size [] := by rw [<- hy2]; exact R.MP.made y1
  try rw [hy2]
  have hBn : Below W4.heap.size W4 y2 := hBm.trans (hby2.mono hBm.size)
  refine hK.out _ _ (HSX.out _ hBn) (fun hHeld => ?_)
  clear hK K
  try simp only [D.pts]
  have hpr : MP y2 y0.heap.size PM := mpy1.kept (hby2.block _ mpy1.lt)
  have hkn : MP y2 y1.heap.size [] := mky2
  have hle : W.heap.size <= y1.heap.size := by have := hBm.size; have := HB.out.2; omega
  have hne : y1.heap.size ≠ y0.heap.size := by have := mpy1.lt; omega
  obtain ⟨mn, hmn⟩ : ∃ mn, y1.heap.size = mn := ⟨_, rfl⟩
  obtain ⟨mp, hmp⟩ : ∃ mp, y0.heap.size = mp := ⟨_, rfl⟩
  rw [hmn] at hkn hle hne
  rw [hmp] at hpr hne
  try rw [hmn]
  try rw [hmp]
  refine wpAnyH_take (i := 4) (v := ?_) rfl (by kernel_rfl) (by kernel_rfl) (by kernel_rfl) (fun c a w h => put_door _ (by decide) _ h) (Or.inl ⟨by rfl, ?_⟩) hHeld ?_
  rotate_left
  ·(intro w hSw; (try dsimp only at hSw); go_simp; try with_reducible rfl)
  simp only [D.pts]
  obtain ⟨y3, hy3⟩ : ∃ y3, y2.alloc (.cells (rdc e (rd0 ts) (rv0 (.slice tp ts.length tc) mn mp)).toArray RD) = y3 := ⟨_, rfl⟩
  have hR := RC.start W pm e ts (.slice tp ts.length tc) mn mp y2 (HB.out.1.trans (hBn.mono HB.out.1.size)) HT.out hkn (by rw [HPM.out.1]; exact hpr) hle hne (HEX.out _ hBn) y3 hy3
  have hb3 : Below y2.heap.size y2 y3 := by rw [<- hy3]; exact (Below.refl _ _).alloc (Nat.le_refl _) _
  have hB3 := hBn.trans (hb3.mono hBn.size)
  refine wpAnyH_ready (rs := [5]) (by kernel_rfl) (by simp) ?_
  refine AllReadyH.cons rfl (fun K hK => ?_) AllReadyH.nil
  rw [if_pos (by rfl)]
  have hy4 : y2.alloc (.cells #[.slice tp ts.length tc, .int .i64 e.1, .int .i64 e.2, .slice none 0 0, .slice none 0 0, .map (some mn), .map (some mp), .int .i64 0, .string ⟨#[]⟩, .int .u16 0, .int .i64 0, .int .i64 0, .slice none 0 0, .slice none 0 0, .bool false] RD) = y3 := hy3
  go_simp
  try rw [hy4]
  refine hK.out _ _ (HSX.out _ hB3) (fun hHeld => ?_)
  clear hK K
  try simp only [D.pts]
  refine wpAnyH_take (i := 6) (v := ?_) rfl (by kernel_rfl) (by kernel_rfl) (by kernel_rfl) (fun c a w h => put_door _ (by decide) _ h) (Or.inl ⟨by rfl, ?_⟩) hHeld ?_
  rotate_left
  ·(intro w hSw; (try dsimp only at hSw); go_simp; try with_reducible rfl)
  simp only [D.pts]
  refine wpAnyH_done (by kernel_rfl) ?_ _
  obtain ⟨g, hg⟩ : ∃ g, y2.heap.size = g := ⟨_, rfl⟩
  rw [hg] at hR
  try rw [hg]
  have HR := hid hR
  clear hkn hpr hle hne hmn hmp hy3 hy4 hR hb3 hB3 hBn hBm hBr hHeld hg hmm HPR HT HSX HEX
  have HZ := hid (fun (w : World) (hx : ∀ x ∈ pm.x, okT x.2.2 = true /\ w.heap[x.1]? = some (.cells x.2.1.toArray x.2.2 (0, 0))) => show (w.heap[W.heap.size]? = some (.cells [.int .i64 e.1, .int .i64 e.2].toArray 28 (0, 0)) /\ Rz w (W.heap.size + 1) (.slice none 0 0) (.slice none 0 0) (0, 0) 0) from by
   rw [<- HPM.out.2] at hx
   exact ⟨(hx (W.heap.size, [.int .i64 e.1, .int .i64 e.2], 28) (by simp)).2, ⟨(hx (W.heap.size + 1, [.slice none 0 0, .slice none 0 0], 26) (by simp)).2, (hx (W.heap.size + 1 + 1, [.int .i64 0, .int .i64 0], 28) (by simp)).2, (hx (W.heap.size + 1 + 1 + 1, [.int .i64 0], 29) (by simp)).2⟩⟩)
  go_wp2_with fail
  go_loopw [] (fun wr => RL W pm g e RES wr) (fun wr => restC g wr)
  case atStart =>
   refine ⟨_, _, ts.length + 1, HR.out, ⟨by show 0 + 0 + ts.length <= _; have := HRES.out.2.2; omega, by show ([] : List Int).Nodup; simp, HRES.out.2.1⟩, by rw [HPM.out.1]; exact HRES.out.1, Nat.le_refl _⟩
  case round =>
   obtain ⟨r, q, n, hR, hiv, hres, hn⟩ := hrel
   have HI := hid (And.intro hR (And.intro hiv (And.intro hres hn)))
   obtain ⟨rp, rc, hrv, _, _⟩ := hR.rest.ex
   have x0 := (rd_cells hR.blk).1
   rw [hrv] at x0
   clear hR hiv hres hn hrv
   cases hrs : r.rest with
   | nil =>
    have HE := hid (show RES = .ok r from HI.out.2.2.1.symm.trans (itemsN_end _ e n r hrs))
    rw [hrs] at x0
    obtain ⟨hR, hiv, hres, hn⟩ := HI.out
    have hli := hiv.len
    have hdl : r.defs.length <= 1000000 := by omega
    have hbl : r.banks.length <= 1000000 := by omega
    have hnd := hiv.nod
    have hcm := R.containsMain r.defs q.dv (NewB W wr) wr (fun j hj => hj.1.2) (hR.dvs hdl)
    have x3 := (rd_cells hR.blk).2.2.2.1
    obtain ⟨pd, cd, hdv⟩ := dv_val hR
    rw [hdv] at x3 hcm
    have HR5 := hid (And.intro hR (And.intro hdl (And.intro hbl hnd)))
    clear hR hiv hres hn hli hdl hbl hnd hrs HI
    go_wp2_with fail
    refine hcm.mono ?_
    rintro e' w5 ⟨rfl, hb5⟩
    clear hcm x0 x3
    obtain ⟨hR, hdl, hbl, hnd⟩ := HR5.out
    have hR5 := hR.next hb5
    obtain ⟨z0, z1⟩ := HZ.out w5 hR5.ex
    have c0 := S.cell_of w5 _ 0 _ 28 _ z0 rfl
    have c1 := S.cell_of w5 _ 1 _ 28 _ z0 rfl
    have x4 := (rd_cells hR5.blk).2.2.2.2.1
    obtain ⟨px, cx, hxv, _⟩ := hR5.banksRow
    rw [hxv] at x4
    have hso := sort_rc W pm g e w5 r q hR5 hdl hbl hnd
    rw [hxv] at hso
    have HR6 := hid (And.intro hR5 (And.intro z1 (And.intro hdv hxv)))
    clear hR hdl hbl hnd hR5 z0 z1 hb5 HR5
    cases hmain : r.defs.any R.isMain with
    | false =>
     go_wp2_with fail
     exact door_panic W w5 (e, 107) (rres e RES) (by rw [HE.out]; show (if r.defs.any R.isMain = true then _ else _) = _; rw [if_neg (by rw [hmain]; decide)]) (W.heap.size + 1) (by omega) _ rfl rfl rfl _ _ _ _ HR6.out.2.1 HR6.out.1.bel
    | true =>
     go_wp2_with fail
     refine hso.mono ?_
     rintro e' w6 ⟨rfl, hg6, hx6, hD6, hX6, hB6⟩
     clear hso c0 c1 x4
     obtain ⟨hR5, z1, hdv, hxv⟩ := HR6.out
     have hb6 := hg6.trans hR5.blk
     have y3 := (rd_cells hb6).2.2.2.1
     have y4 := (rd_cells hb6).2.2.2.2.1
     have hex6 : ∀ x ∈ pm.x, okT x.2.2 = true /\ w6.heap[x.1]? = some (.cells x.2.1.toArray x.2.2 (0, 0)) := fun x hx => ⟨(hR5.ex x hx).1, (hx6 x hx).trans (hR5.ex x hx).2⟩
     obtain ⟨_, hz6⟩ := HZ.out w6 hex6
     rw [hdv] at y3 hD6
     rw [hxv] at y4
     have H6 := hid (And.intro hD6 (And.intro hX6 (And.intro hB6 hz6)))
     have p0 := hz6.p0
     clear hR5 z1 hdv hxv hb6 hg6 hx6 hD6 hX6 hB6 hex6 HR6
     have p1 : (w6.setRow (W.heap.size + 1) #[.slice pd r.defs.length cd, .slice px r.banks.length cx]).heap[W.heap.size + 1 + 1]? = some (.cells #[.int .i64 0, .int .i64 0] 28 (0, 0)) := (setRow_other w6 _ _ _ (by omega)).trans hz6.p1
     have p2 : ((w6.setRow (W.heap.size + 1) #[.slice pd r.defs.length cd, .slice px r.banks.length cx]).setRow (W.heap.size + 1 + 1) #[.int .i64 0, .int .i64 0]).heap[W.heap.size + 1 + 1 + 1]? = some (.cells [.int .i64 0].toArray 29 (0, 0)) := (setRow_other _ _ _ _ (by omega)).trans ((setRow_other w6 _ _ _ (by omega)).trans hz6.p2)
     have t2 := S.cell_of ((w6.setRow (W.heap.size + 1) #[.slice pd r.defs.length cd, .slice px r.banks.length cx]).setRow (W.heap.size + 1 + 1) #[.int .i64 0, .int .i64 0]) _ 0 _ 29 _ p2 rfl
     have f2 := S.frozen_of ((w6.setRow (W.heap.size + 1) #[.slice pd r.defs.length cd, .slice px r.banks.length cx]).setRow (W.heap.size + 1 + 1) #[.int .i64 0, .int .i64 0]) _ 0 _ 29 p2
     have HP2 := hid (And.intro p0 (And.intro p1 p2))
     clear hz6 p2
     go_wp2_with (first | (refine wpList_store_row rfl 26 _ _ rfl (W.heap.size + 1) _ rfl rfl 26 _ p0 (by exact sizePG) (by rfl) (by simp [Value.oneCell']) ?_) | (refine wpList_store_row rfl 28 _ _ rfl (W.heap.size + 1 + 1) _ rfl rfl 28 _ p1 (by exact sizePO) (by rfl) (by simp [Value.oneCell']) ?_))
     obtain ⟨hD6, hX6, hB6, hz6⟩ := H6.out
     obtain ⟨p0, p1, p2⟩ := HP2.out
     have q0 := setRow_heap w6 (W.heap.size + 1) _ #[.slice pd r.defs.length cd, .slice px r.banks.length cx] _ _ p0
     have q1 := setRow_heap (w6.setRow (W.heap.size + 1) #[.slice pd r.defs.length cd, .slice px r.banks.length cx]) (W.heap.size + 1 + 1) _ #[.int .i64 0, .int .i64 0] _ _ p1
     obtain ⟨w8, hw8⟩ : ∃ w8, ((w6.setRow (W.heap.size + 1) #[.slice pd r.defs.length cd, .slice px r.banks.length cx]).setRow (W.heap.size + 1 + 1) #[.int .i64 0, .int .i64 0]) = w8 := ⟨_, rfl⟩
     have k8 : ∀ j, j ≠ W.heap.size + 1 -> j ≠ W.heap.size + 1 + 1 -> w8.heap[j]? = w6.heap[j]? := fun j h1 h2 => by rw [<- hw8]; exact (setRow_other _ _ _ _ h2).trans (setRow_other w6 _ _ _ h1)
     have r0 : w8.heap[W.heap.size + 1]? = some (.cells #[.slice pd r.defs.length cd, .slice px r.banks.length cx] 26 (0, 0)) := by rw [<- hw8]; exact (setRow_other _ _ _ _ (by omega)).trans q0
     rw [hw8] at p2 q1
     have hs8 : w8.heap.size = w6.heap.size := by rw [<- hw8, size_setRow, size_setRow]
     have hBe8 : Below W.heap.size W w8 := by rw [<- hw8]; exact row_below (row_below hB6 _ (by omega) _) _ (by omega) _
     try rw [hw8]
     clear hw8
     have ok8 : ∀ j, NewB W w6 j -> (w8.setCell ⟨W.heap.size + 1 + 1 + 1, 0, none⟩ (.int .i64 0)).heap[j]? = w6.heap[j]? := fun j hj => by
      obtain ⟨_, c, t, hc, hk⟩ := hj
      refine (heap_setCell_other w8 ⟨W.heap.size + 1 + 1 + 1, 0, none⟩ j _ (ty_ne hc hz6.p2 (by rintro rfl; rw [okEN] at hk; cases hk))).trans (k8 j (ty_ne hc hz6.p0 (by rintro rfl; rw [okPG] at hk; cases hk)) (ty_ne hc hz6.p1 (by rintro rfl; rw [okPO] at hk; cases hk)))
     have hsz9 : (w8.setCell ⟨W.heap.size + 1 + 1 + 1, 0, none⟩ (.int .i64 0)).heap.size = w6.heap.size := by rw [World.size_setCell, hs8]
     exact door_ret W _ (rres e RES) (W.heap.size + 1) _ rfl rfl rfl (.slice pd r.defs.length cd) (.slice px r.banks.length cx) (r.defs, r.banks.mergeSort fun a b => decide (a.1 <= b.1)) ⟨(heap_setCell_other w8 ⟨W.heap.size + 1 + 1 + 1, 0, none⟩ _ _ (by show W.heap.size + 1 ≠ W.heap.size + 1 + 1 + 1; omega)).trans r0, (heap_setCell_other w8 ⟨W.heap.size + 1 + 1 + 1, 0, none⟩ _ _ (by show W.heap.size + 1 + 1 ≠ W.heap.size + 1 + 1 + 1; omega)).trans q1, heap_setCell_same w8 _ 0 _ _ _ p2⟩ (hD6.kept ok8 (fun j hj => ⟨hj.1.1, by rw [hsz9]; exact hj.1.2⟩)) (hX6.kept ok8 (fun j hj => ⟨hj.1.1, by rw [hsz9]; exact hj.1.2⟩)) (hBe8.setCell (p := ⟨W.heap.size + 1 + 1 + 1, 0, none⟩) (by show W.heap.size <= W.heap.size + 1 + 1 + 1; omega) _) (by rw [HE.out]; show (if r.defs.any R.isMain = true then _ else _) = _; rw [if_pos hmain])
   | cons t5 ts5 =>
    rw [hrs] at x0
    obtain ⟨hR, hiv, hres, hn⟩ := HI.out
    have hli := hiv.len
    have hcall := item_any W pm g e wr r q hR (by omega) (by omega) hiv.tks (by omega)
    have i1 : (0 : Int) < ((ts5.length + 1 : Nat) : Int) := by omega
    have HNE := hid (show r.rest ≠ [] from by rw [hrs]; simp)
    obtain ⟨L5, hL5⟩ : ∃ L5, ts5.length + 1 = L5 := ⟨_, rfl⟩
    have x0' : wr.cell? ⟨g, 0, none⟩ = some (.slice rp L5 rc) := by rw [<- hL5]; exact x0
    rw [hL5] at i1
    clear x0 hL5 hR hiv hres hn hli hrs
    cases hit : item (lk pm.m) e r with
    | error er =>
     rw [hit] at hcall
     have hcall' : Calls _ _ _ _ (fun en w' => en = .panicked (flt er) /\ Bx W pm w') := hcall
     have HE := hid (show RES = .error er from by
      obtain ⟨_, _, hres, hn⟩ := HI.out
      obtain ⟨k, rfl⟩ : ∃ k, n = k + 1 := ⟨n - 1, by omega⟩
      exact hres.symm.trans (itemsN_err _ e k r er HNE.out hit))
     clear hcall hit
     go_wp2_with fail
     refine hcall'.mono ?_
     rintro e' w9 ⟨rfl, h9⟩
     exact door_panic W w9 er (rres e RES) (by rw [HE.out]; rfl) (W.heap.size + 1) (by omega) _ rfl rfl rfl _ _ _ _ (HZ.out w9 h9.2).2 h9.1
    | ok r6 =>
     rw [hit] at hcall
     have hcall' : Calls _ _ _ _ (fun en w' => en = .returned (.tuple #[]) /\ ∃ q, RC W pm g e w' r6 q) := hcall
     have Hit := hid hit
     clear hcall hit
     go_wp2_with fail
     refine hcall'.mono ?_
     rintro e' w9 ⟨rfl, q6, h6⟩
     have HRL := hid (show RL W pm g e RES w9 from by
      obtain ⟨_, hiv, hres, hn⟩ := HI.out
      obtain ⟨k, rfl⟩ : ∃ k, n = k + 1 := ⟨n - 1, by omega⟩
      have := (item_stp _ e r r6 Hit.out).2
      exact ⟨r6, q6, k, h6, hiv.item Hit.out, (itemsN_step _ e k r r6 HNE.out Hit.out).symm.trans hres, by omega⟩)
     have HMS := hid (show restC g w9 < restC g wr from by
      rw [h6.restC, HI.out.1.restC]
      exact (item_stp _ e r r6 Hit.out).2)
     clear h6 hcall'
     go_wp2
     go_roundw
     case rel => first | exact HRL.out | ((repeat apply Exists.intro); exact ⟨HRL.out, rfl⟩)
     case measure => exact HMS.out
end Go.Proofs.YtdnklgceghllaaaGreatDoor.D
