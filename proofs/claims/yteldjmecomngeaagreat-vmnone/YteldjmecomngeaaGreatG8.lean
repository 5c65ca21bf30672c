import Derived.Test.YteldjmecomngeaaGreatG7
import Derived.Laws.StructEq
/-! New. -/
namespace Go.Proofs.YteldjmecomngeaaGreat.V
open Go.RowKit
open Go.Proofs
set_option linter.unusedVariables false
set_option linter.unusedSimpArgs false
set_option maxHeartbeats 2000000
set_option maxRecDepth 100000
theorem mayB_of : ∀ (bs : List (Int × List UInt8)) (p : Int), T.bankG p bs = true → M.mayB p bs = true
  | [], _, _ => rfl
  | t :: r, p, h => by
    simp only [T.bankG, T.datOk, Bool.and_eq_true, decide_eq_true_eq] at h
    unfold M.mayB
    rw [if_neg (by omega)]
    exact mayB_of r t.1 h.2
theorem may_parts {c : T.Ct} (h : T.may c = true) : c.code.length ≤ 16384 ∧ T.bankG (-1) c.banks = true := by
  simp only [T.may, T.codeB, Bool.and_eq_true, decide_eq_true_eq] at h
  exact ⟨h.1.1.2, h.2⟩
/-- The state that New makes. -/
def born (c : T.Ct) : VS := ⟨c.code, ((c.entry : Int) + 2) % 65536, 1, 0, [], [], { M.m0 with banks := M.nbk c.banks }⟩
/-- All of it is new. -/
structure Fresh (n : Nat) (g bd br bm : Nat) (kv : Value) (F : Nat → Prop) : Prop where
  g : n ≤ g
  d : n ≤ bd
  r : n ≤ br
  k : ∀ i, kv.ownBlock = some i → n ≤ i
  f : ∀ i, F i → n ≤ i
theorem new_no (v : Value) (c : T.Ct) (ep : Option Addr) (ec : Nat) (bp : Option Addr) (bc : Nat) (kv : Value) (w : World) (h : T.IsC w v c ep ec bp bc kv) (hm : T.may c = false) :
    Calls Tryz.prog 9 #[v] w fun e w' => e = .returned (.tuple #[.pointer none, .int .i64 74]) ∧ Below w.heap.size w w' := by
  obtain ⟨kp, kc, rfl, _⟩ := h.code.ex
  have hv := h.val
  subst hv
  unfold T.cv
  have hb := P.bel_alloc w (.cells #[.slice kp c.code.length kc, .int .u16 (c.entry : Int), .slice ep c.effs.length ec, .slice bp c.banks.length bc] 27)
  have hC := h.below hb
  have kc' := T.check_any _ c ep ec bp bc _ _ hC
  rw [hm, if_neg (by simp)] at kc'
  unfold T.cv at kc'
  have HB := S.hid hb
  clear h hC hb
  go_enter Tryz.func9, Tryz.ntmps9
  go_wp2_with fail
  refine kc'.mono ?_
  rintro e w1 ⟨rfl, h1⟩
  have HB1 := S.hid (trB HB.out h1 HB.out.size)
  clear h1 kc'
  go_wp2
  go_ret2
  exact ⟨rfl, HB1.out⟩
theorem size125 : (Tryz.prog.info? 125).map (·.size) = some 5 := by kernel_rfl
def zS : Array Value := #[.int .u16 0, .int .i64 0, .int .i64 0, .pointer none, .pointer none]
theorem made3 (w : World) (pc : Int) :
    let W := ((w.alloc (.cells S.z60.toArray 117)).alloc (.cells S.z50.toArray 123)).alloc (.cells #[.int .u16 pc, .int .i64 1, .int .i64 0, .pointer (some ⟨w.heap.size, 0, none⟩), .pointer (some ⟨w.heap.size + 1, 0, none⟩)] 125)
    S.HasD W w.heap.size [] ∧ S.HasR W (w.heap.size + 1) [] ∧ W.heap[w.heap.size + 1 + 1]? = some (.cells #[.int .u16 pc, .int .i64 1, .int .i64 0, .pointer (some ⟨w.heap.size, 0, none⟩), .pointer (some ⟨w.heap.size + 1, 0, none⟩)] 125 (0, 0)) ∧ Below w.heap.size w W ∧ W.heap.size = w.heap.size + 3 := by
  intro W
  have b1 := P.bel_alloc w (.cells S.z60.toArray 117)
  have b2 := P.bel_alloc (w.alloc (.cells S.z60.toArray 117)) (.cells S.z50.toArray 123)
  have b3 := P.bel_alloc ((w.alloc (.cells S.z60.toArray 117)).alloc (.cells S.z50.toArray 123)) (.cells #[.int .u16 pc, .int .i64 1, .int .i64 0, .pointer (some ⟨w.heap.size, 0, none⟩), .pointer (some ⟨w.heap.size + 1, 0, none⟩)] 125)
  have h1 := S.hasD0 w
  have h2 := S.hasR0 (w.alloc (.cells S.z60.toArray 117))
  have h3 := heap_alloc_new ((w.alloc (.cells S.z60.toArray 117)).alloc (.cells S.z50.toArray 123)) (.cells #[.int .u16 pc, .int .i64 1, .int .i64 0, .pointer (some ⟨w.heap.size, 0, none⟩), .pointer (some ⟨w.heap.size + 1, 0, none⟩)] 125)
  have e1 : (w.alloc (.cells S.z60.toArray 117)).heap.size = w.heap.size + 1 := by simp
  have e2 : ((w.alloc (.cells S.z60.toArray 117)).alloc (.cells S.z50.toArray 123)).heap.size = w.heap.size + 1 + 1 := by simp
  rw [e1] at h2
  rw [e2] at h3
  refine ⟨(h1.below b2).below b3, h2.below b3, h3, trB (trB b1 b2 b1.size) b3 (by rw [e2]; omega), by simp [W]⟩
theorem born_mv (w w1 w2 W3 w4 : World) (bd br bm : Nat) (hbd : w2.heap.size = bd) (hbr : bd + 1 = br) (p1 : Option Addr) (c1 : Nat) (c : T.Ct) (pc : Int) (hbn : born c = ⟨c.code, pc, 1, 0, [], [], { M.m0 with banks := M.nbk c.banks }⟩) (hpc : C.C pc)
    (hM : M.HasM w2 (fun k => w1.heap.size ≤ k ∧ k < bd) bm { M.m0 with banks := M.nbk c.banks }) (hD : S.HasD W3 bd []) (hR : S.HasR W3 br []) (hb3 : Below bd w2 W3) (hl3 : W3.heap.size = bd + 3) (hD4 : Below W3.heap.size W3 w4) (hr : M.Row w4 W3.heap.size (.slice p1 c.code.length c1) c.code) (hcl : c.code.length ≤ 16384) (h12 : w1.heap.size ≤ bd) (h01 : w.heap.size ≤ w1.heap.size) (hB2 : Below w.heap.size w w2) :
    MV (w4.alloc (.cells #[.int .u16 pc, .int .i64 1, .int .i64 0, .pointer (some ⟨bd, 0, none⟩), .pointer (some ⟨br, 0, none⟩), .slice p1 c.code.length c1, .pointer (some ⟨bm, 0, none⟩)] 128)) w4.heap.size bd br bm (.slice p1 c.code.length c1) (fun k => w1.heap.size ≤ k ∧ k < bd) (born c) ∧
    Fresh w.heap.size w4.heap.size bd br bm (.slice p1 c.code.length c1) (fun k => w1.heap.size ≤ k ∧ k < bd) ∧ Below w.heap.size w (w4.alloc (.cells #[.int .u16 pc, .int .i64 1, .int .i64 0, .pointer (some ⟨bd, 0, none⟩), .pointer (some ⟨br, 0, none⟩), .slice p1 c.code.length c1, .pointer (some ⟨bm, 0, none⟩)] 128)) := by
  subst hbd
  have b5 := P.bel_alloc w4 (.cells #[.int .u16 pc, .int .i64 1, .int .i64 0, .pointer (some ⟨w2.heap.size, 0, none⟩), .pointer (some ⟨br, 0, none⟩), .slice p1 c.code.length c1, .pointer (some ⟨bm, 0, none⟩)] 128)
  have z5 := heap_alloc_new w4 (.cells #[.int .u16 pc, .int .i64 1, .int .i64 0, .pointer (some ⟨w2.heap.size, 0, none⟩), .pointer (some ⟨br, 0, none⟩), .slice p1 c.code.length c1, .pointer (some ⟨bm, 0, none⟩)] 128)
  have s4 := hD4.size
  have b35 := trB hD4 b5 hD4.size
  have b25 : Below w2.heap.size w2 _ := trB (trB hb3 hD4 (by omega)) b5 (by omega)
  rw [hbn]
  refine ⟨⟨z5, ⟨hD.below b35, hR.below b35, hM.kept fun i hi _ => b25.block i hi, by omega, by rintro ⟨_, e⟩; omega, by rintro ⟨_, e⟩; omega⟩, (hr.below b5).sl, hcl, ?_, ?_, ?_, by omega, by omega, by rintro ⟨_, e⟩; omega, ⟨hpc.1, hpc.2, by simp, by simp⟩⟩, ⟨by omega, by omega, by omega, ?_, ?_⟩, trB hB2 b25 hB2.size⟩
  · intro k e; have := own_lt hr k e; have := b5.size; omega
  · intro k e; have := own_lt hr k e; exact ⟨by omega, by omega, by omega, by rintro ⟨_, e⟩; omega⟩
  · rintro k ⟨_, e⟩; have := b5.size; omega
  · intro k e; have := own_lt hr k e; omega
  · rintro k ⟨e, _⟩; omega
theorem new_yes (v : Value) (c : T.Ct) (ep : Option Addr) (ec : Nat) (bp : Option Addr) (bc : Nat) (kv : Value) (w : World) (h : T.IsC w v c ep ec bp bc kv) (hm : T.may c = true) :
    Calls Tryz.prog 9 #[v] w fun e w' => ∃ g bd br bm ku F, e = .returned (.tuple #[.pointer (some ⟨g, 0, none⟩), .int .i64 0]) ∧ MV w' g bd br bm ku F (born c) ∧ Fresh w.heap.size g bd br bm ku F ∧ Below w.heap.size w w' := by
  obtain ⟨kp, kc, rfl, _⟩ := h.code.ex
  have hv := h.val
  subst hv
  unfold T.cv
  obtain ⟨hcl, hbg⟩ := may_parts hm
  have hmb := mayB_of _ _ hbg
  have hbl := h.blen
  have hfit := h.fit.entry
  have e2 : IntKind.u16.wrap ((c.entry : Int) + 2) = ((c.entry : Int) + 2) % 65536 := M.u16_wrap _
  have hb := P.bel_alloc w (.cells #[.slice kp c.code.length kc, .int .u16 (c.entry : Int), .slice ep c.effs.length ec, .slice bp c.banks.length bc] 27)
  have hz := heap_alloc_new w (.cells #[.slice kp c.code.length kc, .int .u16 (c.entry : Int), .slice ep c.effs.length ec, .slice bp c.banks.length bc] 27)
  have hC := h.below hb
  have kc' := T.check_any _ c ep ec bp bc _ _ hC
  rw [hm, if_pos rfl] at kc'
  unfold T.cv at kc'
  have HB := S.hid hb
  have HC := S.hid hC
  have HZ := S.hid hz
  have HP := S.hid (And.intro hcl (And.intro hmb hbl))
  clear h hC hb hz hcl hbg hmb hbl hm
  go_enter Tryz.func9, Tryz.ntmps9
  go_wp2_with fail
  refine kc'.mono ?_
  rintro e w1 ⟨rfl, h1⟩
  have hz1 := (h1.block _ (S.lt_of HZ.out)).trans HZ.out
  have HC1 := S.hid (HC.out.below h1)
  have HB1 := S.hid (trB HB.out h1 HB.out.size)
  have HZ1 := S.hid hz1
  have a3 := S.cell_of w1 _ 3 [.slice kp c.code.length kc, .int .u16 (c.entry : Int), .slice ep c.effs.length ec, .slice bp c.banks.length bc] _ _ hz1 rfl
  have kn := M.new_yes bp bc c.banks (by have := HP.out.2.2; unfold M.room at *; omega) w1 HC1.out.banks HP.out.2.1
  clear h1 kc' hz1 HC HZ
  go_wp2_with fail
  refine kn.mono ?_
  rintro e w2 ⟨bm, rfl, hM2, h2⟩
  have hz2 := (h2.block _ (S.lt_of HZ1.out)).trans HZ1.out
  have HC2 := S.hid (HC1.out.below h2)
  have HB2 := S.hid (trB HB1.out h2 HB1.out.size)
  have HM2 := S.hid (M.HasM.mono (G := fun k => w1.heap.size ≤ k ∧ k < w2.heap.size) hM2 fun i hi e => ⟨e, hi⟩)
  have HZ2 := S.hid hz2
  have a1 := S.cell_of w2 _ 1 [.slice kp c.code.length kc, .int .u16 (c.entry : Int), .slice ep c.effs.length ec, .slice bp c.banks.length bc] _ _ hz2 rfl
  have hs12 := h2.size
  have hs01 : w.heap.size ≤ w1.heap.size := HB1.out.size
  clear h2 kn hz2 HC1 HZ1 a3 hM2
  go_wp2_with (first | (refine S.wpList_build60 rfl rfl ?_) | (refine S.wpList_build50 rfl rfl ?_))
  obtain ⟨hD3, hR3, hN3, hb3, hl3⟩ := made3 w2 (((c.entry : Int) + 2) % 65536)
  generalize ((w2.alloc (.cells S.z60.toArray 117)).alloc (.cells S.z50.toArray 123)).alloc (.cells #[.int .u16 (((c.entry : Int) + 2) % 65536), .int .i64 1, .int .i64 0, .pointer (some ⟨w2.heap.size, 0, none⟩), .pointer (some ⟨w2.heap.size + 1, 0, none⟩)] 125) = W3 at *
  have hpc : C.C (((c.entry : Int) + 2) % 65536) := rng _
  have hbn : born c = ⟨c.code, ((c.entry : Int) + 2) % 65536, 1, 0, [], [], { M.m0 with banks := M.nbk c.banks }⟩ := rfl
  generalize ((c.entry : Int) + 2) % 65536 = pc at *
  generalize hbd : w2.heap.size = bd at *
  generalize hbr : bd + 1 = br at *
  generalize hNN : br + 1 = N at *
  have hC3 := HC2.out.below (W' := W3) (by rw [hbd]; exact hb3)
  have hz3 := (hb3.block _ (by rw [← hbd]; exact S.lt_of HZ2.out)).trans HZ2.out
  have s0 : (fun w' => w'.cell? ⟨w.heap.size, 0, none⟩ = some (.slice kp c.code.length kc) ∧ w'.cell? ⟨N, 0, none⟩ = some (.int .u16 pc) ∧ w'.cell? ⟨N, 1, none⟩ = some (.int .i64 1) ∧ w'.cell? ⟨N, 2, none⟩ = some (.int .i64 0) ∧ w'.cell? ⟨N, 3, none⟩ = some (.pointer (some ⟨bd, 0, none⟩)) ∧ w'.cell? ⟨N, 4, none⟩ = some (.pointer (some ⟨br, 0, none⟩))) W3.drew := ⟨S.cell_of W3 _ 0 [.slice kp c.code.length kc, .int .u16 (c.entry : Int), .slice ep c.effs.length ec, .slice bp c.banks.length bc] _ _ hz3 rfl, S.cell_of W3 _ 0 [.int .u16 pc, .int .i64 1, .int .i64 0, .pointer (some ⟨bd, 0, none⟩), .pointer (some ⟨br, 0, none⟩)] _ _ hN3 rfl, S.cell_of W3 _ 1 [.int .u16 pc, .int .i64 1, .int .i64 0, .pointer (some ⟨bd, 0, none⟩), .pointer (some ⟨br, 0, none⟩)] _ _ hN3 rfl, S.cell_of W3 _ 2 [.int .u16 pc, .int .i64 1, .int .i64 0, .pointer (some ⟨bd, 0, none⟩), .pointer (some ⟨br, 0, none⟩)] _ _ hN3 rfl, S.cell_of W3 _ 3 [.int .u16 pc, .int .i64 1, .int .i64 0, .pointer (some ⟨bd, 0, none⟩), .pointer (some ⟨br, 0, none⟩)] _ _ hN3 rfl, S.cell_of W3 _ 4 [.int .u16 pc, .int .i64 1, .int .i64 0, .pointer (some ⟨bd, 0, none⟩), .pointer (some ⟨br, 0, none⟩)] _ _ hN3 rfl⟩
  have k3 := M.clone_any (.slice kp c.code.length kc) c.code hC3.clen W3.drew (hC3.code.below ⟨rfl, rfl, rfl, Nat.le_refl _, fun _ _ => rfl⟩)
  have HS : ∀ W W' : World, Below W.heap.size W W' → (fun w' => w'.cell? ⟨w.heap.size, 0, none⟩ = some (.slice kp c.code.length kc) ∧ w'.cell? ⟨N, 0, none⟩ = some (.int .u16 pc) ∧ w'.cell? ⟨N, 1, none⟩ = some (.int .i64 1) ∧ w'.cell? ⟨N, 2, none⟩ = some (.int .i64 0) ∧ w'.cell? ⟨N, 3, none⟩ = some (.pointer (some ⟨bd, 0, none⟩)) ∧ w'.cell? ⟨N, 4, none⟩ = some (.pointer (some ⟨br, 0, none⟩))) W → (fun w' => w'.cell? ⟨w.heap.size, 0, none⟩ = some (.slice kp c.code.length kc) ∧ w'.cell? ⟨N, 0, none⟩ = some (.int .u16 pc) ∧ w'.cell? ⟨N, 1, none⟩ = some (.int .i64 1) ∧ w'.cell? ⟨N, 2, none⟩ = some (.int .i64 0) ∧ w'.cell? ⟨N, 3, none⟩ = some (.pointer (some ⟨bd, 0, none⟩)) ∧ w'.cell? ⟨N, 4, none⟩ = some (.pointer (some ⟨br, 0, none⟩))) W' := fun W W' b ⟨x0, x1, x2, x3, x4, x5⟩ => ⟨T.below_cell b _ _ x0, T.below_cell b _ _ x1, T.below_cell b _ _ x2, T.below_cell b _ _ x3, T.below_cell b _ _ x4, T.below_cell b _ _ x5⟩
  have HS := S.hid HS
  have H3 := S.hid (And.intro hD3 (And.intro hR3 (And.intro hb3 hl3)))
  have HN := S.hid (And.intro hs12 (And.intro hs01 (And.intro hpc hbn)))
  clear hD3 hR3 hN3 hb3 hl3 hC3 hz3 a1 hs12 hs01 HC2 HZ2 hpc hbn e2
  refine wp_region_held_drew (S := (fun w' => w'.cell? ⟨w.heap.size, 0, none⟩ = some (.slice kp c.code.length kc) ∧ w'.cell? ⟨N, 0, none⟩ = some (.int .u16 pc) ∧ w'.cell? ⟨N, 1, none⟩ = some (.int .i64 1) ∧ w'.cell? ⟨N, 2, none⟩ = some (.int .i64 0) ∧ w'.cell? ⟨N, 3, none⟩ = some (.pointer (some ⟨bd, 0, none⟩)) ∧ w'.cell? ⟨N, 4, none⟩ = some (.pointer (some ⟨br, 0, none⟩)))) (by kernel_rfl) s0 (fun hHeld => ?_)
  refine wpAnyH_take (i := 0) (v := ?_) rfl (by kernel_rfl) (by kernel_rfl) (by kernel_rfl) (fun c a w h => h) (Or.inl ⟨by rfl, ?_⟩) hHeld ?_
  rotate_left
  · (intro w hSw; (try dsimp only at hSw); go_simp; try with_reducible rfl)
  simp only [Act.put, List.setIfInBounds_toArray, List.set_cons_zero, List.set_cons_succ]
  refine wpAnyH_take (i := 1) (v := ?_) rfl (by kernel_rfl) (by kernel_rfl) (by kernel_rfl) (fun c a w h => h) (Or.inl ⟨by rfl, ?_⟩) hHeld ?_
  rotate_left
  · (intro w hSw; (try dsimp only at hSw); go_simp; try with_reducible rfl)
  simp only [Act.put, List.setIfInBounds_toArray, List.set_cons_zero, List.set_cons_succ]
  refine wpAnyH_take (i := 2) (v := ?_) rfl (by kernel_rfl) (by kernel_rfl) (by kernel_rfl) (fun c a w h => h) (Or.inl ⟨by rfl, ?_⟩) hHeld ?_
  rotate_left
  · (intro w hSw; (try dsimp only at hSw); go_simp; try with_reducible rfl)
  simp only [Act.put, List.setIfInBounds_toArray, List.set_cons_zero, List.set_cons_succ]
  refine wpAnyH_take (i := 4) (v := ?_) rfl (by kernel_rfl) (by kernel_rfl) (by kernel_rfl) (fun c a w h => h) (Or.inl ⟨by rfl, ?_⟩) hHeld ?_
  rotate_left
  · (intro w hSw; (try dsimp only at hSw); go_simp; try with_reducible rfl)
  simp only [Act.put, List.setIfInBounds_toArray, List.set_cons_zero, List.set_cons_succ]
  refine wpAnyH_ready (rs := [3]) (by kernel_rfl) (by simp) ?_
  refine AllReadyH.cons rfl (fun K hK => ?_) AllReadyH.nil
  go_simp
  refine k3.mono ?_
  rintro e w4 ⟨u1, rfl, r1, d1⟩
  obtain ⟨p1, c1, rfl⟩ := own_form r1
  have s1 := HS.out _ _ d1 s0
  have s2 := HS.out _ _ (P.bel_alloc w4 (.cells #[.int .u16 pc, .int .i64 1, .int .i64 0, .pointer (some ⟨bd, 0, none⟩), .pointer (some ⟨br, 0, none⟩), .slice p1 c.code.length c1, .pointer (some ⟨bm, 0, none⟩)] 128)) s1
  have HD := S.hid (show Below W3.drew.heap.size W3.drew w4 from d1)
  have HR1 := S.hid (show M.Row w4 W3.drew.heap.size (.slice p1 c.code.length c1) c.code from r1)
  clear k3 r1 d1
  refine hK.out _ _ s1 (fun hHeld => ?_)
  clear hK K
  try simp only [Act.put, List.setIfInBounds_toArray, List.set_cons_zero, List.set_cons_succ]
  refine wpAnyH_ready (rs := [5]) (by kernel_rfl) (by simp) ?_
  refine AllReadyH.cons rfl (fun K hK => ?_) AllReadyH.nil
  go_simp
  refine hK.out _ _ s1 (fun hHeld => ?_)
  clear hK K
  refine wpAnyH_ready (rs := [6]) (by kernel_rfl) (by simp) ?_
  refine AllReadyH.cons rfl (fun K hK => ?_) AllReadyH.nil
  go_simp
  refine hK.out _ _ s2 (fun hHeld => ?_)
  clear hK K
  refine wpAnyH_ready (rs := [7]) (by kernel_rfl) (by simp) ?_
  refine AllReadyH.cons rfl (fun K hK => ?_) AllReadyH.nil
  go_simp
  refine hK.out _ _ s2 (fun hHeld => ?_)
  clear hK K
  refine wpAnyH_ready (rs := [8]) (by kernel_rfl) (by simp) ?_
  refine AllReadyH.cons rfl (fun K hK => ?_) AllReadyH.nil
  go_simp
  refine hK.out _ _ s2 (fun hHeld => ?_)
  clear hK K
  refine wpAnyH_done (by kernel_rfl) ?_ _
  try simp only [Act.put, List.setIfInBounds_toArray, List.set_cons_zero, List.set_cons_succ]
  clear hHeld s0 s1 s2 HS
  have hfin := born_mv w w1 w2 W3 w4 bd br bm hbd hbr p1 c1 c pc HN.out.2.2.2 HN.out.2.2.1 HM2.out H3.out.1 H3.out.2.1 H3.out.2.2.1 H3.out.2.2.2 ⟨HD.out.os, HD.out.tape, HD.out.output, HD.out.size, HD.out.block⟩ HR1.out HP.out.1 HN.out.1 HN.out.2.1 HB2.out
  have HF := S.hid hfin
  clear hfin
  go_wp2
  go_ret2
  first
    | exact ⟨w4.heap.size, bd, br, bm, .slice p1 c.code.length c1, fun k => w1.heap.size ≤ k ∧ k < bd, rfl, HF.out⟩
    | exact ⟨w4.heap.size, rfl, bd, br, bm, .slice p1 c.code.length c1, fun k => w1.heap.size ≤ k ∧ k < bd, HF.out⟩
end Go.Proofs.YteldjmecomngeaaGreat.V
/-! The law's threads. -/
namespace Go.Proofs.YteldjmecomngeaaGreat.V
open Go.RowKit
open Go.Proofs
set_option linter.unusedVariables false
set_option linter.unusedSimpArgs false
set_option maxHeartbeats 2000000
set_option maxRecDepth 100000
def pre (k : Nat) : List UInt8 := (List.range k).flatMap fun j => [UInt8.ofNat j, 0]
def cb2 (x : Int) : List UInt8 := [M.b8 x, M.b8 (x / 256)]
def tcode (l : List Int) : List UInt8 := pre 64 ++ [1, 0] ++ l.flatMap cb2
theorem pre_succ (k : Nat) : pre (k + 1) = pre k ++ [UInt8.ofNat k, 0] := by unfold pre; rw [List.range_succ, List.flatMap_append]; rfl
theorem pre_len (k : Nat) : (pre k).length = 2 * k := by
  induction k with
  | zero => rfl
  | succ k ih => rw [pre_succ, List.length_append, ih]; simp; omega
theorem cb_len (l : List Int) : (l.flatMap cb2).length = 2 * l.length := by
  induction l with
  | nil => rfl
  | cons a l ih => rw [List.flatMap_cons, List.length_append, ih]; simp [cb2]; omega
def zC : Array Value := #[.slice none 0 0, .int .u16 0, .slice none 0 0, .slice none 0 0]
theorem size27 : (Tryz.prog.info? 27).map (·.size) = some 4 := by kernel_rfl
theorem sl2 (W : World) (B : Nat) (hB : B ≤ W.heap.size) (a b : UInt8) : M.Sl (W.alloc (.cells #[.int .u8 (a.toNat : Int), .int .u8 (b.toNat : Int)] 5)) (.slice (some ⟨W.heap.size, 0, none⟩) 2 2) [a, b] :=
  (M.row_of_alloc W B hB [a, b] (by simp [maxLen])).sl
theorem ofNat_toNat (k : Nat) (h : k < 256) : (UInt8.ofNat k).toNat = k := by simp; omega
theorem b8_nat (z : Int) : ((M.b8 z).toNat : Int) = z % 256 := by
  unfold M.b8
  rw [ofNat_toNat _ (by omega)]; omega
theorem room_big : (20000 : Nat) ≤ M.room := by unfold M.room; omega
theorem room_ok (l : List Int) (k : Nat) (x : Int) (hl : l.length ≤ 1000) : (pre 64 ++ [1, 0] ++ (l.take k).flatMap cb2).length + (cb2 x).length ≤ M.room := by
  have e1 : (cb2 x).length = 2 := rfl
  have e2 : ([1, 0] : List UInt8).length = 2 := rfl
  have e3 : (l.take k).length ≤ 1000 := Nat.le_trans (List.length_take_le' k l) hl
  have e4 := room_big
  rw [List.length_append, List.length_append, pre_len, cb_len, e1, e2]
  generalize (l.take k).length = a at *
  generalize M.room = r at *
  omega
theorem tcode_len (l : List Int) : (tcode l).length = 130 + 2 * l.length := by
  unfold tcode; rw [List.length_append, List.length_append, pre_len, cb_len]; rfl
theorem threads_any (p : Option Addr) (cap : Nat) (l : List Int) (hl : l.length ≤ 1000) (hC : ∀ x ∈ l, C.C x) (w : World) (h : S.Sl S.eU 1 w p l) :
    Calls Tryz.prog 32 #[.slice p l.length cap] w fun e w' => ∃ kv, e = .returned (T.cv kv 128 none 0 0 none 0 0) ∧ T.IsC w' (T.cv kv 128 none 0 0 none 0 0) ⟨tcode l, 128, [], []⟩ none 0 none 0 kv ∧ (∀ k, kv.ownBlock = some k → w.heap.size ≤ k) ∧ Below w.heap.size w w' := by
  have hz := heap_alloc_new w (.cells #[.slice none 0 0, .int .u16 0, .slice none 0 0, .slice none 0 0] 27)
  have hb := P.bel_alloc w (.cells #[.slice none 0 0, .int .u16 0, .slice none 0 0, .slice none 0 0] 27)
  generalize hW : w.alloc (.cells #[.slice none 0 0, .int .u16 0, .slice none 0 0, .slice none 0 0] 27) = W at *
  have hs : w.heap.size < W.heap.size := S.lt_of hz
  have HB := S.hid hb
  have HZ := S.hid hz
  have H := S.hid h
  have HL := S.hid (And.intro hl hC)
  have hl0 : l.length ≤ 1000 := hl
  clear h hb hz hl hC
  go_enter Tryz.func32, Tryz.ntmps32
  go_wp2
  go_loopw [3, 4] (fun b i wr => ∃ k : Nat, k ≤ 64 ∧ i = .int .i64 (k : Int) ∧ M.Row wr W.heap.size b (pre k) ∧ Below W.heap.size W wr) (fun _ i _ => 64 - (intOf i).toNat)
  case atStart => exact ⟨0, by omega, rfl, M.row_nil _ _, Below.refl _ _⟩
  case round =>
    obtain ⟨k, hk, rfl, hR, hBr⟩ := hrel
    by_cases hlt : k < 64
    · have i1 : (k : Int) < 64 := by omega
      have u1 : IntKind.u8.wrap (k : Int) = (k : Int) := by rw [M.u8_wrap]; omega
      have w1 : wrap64 ((k : Int) + 1) = ((k + 1 : Nat) : Int) := by simp [wrap64]; omega
      have b1 := P.bel_alloc wr (.cells #[.int .u8 (k : Int), .int .u8 0] 5)
      have s1 : M.Sl (wr.alloc (.cells #[.int .u8 (k : Int), .int .u8 0] 5)) (.slice (some ⟨wr.heap.size, 0, none⟩) 2 2) [UInt8.ofNat k, 0] := by
        have := sl2 wr W.heap.size hBr.size (UInt8.ofNat k) 0
        rw [ofNat_toNat k (by omega)] at this; exact this
      have r1 := hR.below b1
      have B1 := trB hBr b1 hBr.size
      obtain ⟨vp, vc, rfl⟩ := own_form hR
      have HR := S.hid r1
      have HB1 := S.hid B1
      clear hR hBr b1
      go_wp2_with (first | (at_builtin; refine M.wpList_append_bytes _ rfl _ _ rfl W.heap.size _ (pre k) rfl r1 _ [UInt8.ofNat k, 0] rfl s1 (by rw [pre_len]; unfold M.room; simp; omega) B1.size ?_))
      intro v' w2 hr2 hg2
      have hB2 : Below W.heap.size W w2 := HB1.out.trans (hg2.below (fun i e => (own_lt HR.out i e).1) HB1.out.size)
      rw [← pre_succ] at hr2
      have HE := S.hid (And.intro hr2 hB2)
      clear hr2 hg2 hB2 r1 s1 B1 HR HB1
      go_wp2
      go_roundw
      case rel => exact ⟨k + 1, by omega, by go_num, HE.out.1, HE.out.2⟩
      case measure => simp [intOf]; omega
    · obtain rfl : k = 64 := by omega
      have b1 := P.bel_alloc wr (.cells #[.int .u8 1, .int .u8 0] 5)
      have s1 : M.Sl (wr.alloc (.cells #[.int .u8 1, .int .u8 0] 5)) (.slice (some ⟨wr.heap.size, 0, none⟩) 2 2) [1, 0] := sl2 wr W.heap.size hBr.size 1 0
      have r1 := hR.below b1
      have B1 := trB hBr b1 hBr.size
      obtain ⟨vp, vc, rfl⟩ := own_form hR
      have HR := S.hid r1
      have HB1 := S.hid B1
      clear hR hBr b1
      go_wp2_with (first | (at_builtin; refine M.wpList_append_bytes _ rfl _ _ rfl W.heap.size _ (pre 64) rfl r1 _ [1, 0] rfl s1 (by rw [pre_len]; unfold M.room; simp) B1.size ?_))
      intro v' w2 hr2 hg2
      have hB2 : Below W.heap.size W w2 := HB1.out.trans (hg2.below (fun i e => (own_lt HR.out i e).1) HB1.out.size)
      have HE := S.hid (And.intro hr2 hB2)
      clear hr2 hg2 hB2 r1 s1 B1 HR HB1
      go_wp2
      go_loopw [3, 21] (fun b i wr => ∃ k : Nat, k ≤ l.length ∧ i = .int .i64 (k : Int) ∧ M.Row wr W.heap.size b (pre 64 ++ [1, 0] ++ (l.take k).flatMap cb2) ∧ Below W.heap.size W wr) (fun _ i _ => l.length - (intOf i).toNat)
      case atStart => exact ⟨0, by omega, rfl, by simpa using HE.out.1, HE.out.2⟩
      case round =>
        clear HE
        obtain ⟨k, hk, rfl, hR, hBr⟩ := hrel
        by_cases hlt : k < l.length
        · have i1 : (k : Int) < l.length := by omega
          have hBw := trB HB.out hBr (Nat.le_of_lt hs)
          obtain ⟨b, o, rfl, e1⟩ := (H.out.below hBw).u k l[k] (List.getElem?_eq_getElem hlt)
          obtain ⟨x0, x1⟩ := HL.out.2 l[k] (List.getElem_mem hlt)
          have ht : (l.take (k + 1)).flatMap cb2 = (l.take k).flatMap cb2 ++ cb2 l[k] := by rw [List.take_add_one, List.getElem?_eq_getElem hlt, List.flatMap_append]; simp
          generalize l[k] = x at *
          have d1 : x.tdiv 256 = x / 256 := Int.tdiv_eq_ediv_of_nonneg x0
          have d2 : IntKind.u16.wrap (x / 256) = x / 256 := by rw [M.u16_wrap]; omega
          have u1 : IntKind.u8.wrap x = ((M.b8 x).toNat : Int) := by rw [M.u8_wrap, b8_nat]
          have u2 : IntKind.u8.wrap (x / 256) = ((M.b8 (x / 256)).toNat : Int) := by rw [M.u8_wrap, b8_nat]
          have w1 : wrap64 ((k : Int) + 1) = ((k + 1 : Nat) : Int) := by simp [wrap64]; omega
          have b1 := P.bel_alloc wr (.cells #[.int .u8 ((M.b8 x).toNat : Int), .int .u8 ((M.b8 (x / 256)).toNat : Int)] 5)
          have s1 : M.Sl (wr.alloc (.cells #[.int .u8 ((M.b8 x).toNat : Int), .int .u8 ((M.b8 (x / 256)).toNat : Int)] 5)) (.slice (some ⟨wr.heap.size, 0, none⟩) 2 2) (cb2 x) := sl2 wr W.heap.size hBr.size (M.b8 x) (M.b8 (x / 256))
          have r1 := hR.below b1
          have B1 := trB hBr b1 hBr.size
          obtain ⟨vp, vc, rfl⟩ := own_form hR
          have HR := S.hid r1
          have HB1 := S.hid B1
          have hz1 := room_ok l k x hl0
          have hLL : (pre 64 ++ [1, 0] ++ (l.take k).flatMap cb2) ++ cb2 x = pre 64 ++ [1, 0] ++ (l.take (k + 1)).flatMap cb2 := by rw [ht, List.append_assoc (pre 64 ++ [1, 0])]
          have HT := S.hid hLL
          generalize pre 64 ++ [1, 0] ++ (l.take k).flatMap cb2 = L at *
          clear hR hBr b1 x0 x1 hBw ht H hLL
          generalize (M.b8 x).toNat = y0 at *
          generalize (M.b8 (x / 256)).toNat = y1 at *
          go_wp2_with (first | (at_builtin; refine M.wpList_append_bytes _ rfl _ _ rfl W.heap.size _ _ rfl r1 _ (cb2 x) rfl s1 hz1 B1.size ?_))
          intro v' w2 hr2 hg2
          have hB2 : Below W.heap.size W w2 := HB1.out.trans (hg2.below (fun i e => (own_lt HR.out i e).1) HB1.out.size)
          rw [HT.out] at hr2
          have HE := S.hid (And.intro hr2 hB2)
          clear hr2 hg2 hB2 r1 s1 B1 HR HB1 HT hz1
          go_wp2
          go_roundw
          case rel => exact ⟨k + 1, by omega, by go_num, HE.out.1, HE.out.2⟩
          case measure => simp [intOf]; omega
        · obtain rfl : k = l.length := by omega
          rw [List.take_length] at hR
          have hR : M.Row wr W.heap.size _ (tcode l) := hR
          have hz2 := (hBr.block _ hs).trans HZ.out
          obtain ⟨vp, vc, hv⟩ := own_form hR
          subst hv
          have hfin := setRow_heap wr w.heap.size _ #[.slice vp (tcode l).length vc, .int .u16 128, .slice none 0 0, .slice none 0 0] _ _ hz2
          have hbf := P.Below.setRow (trB HB.out hBr (Nat.le_of_lt hs)) w.heap.size (Nat.le_refl _) #[.slice vp (tcode l).length vc, .int .u16 128, .slice none 0 0, .slice none 0 0]
          have hrf : M.Row (wr.setRow w.heap.size #[.slice vp (tcode l).length vc, .int .u16 128, .slice none 0 0, .slice none 0 0]) W.heap.size (.slice vp (tcode l).length vc) (tcode l) := S.own_kept hR fun i e _ => setRow_other wr w.heap.size i _ (by have := own_lt hR i e; omega)
          have hlen : (tcode l).length ≤ 16384 := by rw [tcode_len]; clear H HB HZ HL hBr hR hz2 hfin hbf hrf; omega
          have HF := S.hid (And.intro hfin (And.intro hbf (And.intro hrf hlen)))
          have hZ : wr.heap[w.heap.size]? = some (.cells zC 27 (0, 0)) := hz2
          clear hfin hbf hrf hR hBr hz2 H hlen
          generalize hTT : tcode l = tl at *
          go_wp2_with (refine wpList_store_row rfl 27 _ _ rfl w.heap.size _ rfl rfl 27 zC hZ (by exact size27) (by rfl) (by simp [Value.oneCell']) ?_)
          refine bodyPost_ret (results_cell_row rfl _ _ w.heap.size 27 _ (0, 0) _ rfl HF.out.1 Tryz.underlying27 rfl size27) rfl ⟨.slice vp tl.length vc, rfl, ?_, fun i e => by have := own_lt HF.out.2.2.1 i e; omega, HF.out.2.1⟩
          subst hTT
          exact ⟨rfl, HF.out.2.2.1.sl, Nat.le_trans HF.out.2.2.2 (Nat.le_trans (by decide) room_big), fun i t ht => by simp at ht, by simp, fun i t ht => by simp at ht, by simp, ⟨by simp, by simp⟩, by simp, by simp⟩
end Go.Proofs.YteldjmecomngeaaGreat.V
/-! The law's awake. -/
namespace Go.Proofs.YteldjmecomngeaaGreat.V
open Go.RowKit
open Go.Proofs
set_option linter.unusedVariables false
set_option linter.unusedSimpArgs false
set_option maxHeartbeats 2000000
set_option maxRecDepth 100000
def aw : T.Ct := ⟨tcode [6, 7, 6, 0, 48, 16], 128, [], []⟩
theorem aw_may : T.may aw = true := by
  have e : T.codeB (tcode [6, 7, 6, 0, 48, 16]) = true := by unfold T.codeB; rw [tcode_len]; rfl
  unfold T.may aw; rw [e]; rfl
theorem aw_st : (frame (born aw) 0 100).v.st = 2 := by kernel_rfl
theorem aw_steps : (frame (born aw) 0 100).steps = 4 := by kernel_rfl
theorem aw_spent : (frame (born aw) 0 100).spent = 10 := by kernel_rfl
theorem aw_D : (frame (born aw) 0 100).v.D = [0] := by kernel_rfl
theorem mkRow (w : World) (z c : Array Value) (t : TypeId) : (w.alloc (.cells z t)).heap[w.heap.size]? = some (.cells z t (0, 0)) ∧ ((w.alloc (.cells z t)).setRow w.heap.size c).heap[w.heap.size]? = some (.cells c t (0, 0)) ∧ Below w.heap.size w ((w.alloc (.cells z t)).setRow w.heap.size c) :=
  ⟨heap_alloc_new w _, setRow_heap _ _ _ _ _ _ (heap_alloc_new w _), P.Below.setRow (P.bel_alloc w _) w.heap.size (Nat.le_refl _) c⟩
/-- What is done to a machine that is all new touches nothing older. -/
theorem tcB {W W' : World} {n g bd br bm : Nat} {kv : Value} {F : Nat → Prop} {v : VS} (h : VD W W' g bd br bm kv F v) (f : Fresh n g bd br bm kv F) (hn : n ≤ W.heap.size) : Below n W W' :=
  ⟨h.t.os, h.t.tape, h.t.output, h.t.size, fun k hk => h.t.block k (by omega) (by
    rintro (e | e | e | e)
    · have := f.g; omega
    · have := f.d; omega
    · have := f.r; omega
    · have := f.f k e; omega)⟩
theorem awake_any (w : World) : Calls Tryz.prog 11 #[] w fun e w' => e = .returned (.bool true) ∧ Below w.heap.size w w' := by
  have hb := P.bel_alloc w (.cells #[.int .u16 6, .int .u16 7, .int .u16 6, .int .u16 0, .int .u16 48, .int .u16 16] 23)
  have hs : S.Sl S.eU 1 (w.alloc (.cells #[.int .u16 6, .int .u16 7, .int .u16 6, .int .u16 0, .int .u16 48, .int .u16 16] 23)) (some ⟨w.heap.size, 0, none⟩) [6, 7, 6, 0, 48, 16] :=
    P.sl_block S.hU _ _ _ [6, 7, 6, 0, 48, 16] (heap_alloc_new w (.cells #[.int .u16 6, .int .u16 7, .int .u16 6, .int .u16 0, .int .u16 48, .int .u16 16] 23))
  have k1 := threads_any (some ⟨w.heap.size, 0, none⟩) 6 [6, 7, 6, 0, 48, 16] (by decide) (by unfold C.C; decide) _ hs
  simp only [List.length_cons, List.length_nil, Nat.reduceAdd] at k1
  have HB := S.hid hb
  clear hb hs
  go_enter Tryz.func11, Tryz.ntmps11
  go_wp2_with fail
  refine k1.mono ?_
  rintro e w1 ⟨kv, rfl, hC, _, h1⟩
  have HB1 := S.hid (trB HB.out h1 HB.out.size)
  have k2 := new_yes _ aw none 0 none 0 kv w1 hC aw_may
  clear k1 h1 HB
  go_wp2_with fail
  refine k2.mono ?_
  rintro e w2 ⟨g, bd, br, bm, ku, F, rfl, hM, hF, h2⟩
  have HB2 := S.hid (trB HB1.out h2 HB1.out.size)
  have h01 : w.heap.size ≤ w1.heap.size := HB1.out.size
  have h12 : w1.heap.size ≤ w2.heap.size := h2.size
  have k3 := frame_any 0 100 (by decide) (by decide) g bd br bm ku F (born aw) w2 hM
  have e0 : ((0 : UInt8).toNat : Int) = 0 := rfl
  rw [e0] at k3
  have d1 := aw_st
  have d2 := aw_steps
  have d3 := aw_spent
  have d4 := aw_D
  have HM := S.hid hM
  have HF := S.hid hF
  generalize frame (born aw) 0 100 = r at *
  obtain ⟨u, n, sp⟩ := r
  simp only at k3 d1 d2 d3 d4
  subst d2 d3
  unfold OutV at k3
  simp only [d1] at k3
  clear k2 h2 HB1 hM hF hC e0
  go_wp2_with fail
  refine k3.mono ?_
  rintro e w3 ⟨p1, c1, p2, c2, rfl, _, _, hV⟩
  obtain ⟨z3, r3, b3⟩ := mkRow w3 #[.int .i64 0, .int .i64 0, .int .i64 0, .int .i64 0, .int .i64 0, .slice none 0 0, .slice none 0 0] #[.int .i64 2, .int .i64 u.fa, .int .i64 4, .int .i64 10, .int .i64 (100 - 10), .slice p1 u.m.scr.length c1, .slice p2 u.m.tones.length c2] 39
  have HB2' := S.hid (HB2.out.trans ((tcB hV HF.out h12).mono h01))
  have HB3 := S.hid (trB HB2'.out b3 HB2'.out.size)
  have hM3 := hV.s.below b3
  have k4 := state_any g bd br bm ku _ u _ hM3
  have a0 := S.cell_of _ _ 0 [.int .i64 2, .int .i64 u.fa, .int .i64 4, .int .i64 10, .int .i64 (100 - 10), .slice p1 u.m.scr.length c1, .slice p2 u.m.tones.length c2] _ _ r3 rfl
  have a2 := S.cell_of _ _ 2 [.int .i64 2, .int .i64 u.fa, .int .i64 4, .int .i64 10, .int .i64 (100 - 10), .slice p1 u.m.scr.length c1, .slice p2 u.m.tones.length c2] _ _ r3 rfl
  have a3 := S.cell_of _ _ 3 [.int .i64 2, .int .i64 u.fa, .int .i64 4, .int .i64 10, .int .i64 (100 - 10), .slice p1 u.m.scr.length c1, .slice p2 u.m.tones.length c2] _ _ r3 rfl
  have a4 := S.cell_of _ _ 4 [.int .i64 2, .int .i64 u.fa, .int .i64 4, .int .i64 10, .int .i64 (100 - 10), .slice p1 u.m.scr.length c1, .slice p2 u.m.tones.length c2] _ _ r3 rfl
  unfold StV at k4
  simp only [d1, d4, List.length_cons, List.length_nil, Nat.reduceAdd] at k4
  clear k3 hV b3 hM3
  go_wp2_with (refine wpList_store_row rfl 39 _ _ rfl w3.heap.size _ rfl rfl 39 #[.int .i64 0, .int .i64 0, .int .i64 0, .int .i64 0, .int .i64 0, .slice none 0 0, .slice none 0 0] z3 (by exact size39) (by rfl) (by simp [Value.oneCell']) ?_)
  refine k4.mono ?_
  rintro e w4 ⟨q1, d1, q2, d2, rfl, hu, hk, b4⟩
  have f0 := T.below_cell b4 _ _ a0
  have f2 := T.below_cell b4 _ _ a2
  have f3 := T.below_cell b4 _ _ a3
  have f4 := T.below_cell b4 _ _ a4
  obtain ⟨z5, r5, b5⟩ := mkRow w4 #[.int .u16 0, .int .i64 0, .int .i64 0, .slice none 0 0, .slice none 0 0] #[.int .u16 u.pc, .int .i64 2, .int .i64 u.fa, .slice q1 1 d1, .slice q2 u.R.length d2] 46
  have HB4 := S.hid (trB (trB HB3.out b4 HB3.out.size) b5 (Nat.le_trans HB3.out.size b4.size))
  have g0 := T.below_cell b5 _ _ f0
  have g2 := T.below_cell b5 _ _ f2
  have g3 := T.below_cell b5 _ _ f3
  have g4 := T.below_cell b5 _ _ f4
  have h3 := S.cell_of _ _ 3 [.int .u16 u.pc, .int .i64 2, .int .i64 u.fa, .slice q1 1 d1, .slice q2 u.R.length d2] _ _ r5 rfl
  obtain ⟨q', c', e', _, hsl⟩ := (S.RowU.ls hu).ex
  cases e'
  obtain ⟨q, o, rfl, hc⟩ := (hsl.below b5).u 0 0 rfl
  simp only [Nat.add_zero] at hc
  clear k4 b4 b5 hu hk r3 r5 a0 a2 a3 a4 f0 f2 f3 f4 z3 hsl
  go_wp2_with (refine wpList_store_row rfl 46 _ _ rfl w4.heap.size _ rfl rfl 46 #[.int .u16 0, .int .i64 0, .int .i64 0, .slice none 0 0, .slice none 0 0] z5 (by exact size46) (by rfl) (by simp [Value.oneCell']) ?_)

  go_ret
  exact ⟨rfl, HB4.out⟩
end Go.Proofs.YteldjmecomngeaaGreat.V
/-! A machine that is none. -/
namespace Go.Proofs.YteldjmecomngeaaGreat.V
open Go.RowKit
open Go.Proofs
set_option linter.unusedVariables false
set_option linter.unusedSimpArgs false
set_option maxHeartbeats 2000000
set_option maxRecDepth 100000
theorem primF : Tryz.prog.underlying 49 = some (.struct (Tryz.prog.fieldsOf 49)) ∧ Tryz.prog.fieldsOf 49 = #[⟨ "Op", 3, 0, false, "", "", 0⟩, ⟨ "Name", 9, 1, false, "", "", 8⟩, ⟨ "In", 3, 2, false, "", "", 24⟩, ⟨ "Out", 3, 3, false, "", "", 32⟩, ⟨ "Cost", 3, 4, false, "", "", 40⟩, ⟨ "Operand", 4, 5, false, "", "", 48⟩] ∧ Tryz.prog.stoodInHeld 49 = false ∧ Tryz.prog.cellsOf 3 = 1 ∧ Tryz.prog.cellsOf 9 = 1 ∧ Tryz.prog.cellsOf 4 = 1 :=
  ⟨by kernel_rfl, by kernel_rfl, by kernel_rfl, by kernel_rfl, by kernel_rfl, by kernel_rfl⟩
theorem eqP (W : World) (op : Int) (nm : ByteArray) (i o c : Int) (b : Bool) : (Op.equalIn 10000 49 (.agg #[.int .i64 op, .string nm, .int .i64 i, .int .i64 o, .int .i64 c, .bool b]) (.agg #[.int .i64 op, .string nm, .int .i64 i, .int .i64 o, .int .i64 c, .bool b])).run Tryz.prog W = .ok true W := by
  obtain ⟨hs, hf, hp, k3, k9, k4⟩ := primF
  rw [run_equalIn_agg W 9999 _ _ _ hs hp, hf]
  simp [go_sem, Tryz.underlying3, Tryz.underlying9, Tryz.underlying4, k3, k9, k4, Result.andThen]
theorem eql_prim (W : World) (op : Int) (nm : ByteArray) (i o c : Int) (b : Bool) : (binOp .eql 49 (.agg #[.int .i64 op, .string nm, .int .i64 i, .int .i64 o, .int .i64 c, .bool b]) (.agg #[.int .i64 op, .string nm, .int .i64 i, .int .i64 o, .int .i64 c, .bool b])).run Tryz.prog W = .ok (.bool true) W := by
  rw [run_eql_struct, eqP]; rfl
theorem neq_prim (W : World) (op : Int) (nm : ByteArray) (i o c : Int) (b : Bool) : (binOp .neq 49 (.agg #[.int .i64 op, .string nm, .int .i64 i, .int .i64 o, .int .i64 c, .bool b]) (.agg #[.int .i64 op, .string nm, .int .i64 i, .int .i64 o, .int .i64 c, .bool b])).run Tryz.prog W = .ok (.bool false) W := by
  rw [run_neq_struct, eqP]; rfl
theorem look_nil (w : World) : Calls Tryz.prog 15 #[.pointer none] w fun e w' => e = .returned (.tuple #[P.rowV 0 ⟨#[]⟩ 0 0 0 false, .int .u16 0, .int .i64 0]) ∧ Below w.heap.size w w' := by
  have hz := heap_alloc_new w (.cells #[.int .i64 0, .string { data := #[] }, .int .i64 0, .int .i64 0, .int .i64 0, .bool false] 49)
  have hb := P.bel_alloc w (.cells #[.int .i64 0, .string { data := #[] }, .int .i64 0, .int .i64 0, .int .i64 0, .bool false] 49)
  go_enter Tryz.func15, Tryz.ntmps15
  go_wp2_with (refine wpList_store_row rfl 49 _ _ rfl w.heap.size _ rfl rfl 49 P.zR hz (by exact P.sizeR) (by rfl) (by simp [Value.oneCell']) ?_)
  exact look_fin hz hb rfl rfl rfl rfl
theorem frame_nil (x B : Int) (w : World) : Calls Tryz.prog 13 #[.pointer none, .int .u8 x, .int .i64 B] w fun e w' => e = .returned (.tuple #[.agg #[.int .i64 0, .int .i64 0, .int .i64 0, .int .i64 0, .int .i64 0, .slice none 0 0, .slice none 0 0], .int .i64 1]) ∧ Below w.heap.size w w' := by
  obtain ⟨hz, hfin, hb⟩ := mkRow w #[.int .i64 0, .int .i64 0, .int .i64 0, .int .i64 0, .int .i64 0, .slice none 0 0, .slice none 0 0] #[.int .i64 0, .int .i64 0, .int .i64 0, .int .i64 0, .int .i64 0, .slice none 0 0, .slice none 0 0] 39
  go_enter Tryz.func13, Tryz.ntmps13
  go_wp2_with (refine wpList_store_row rfl 39 _ _ rfl w.heap.size _ rfl rfl 39 z7 hz (by exact size39) (by rfl) (by simp [Value.oneCell']) ?_)
  refine bodyPost_ret (v := .tuple #[.agg #[.int .i64 0, .int .i64 0, .int .i64 0, .int .i64 0, .int .i64 0, .slice none 0 0, .slice none 0 0], .int .i64 1]) ?_ rfl ⟨rfl, hb⟩
  rw [results_cell_tmp rfl]
  simp [asAddr, run_loadVar_row _ w.heap.size _ 39 _ _ _ hfin Tryz.underlying39 rfl size39]
theorem state_nil (w : World) : Calls Tryz.prog 14 #[.pointer none] w fun e w' => e = .returned (.agg #[.int .u16 0, .int .i64 0, .int .i64 0, .slice none 0 0, .slice none 0 0]) ∧ Below w.heap.size w w' := by
  obtain ⟨hz, hfin, hb⟩ := mkRow w #[.int .u16 0, .int .i64 0, .int .i64 0, .slice none 0 0, .slice none 0 0] #[.int .u16 0, .int .i64 0, .int .i64 0, .slice none 0 0, .slice none 0 0] 46
  go_enter Tryz.func14, Tryz.ntmps14
  go_wp2_with (refine wpList_store_row rfl 46 _ _ rfl w.heap.size _ rfl rfl 46 z5 hz (by exact size46) (by rfl) (by simp [Value.oneCell']) ?_)
  exact bodyPost_ret (results_cell_row rfl _ _ w.heap.size 46 _ (0, 0) _ rfl hfin Tryz.underlying46 rfl size46) rfl ⟨rfl, hb⟩
theorem step_nil (w : World) : Calls Tryz.prog 16 #[.pointer none] w fun e w' => e = .returned (.bool false) ∧ w' = w := by
  go_enter Tryz.func16, Tryz.ntmps16
  go_wp2
  go_ret
  exact ⟨rfl, rfl⟩
theorem memory_nil (w : World) : Calls Tryz.prog 18 #[.pointer none] w fun e w' => e = .returned (.pointer none) ∧ w' = w := by
  go_enter Tryz.func18, Tryz.ntmps18
  go_wp2
  go_ret
  exact ⟨rfl, rfl⟩
theorem copy_nil (w : World) : Calls Tryz.prog 19 #[.pointer none] w fun e w' => e = .returned (.pointer none) ∧ w' = w := by
  go_enter Tryz.func19, Tryz.ntmps19
  go_wp2
  go_ret
  exact ⟨rfl, rfl⟩
theorem sameState0 (w : World) : Calls Tryz.prog 17 #[.agg #[.int .u16 0, .int .i64 0, .int .i64 0, .slice none 0 0, .slice none 0 0], .agg #[.int .u16 0, .int .i64 0, .int .i64 0, .slice none 0 0, .slice none 0 0]] w fun e w' => e = .returned (.bool true) ∧ Below w.heap.size w w' := by
  have hb : Below w.heap.size w ((w.alloc (.cells #[.int .u16 0, .int .i64 0, .int .i64 0, .slice none 0 0, .slice none 0 0] 46)).alloc (.cells #[.int .u16 0, .int .i64 0, .int .i64 0, .slice none 0 0, .slice none 0 0] 55)) := ((Below.refl _ w).alloc (Nat.le_refl _) _).alloc (by simp) _
  go_enter Tryz.func17, Tryz.ntmps17
  go_wp2
  go_loopw [47] (fun i wr => i = .int .i64 0 ∧ wr = ((w.alloc (.cells #[.int .u16 0, .int .i64 0, .int .i64 0, .slice none 0 0, .slice none 0 0] 46)).alloc (.cells #[.int .u16 0, .int .i64 0, .int .i64 0, .slice none 0 0, .slice none 0 0] 55))) (fun _ _ => 0)
  case atStart => exact ⟨rfl, rfl⟩
  case round =>
    obtain ⟨rfl, rfl⟩ := hrel
    go_wp2
    go_loopw [65] (fun i wr => i = .int .i64 0 ∧ wr = ((w.alloc (.cells #[.int .u16 0, .int .i64 0, .int .i64 0, .slice none 0 0, .slice none 0 0] 46)).alloc (.cells #[.int .u16 0, .int .i64 0, .int .i64 0, .slice none 0 0, .slice none 0 0] 55))) (fun _ _ => 0)
    case atStart => exact ⟨rfl, rfl⟩
    case round =>
      obtain ⟨rfl, rfl⟩ := hrel
      go_wp2
      go_ret
      exact ⟨rfl, hb⟩
end Go.Proofs.YteldjmecomngeaaGreat.V
/-! VmNone. -/
namespace Go.Proofs.YteldjmecomngeaaGreat.V
open Go.RowKit
open Go.Proofs
set_option linter.unusedVariables false
set_option linter.unusedSimpArgs false
set_option maxHeartbeats 2000000
set_option maxRecDepth 100000
theorem none_walk (x n : Int) (w : World) : Calls Tryz.prog 4 #[.int .u8 x, .int .i64 n] w fun e w' => e = .returned (.bool true) ∧ Below w.heap.size w w' := by
  have qe := fun W => eql_prim W 0 { data := #[] } 0 0 0 false
  have k1 := look_nil w
  unfold P.rowV at k1
  go_enter Tryz.func4, Tryz.ntmps4
  go_wp2_with fail
  refine k1.mono ?_
  rintro e w1 ⟨rfl, h1⟩
  obtain ⟨z1, r1, b1⟩ := mkRow w1 #[.int .i64 0, .string { data := #[] }, .int .i64 0, .int .i64 0, .int .i64 0, .bool false] #[.int .i64 0, .string { data := #[] }, .int .i64 0, .int .i64 0, .int .i64 0, .bool false] 49
  have HB1 := S.hid (trB h1 b1 h1.size)
  have k2 := frame_nil x n ((w1.alloc (.cells #[.int .i64 0, .string { data := #[] }, .int .i64 0, .int .i64 0, .int .i64 0, .bool false] 49)).setRow w1.heap.size #[.int .i64 0, .string { data := #[] }, .int .i64 0, .int .i64 0, .int .i64 0, .bool false])
  have i0 := S.cell_of _ _ 0 [.int .i64 0, .string { data := #[] }, .int .i64 0, .int .i64 0, .int .i64 0, .bool false] _ _ r1 rfl
  have i1 := S.cell_of _ _ 1 [.int .i64 0, .string { data := #[] }, .int .i64 0, .int .i64 0, .int .i64 0, .bool false] _ _ r1 rfl
  have i2 := S.cell_of _ _ 2 [.int .i64 0, .string { data := #[] }, .int .i64 0, .int .i64 0, .int .i64 0, .bool false] _ _ r1 rfl
  have i3 := S.cell_of _ _ 3 [.int .i64 0, .string { data := #[] }, .int .i64 0, .int .i64 0, .int .i64 0, .bool false] _ _ r1 rfl
  have i4 := S.cell_of _ _ 4 [.int .i64 0, .string { data := #[] }, .int .i64 0, .int .i64 0, .int .i64 0, .bool false] _ _ r1 rfl
  have i5 := S.cell_of _ _ 5 [.int .i64 0, .string { data := #[] }, .int .i64 0, .int .i64 0, .int .i64 0, .bool false] _ _ r1 rfl
  clear k1 h1 b1 r1
  go_wp2_with (refine wpList_store_row rfl 49 _ _ rfl w1.heap.size _ rfl rfl 49 #[.int .i64 0, .string { data := #[] }, .int .i64 0, .int .i64 0, .int .i64 0, .bool false] z1 (by exact P.sizeR) (by rfl) (by simp [Value.oneCell']) ?_)
  refine k2.mono ?_
  rintro e w2 ⟨rfl, h2⟩
  obtain ⟨z2, r2, b2⟩ := mkRow w2 #[.int .i64 0, .int .i64 0, .int .i64 0, .int .i64 0, .int .i64 0, .slice none 0 0, .slice none 0 0] #[.int .i64 0, .int .i64 0, .int .i64 0, .int .i64 0, .int .i64 0, .slice none 0 0, .slice none 0 0] 39
  have HB2 := S.hid (trB (trB HB1.out h2 HB1.out.size) b2 (Nat.le_trans HB1.out.size h2.size))
  have h2b := trB h2 b2 h2.size
  have i0 := T.below_cell h2b _ _ i0
  have i1 := T.below_cell h2b _ _ i1
  have i2 := T.below_cell h2b _ _ i2
  have i3 := T.below_cell h2b _ _ i3
  have i4 := T.below_cell h2b _ _ i4
  have i5 := T.below_cell h2b _ _ i5
  have k3 := state_nil ((w2.alloc (.cells #[.int .i64 0, .int .i64 0, .int .i64 0, .int .i64 0, .int .i64 0, .slice none 0 0, .slice none 0 0] 39)).setRow w2.heap.size #[.int .i64 0, .int .i64 0, .int .i64 0, .int .i64 0, .int .i64 0, .slice none 0 0, .slice none 0 0])
  have j0 := S.cell_of _ _ 0 [.int .i64 0, .int .i64 0, .int .i64 0, .int .i64 0, .int .i64 0, .slice none 0 0, .slice none 0 0] _ _ r2 rfl
  have j5 := S.cell_of _ _ 5 [.int .i64 0, .int .i64 0, .int .i64 0, .int .i64 0, .int .i64 0, .slice none 0 0, .slice none 0 0] _ _ r2 rfl
  clear k2 h2 b2 r2 h2b z1
  go_wp2_with (refine wpList_store_row rfl 39 _ _ rfl w2.heap.size _ rfl rfl 39 #[.int .i64 0, .int .i64 0, .int .i64 0, .int .i64 0, .int .i64 0, .slice none 0 0, .slice none 0 0] z2 (by exact size39) (by rfl) (by simp [Value.oneCell']) ?_)
  refine k3.mono ?_
  rintro e w3 ⟨rfl, h3⟩
  obtain ⟨z3, r3, b3⟩ := mkRow w3 #[.int .u16 0, .int .i64 0, .int .i64 0, .slice none 0 0, .slice none 0 0] #[.int .u16 0, .int .i64 0, .int .i64 0, .slice none 0 0, .slice none 0 0] 46
  have HB3 := S.hid (trB (trB HB2.out h3 HB2.out.size) b3 (Nat.le_trans HB2.out.size h3.size))
  have h3b := trB h3 b3 h3.size
  have i0 := T.below_cell h3b _ _ i0
  have i1 := T.below_cell h3b _ _ i1
  have i2 := T.below_cell h3b _ _ i2
  have i3 := T.below_cell h3b _ _ i3
  have i4 := T.below_cell h3b _ _ i4
  have i5 := T.below_cell h3b _ _ i5
  have j0 := T.below_cell h3b _ _ j0
  have j5 := T.below_cell h3b _ _ j5
  have s0 := S.cell_of _ _ 0 [.int .u16 0, .int .i64 0, .int .i64 0, .slice none 0 0, .slice none 0 0] _ _ r3 rfl
  have s1 := S.cell_of _ _ 1 [.int .u16 0, .int .i64 0, .int .i64 0, .slice none 0 0, .slice none 0 0] _ _ r3 rfl
  have s2 := S.cell_of _ _ 2 [.int .u16 0, .int .i64 0, .int .i64 0, .slice none 0 0, .slice none 0 0] _ _ r3 rfl
  have s3 := S.cell_of _ _ 3 [.int .u16 0, .int .i64 0, .int .i64 0, .slice none 0 0, .slice none 0 0] _ _ r3 rfl
  have s4 := S.cell_of _ _ 4 [.int .u16 0, .int .i64 0, .int .i64 0, .slice none 0 0, .slice none 0 0] _ _ r3 rfl
  have n1 := step_nil
  have n2 := memory_nil
  have n3 := copy_nil
  have n4 := sameState0
  have n5 := awake_any
  clear k3 h3 b3 r3 h3b z2
  go_wp2_with (first
    | (refine wpList_store_row rfl 46 _ _ rfl w3.heap.size _ rfl rfl 46 #[.int .u16 0, .int .i64 0, .int .i64 0, .slice none 0 0, .slice none 0 0] z3 (by exact size46) (by rfl) (by simp [Value.oneCell']) ?_)
    | (go_at_call 16; refine (n1 _).mono ?_; rintro e wa ⟨rfl, rfl⟩)
    | (go_at_call 17; refine (n4 _).mono ?_; rintro e wb ⟨rfl, hb⟩)
    | (go_at_call 18; refine (n2 _).mono ?_; rintro e wc ⟨rfl, rfl⟩)
    | (go_at_call 19; refine (n3 _).mono ?_; rintro e wd ⟨rfl, rfl⟩)
    | (go_at_call 11; refine (n5 _).mono ?_; rintro e we ⟨rfl, he⟩))
  go_ret
  exact ⟨rfl, trB (trB HB3.out hb HB3.out.size) he (Nat.le_trans HB3.out.size hb.size)⟩
end Go.Proofs.YteldjmecomngeaaGreat.V
