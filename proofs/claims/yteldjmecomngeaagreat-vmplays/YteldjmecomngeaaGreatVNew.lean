import Derived.Test.YteldjmecomngeaaGreatVState
import Derived.Test.YteldjmecomngeaaGreatTCheckE
import Derived.Test.YteldjmecomngeaaGreatVTks
namespace Go.Proofs.YteldjmecomngeaaGreat.V
open Go.RowKit
open Go.Proofs
set_option linter.unusedVariables false
set_option linter.unusedSimpArgs false
set_option maxHeartbeats 2000000
set_option maxRecDepth 100000
theorem mayB_of : ∀ (bs : List (Int × List UInt8)) (p : Int), T.bankG p bs = true -> M.mayB p bs = true
 | [], _, _ => rfl
 | t :: r, p, h => by
  simp only [T.bankG, T.datOk, Bool.and_eq_true, decide_eq_true_eq] at h; unfold M.mayB; rw [if_neg (by omega)]; exact mayB_of r t.1 h.2
theorem may_parts {c : T.Ct} (h : T.may c = true) : c.code.length <= 16384 /\ T.bankG (-1) c.banks = true := by
 simp only [T.may, T.codeB, Bool.and_eq_true, decide_eq_true_eq] at h
 exact ⟨h.1.1.2, h.2⟩
def born (c : T.Ct) : VS := ⟨c.code, ((c.entry : Int) + 2) % 65536, 1, 0, [], [], { M.m0 with banks := M.nbk c.banks }⟩
structure Fresh (n : Nat) (g bd br bm : Nat) (kv : Value) (F : Nat -> Prop) : Prop where
 g : n <= g
 d : n <= bd
 r : n <= br
 k : ∀ i, kv.ownBlock = some i -> n <= i
 f : ∀ i, F i -> n <= i
theorem new_no (v : Value) (c : T.Ct) (ep : Option Addr) (ec : Nat) (bp : Option Addr) (bc : Nat) (kv : Value) (w : World) (h : T.IsC w v c ep ec bp bc kv) (hm : T.may c = false) :
  Calls Tryz.prog 9 #[v] w fun e w' => e = .returned (.tuple #[.pointer none, .int .i64 74]) /\ Below w.heap.size w w' := by
 obtain ⟨kp, kc, rfl, _⟩ := h.code.ex
 have hv := h.val
 subst hv
 unfold T.cv
 have hb := P.bel_alloc w (.cells #[.slice kp c.code.length kc, .int .u16 (c.entry : Int), .slice ep c.effs.length ec, .slice bp c.banks.length bc] 27)
 have hC := h.below hb
 have kc' := T.check_any _ c ep ec bp bc _ _ hC
 rw [hm, if_neg (by simp)] at kc'
 unfold T.cv at kc'
 have HB := S.hid hb
 clear h hC hb
 go_enter Tryz.func9, Tryz.ntmps9
 go_wp2_with fail
 refine kc'.mono ?_
 rintro e w1 ⟨rfl, h1⟩
 have HB1 := S.hid (trB HB.out h1 HB.out.size)
 clear h1 kc'
 go_wp2
 go_ret2
 exact ⟨rfl, HB1.out⟩
theorem made3 (w : World) (pc : Int) :
  let W := ((w.alloc (.cells S.z60.toArray 117)).alloc (.cells S.z50.toArray 123)).alloc (.cells #[.int .u16 pc, .int .i64 1, .int .i64 0, .pointer (some ⟨w.heap.size, 0, none⟩), .pointer (some ⟨w.heap.size + 1, 0, none⟩)] 125)
  S.HasD W w.heap.size [] /\ S.HasR W (w.heap.size + 1) [] /\ W.heap[w.heap.size + 1 + 1]? = some (.cells #[.int .u16 pc, .int .i64 1, .int .i64 0, .pointer (some ⟨w.heap.size, 0, none⟩), .pointer (some ⟨w.heap.size + 1, 0, none⟩)] 125 (0, 0)) /\ Below w.heap.size w W /\ W.heap.size = w.heap.size + 3 := by
 intro W
 have b1 := P.bel_alloc w (.cells S.z60.toArray 117)
 have b2 := P.bel_alloc (w.alloc (.cells S.z60.toArray 117)) (.cells S.z50.toArray 123)
 have b3 := P.bel_alloc ((w.alloc (.cells S.z60.toArray 117)).alloc (.cells S.z50.toArray 123)) (.cells #[.int .u16 pc, .int .i64 1, .int .i64 0, .pointer (some ⟨w.heap.size, 0, none⟩), .pointer (some ⟨w.heap.size + 1, 0, none⟩)] 125)
 have h1 := S.hasD0 w
 have h2 := S.hasR0 (w.alloc (.cells S.z60.toArray 117))
 have h3 := heap_alloc_new ((w.alloc (.cells S.z60.toArray 117)).alloc (.cells S.z50.toArray 123)) (.cells #[.int .u16 pc, .int .i64 1, .int .i64 0, .pointer (some ⟨w.heap.size, 0, none⟩), .pointer (some ⟨w.heap.size + 1, 0, none⟩)] 125)
 have e1 : (w.alloc (.cells S.z60.toArray 117)).heap.size = w.heap.size + 1 := by simp
 have e2 : ((w.alloc (.cells S.z60.toArray 117)).alloc (.cells S.z50.toArray 123)).heap.size = w.heap.size + 1 + 1 := by simp
 rw [e1] at h2
 rw [e2] at h3
 refine ⟨(h1.below b2).below b3, h2.below b3, h3, trB (trB b1 b2 b1.size) b3 (by rw [e2]; omega), by simp [W]⟩
theorem born_mv (w w1 w2 W3 w4 : World) (bd br bm : Nat) (hbd : w2.heap.size = bd) (hbr : bd + 1 = br) (p1 : Option Addr) (c1 : Nat) (c : T.Ct) (pc : Int) (hbn : born c = ⟨c.code, pc, 1, 0, [], [], { M.m0 with banks := M.nbk c.banks }⟩) (hpc : C.C pc)
  (hM : M.HasM w2 (fun k => w1.heap.size <= k /\ k < bd) bm { M.m0 with banks := M.nbk c.banks }) (hD : S.HasD W3 bd []) (hR : S.HasR W3 br []) (hb3 : Below bd w2 W3) (hl3 : W3.heap.size = bd + 3) (hD4 : Below W3.heap.size W3 w4) (hr : M.Row w4 W3.heap.size (.slice p1 c.code.length c1) c.code) (hcl : c.code.length <= 16384) (h12 : w1.heap.size <= bd) (h01 : w.heap.size <= w1.heap.size) (hB2 : Below w.heap.size w w2) :
  MV (w4.alloc (.cells #[.int .u16 pc, .int .i64 1, .int .i64 0, .pointer (some ⟨bd, 0, none⟩), .pointer (some ⟨br, 0, none⟩), .slice p1 c.code.length c1, .pointer (some ⟨bm, 0, none⟩)] 128)) w4.heap.size bd br bm (.slice p1 c.code.length c1) (fun k => w1.heap.size <= k /\ k < bd) (born c) /\
  Fresh w.heap.size w4.heap.size bd br bm (.slice p1 c.code.length c1) (fun k => w1.heap.size <= k /\ k < bd) /\ Below w.heap.size w (w4.alloc (.cells #[.int .u16 pc, .int .i64 1, .int .i64 0, .pointer (some ⟨bd, 0, none⟩), .pointer (some ⟨br, 0, none⟩), .slice p1 c.code.length c1, .pointer (some ⟨bm, 0, none⟩)] 128)) := by
 subst hbd
 have b5 := P.bel_alloc w4 (.cells #[.int .u16 pc, .int .i64 1, .int .i64 0, .pointer (some ⟨w2.heap.size, 0, none⟩), .pointer (some ⟨br, 0, none⟩), .slice p1 c.code.length c1, .pointer (some ⟨bm, 0, none⟩)] 128)
 have z5 := heap_alloc_new w4 (.cells #[.int .u16 pc, .int .i64 1, .int .i64 0, .pointer (some ⟨w2.heap.size, 0, none⟩), .pointer (some ⟨br, 0, none⟩), .slice p1 c.code.length c1, .pointer (some ⟨bm, 0, none⟩)] 128)
 have s4 := hD4.size
 have b35 := trB hD4 b5 hD4.size
 have b25 : Below w2.heap.size w2 _ := trB (trB hb3 hD4 (by omega)) b5 (by omega)
 rw [hbn]
 refine ⟨⟨z5, ⟨hD.below b35, hR.below b35, hM.kept fun i hi _ => b25.block i hi, by omega, by rintro ⟨_, e⟩; omega, by rintro ⟨_, e⟩; omega⟩, (hr.below b5).sl, hcl, ?_, ?_, ?_, by omega, by omega, by rintro ⟨_, e⟩; omega, ⟨hpc.1, hpc.2, by simp, by simp⟩⟩, ⟨by omega, by omega, by omega, ?_, ?_⟩, trB hB2 b25 hB2.size⟩
 ·intro k e; have := own_lt hr k e; have := b5.size; omega
 ·intro k e; have := own_lt hr k e; exact ⟨by omega, by omega, by omega, by rintro ⟨_, e⟩; omega⟩
 ·rintro k ⟨_, e⟩; have := b5.size; omega
 ·intro k e; have := own_lt hr k e; omega
 ·rintro k ⟨e, _⟩; omega
theorem new_yes (v : Value) (c : T.Ct) (ep : Option Addr) (ec : Nat) (bp : Option Addr) (bc : Nat) (kv : Value) (w : World) (h : T.IsC w v c ep ec bp bc kv) (hm : T.may c = true) :
  Calls Tryz.prog 9 #[v] w fun e w' => ∃ g bd br bm ku F, e = .returned (.tuple #[.pointer (some ⟨g, 0, none⟩), .int .i64 0]) /\ MV w' g bd br bm ku F (born c) /\ Fresh w.heap.size g bd br bm ku F /\ Below w.heap.size w w' := by
 obtain ⟨kp, kc, rfl, _⟩ := h.code.ex
 have hv := h.val
 subst hv
 unfold T.cv
 obtain ⟨hcl, hbg⟩ := may_parts hm
 have hmb := mayB_of _ _ hbg
 have hbl := h.blen
 have hfit := h.fit.entry
 have e2 : IntKind.u16.wrap ((c.entry : Int) + 2) = ((c.entry : Int) + 2) % 65536 := M.u16_wrap _
 have hb := P.bel_alloc w (.cells #[.slice kp c.code.length kc, .int .u16 (c.entry : Int), .slice ep c.effs.length ec, .slice bp c.banks.length bc] 27)
 have hz := heap_alloc_new w (.cells #[.slice kp c.code.length kc, .int .u16 (c.entry : Int), .slice ep c.effs.length ec, .slice bp c.banks.length bc] 27)
 have hC := h.below hb
 have kc' := T.check_any _ c ep ec bp bc _ _ hC
 rw [hm, if_pos rfl] at kc'
 unfold T.cv at kc'
 have HB := S.hid hb
 have HC := S.hid hC
 have HZ := S.hid hz
 have HP := S.hid (And.intro hcl (And.intro hmb hbl))
 clear h hC hb hz hcl hbg hmb hbl hm
 go_enter Tryz.func9, Tryz.ntmps9
 go_wp2_with fail
 refine kc'.mono ?_
 rintro e w1 ⟨rfl, h1⟩
 have hz1 := (h1.block _ (S.lt_of HZ.out)).trans HZ.out
 have HC1 := S.hid (HC.out.below h1)
 have HB1 := S.hid (trB HB.out h1 HB.out.size)
 have HZ1 := S.hid hz1
 have a3 := S.cell_of w1 _ 3 [.slice kp c.code.length kc, .int .u16 (c.entry : Int), .slice ep c.effs.length ec, .slice bp c.banks.length bc] _ _ hz1 rfl
 have kn := M.new_yes bp bc c.banks (by have := HP.out.2.2; unfold M.room at *; omega) w1 HC1.out.banks HP.out.2.1
 clear h1 kc' hz1 HC HZ
 go_wp2_with fail
 refine kn.mono ?_
 rintro e w2 ⟨bm, rfl, hM2, h2⟩
 have hz2 := (h2.block _ (S.lt_of HZ1.out)).trans HZ1.out
 have HC2 := S.hid (HC1.out.below h2)
 have HB2 := S.hid (trB HB1.out h2 HB1.out.size)
 have HM2 := S.hid (M.HasM.mono (G := fun k => w1.heap.size <= k /\ k < w2.heap.size) hM2 fun i hi e => ⟨e, hi⟩)
 have HZ2 := S.hid hz2
 have a1 := S.cell_of w2 _ 1 [.slice kp c.code.length kc, .int .u16 (c.entry : Int), .slice ep c.effs.length ec, .slice bp c.banks.length bc] _ _ hz2 rfl
 have hs12 := h2.size
 have hs01 : w.heap.size <= w1.heap.size := HB1.out.size
 clear h2 kn hz2 HC1 HZ1 a3 hM2
 go_wp2_with (first | (refine S.wpList_build60 rfl rfl ?_) | (refine S.wpList_build50 rfl rfl ?_))
 obtain ⟨hD3, hR3, hN3, hb3, hl3⟩ := made3 w2 (((c.entry : Int) + 2) % 65536)
 generalize ((w2.alloc (.cells S.z60.toArray 117)).alloc (.cells S.z50.toArray 123)).alloc (.cells #[.int .u16 (((c.entry : Int) + 2) % 65536), .int .i64 1, .int .i64 0, .pointer (some ⟨w2.heap.size, 0, none⟩), .pointer (some ⟨w2.heap.size + 1, 0, none⟩)] 125) = W3 at *
 have hpc : C.C (((c.entry : Int) + 2) % 65536) := rng _
 have hbn : born c = ⟨c.code, ((c.entry : Int) + 2) % 65536, 1, 0, [], [], { M.m0 with banks := M.nbk c.banks }⟩ := rfl
 generalize ((c.entry : Int) + 2) % 65536 = pc at *
 generalize hbd : w2.heap.size = bd at *
 generalize hbr : bd + 1 = br at *
 generalize hNN : br + 1 = N at *
 have hC3 := HC2.out.below (W' := W3) (by rw [hbd]; exact hb3)
 have hz3 := (hb3.block _ (by rw [<- hbd]; exact S.lt_of HZ2.out)).trans HZ2.out
 have s0 : (fun w' => w'.cell? ⟨w.heap.size, 0, none⟩ = some (.slice kp c.code.length kc) /\ w'.cell? ⟨N, 0, none⟩ = some (.int .u16 pc) /\ w'.cell? ⟨N, 1, none⟩ = some (.int .i64 1) /\ w'.cell? ⟨N, 2, none⟩ = some (.int .i64 0) /\ w'.cell? ⟨N, 3, none⟩ = some (.pointer (some ⟨bd, 0, none⟩)) /\ w'.cell? ⟨N, 4, none⟩ = some (.pointer (some ⟨br, 0, none⟩))) W3.drew := ⟨S.cell_of W3 _ 0 [.slice kp c.code.length kc, .int .u16 (c.entry : Int), .slice ep c.effs.length ec, .slice bp c.banks.length bc] _ _ hz3 rfl, S.cell_of W3 _ 0 [.int .u16 pc, .int .i64 1, .int .i64 0, .pointer (some ⟨bd, 0, none⟩), .pointer (some ⟨br, 0, none⟩)] _ _ hN3 rfl, S.cell_of W3 _ 1 [.int .u16 pc, .int .i64 1, .int .i64 0, .pointer (some ⟨bd, 0, none⟩), .pointer (some ⟨br, 0, none⟩)] _ _ hN3 rfl, S.cell_of W3 _ 2 [.int .u16 pc, .int .i64 1, .int .i64 0, .pointer (some ⟨bd, 0, none⟩), .pointer (some ⟨br, 0, none⟩)] _ _ hN3 rfl, S.cell_of W3 _ 3 [.int .u16 pc, .int .i64 1, .int .i64 0, .pointer (some ⟨bd, 0, none⟩), .pointer (some ⟨br, 0, none⟩)] _ _ hN3 rfl, S.cell_of W3 _ 4 [.int .u16 pc, .int .i64 1, .int .i64 0, .pointer (some ⟨bd, 0, none⟩), .pointer (some ⟨br, 0, none⟩)] _ _ hN3 rfl⟩
 have k3 := M.clone_any (.slice kp c.code.length kc) c.code hC3.clen W3.drew (hC3.code.below ⟨rfl, rfl, rfl, Nat.le_refl _, fun _ _ => rfl⟩)
 have HS : ∀ W W' : World, Below W.heap.size W W' -> (fun w' => w'.cell? ⟨w.heap.size, 0, none⟩ = some (.slice kp c.code.length kc) /\ w'.cell? ⟨N, 0, none⟩ = some (.int .u16 pc) /\ w'.cell? ⟨N, 1, none⟩ = some (.int .i64 1) /\ w'.cell? ⟨N, 2, none⟩ = some (.int .i64 0) /\ w'.cell? ⟨N, 3, none⟩ = some (.pointer (some ⟨bd, 0, none⟩)) /\ w'.cell? ⟨N, 4, none⟩ = some (.pointer (some ⟨br, 0, none⟩))) W -> (fun w' => w'.cell? ⟨w.heap.size, 0, none⟩ = some (.slice kp c.code.length kc) /\ w'.cell? ⟨N, 0, none⟩ = some (.int .u16 pc) /\ w'.cell? ⟨N, 1, none⟩ = some (.int .i64 1) /\ w'.cell? ⟨N, 2, none⟩ = some (.int .i64 0) /\ w'.cell? ⟨N, 3, none⟩ = some (.pointer (some ⟨bd, 0, none⟩)) /\ w'.cell? ⟨N, 4, none⟩ = some (.pointer (some ⟨br, 0, none⟩))) W' := fun W W' b ⟨x0, x1, x2, x3, x4, x5⟩ => ⟨T.below_cell b _ _ x0, T.below_cell b _ _ x1, T.below_cell b _ _ x2, T.below_cell b _ _ x3, T.below_cell b _ _ x4, T.below_cell b _ _ x5⟩
 have HS := S.hid HS
 have H3 := S.hid (And.intro hD3 (And.intro hR3 (And.intro hb3 hl3)))
 have HN := S.hid (And.intro hs12 (And.intro hs01 (And.intro hpc hbn)))
 clear hD3 hR3 hN3 hb3 hl3 hC3 hz3 a1 hs12 hs01 HC2 HZ2 hpc hbn e2
 refine wp_region_held_drew (S := (fun w' => w'.cell? ⟨w.heap.size, 0, none⟩ = some (.slice kp c.code.length kc) /\ w'.cell? ⟨N, 0, none⟩ = some (.int .u16 pc) /\ w'.cell? ⟨N, 1, none⟩ = some (.int .i64 1) /\ w'.cell? ⟨N, 2, none⟩ = some (.int .i64 0) /\ w'.cell? ⟨N, 3, none⟩ = some (.pointer (some ⟨bd, 0, none⟩)) /\ w'.cell? ⟨N, 4, none⟩ = some (.pointer (some ⟨br, 0, none⟩)))) (by kernel_rfl) s0 (fun hHeld => ?_)
 refine V.wtk0 (is := [0, 1, 2, 4]) ?_
 iterate 4
  refine V.wt (v := ?_) rfl (by kernel_rfl) (fun c a w h => h) (by rfl) ?_ hHeld ?_
  rotate_left
  ·(intro w hSw; (try dsimp only at hSw); go_simp; try with_reducible rfl)
  simp only [Act.put, List.setIfInBounds_toArray, List.set_cons_zero, List.set_cons_succ]
 refine V.wtkE ?_
 refine V.wrd 3 (by kernel_rfl) rfl fun K hK => ?_
 go_simp
 refine k3.mono ?_
 rintro e w4 ⟨u1, rfl, r1, d1⟩
 obtain ⟨p1, c1, rfl⟩ := own_form r1
 have s1 := HS.out _ _ d1 s0
 have s2 := HS.out _ _ (P.bel_alloc w4 (.cells #[.int .u16 pc, .int .i64 1, .int .i64 0, .pointer (some ⟨bd, 0, none⟩), .pointer (some ⟨br, 0, none⟩), .slice p1 c.code.length c1, .pointer (some ⟨bm, 0, none⟩)] 128)) s1
 have HD := S.hid (show Below W3.drew.heap.size W3.drew w4 from d1)
 have HR1 := S.hid (show M.Row w4 W3.drew.heap.size (.slice p1 c.code.length c1) c.code from r1)
 clear k3 r1 d1
 refine hK.out _ _ s1 (fun hHeld => ?_)
 clear hK K
 try simp only [Act.put, List.setIfInBounds_toArray, List.set_cons_zero, List.set_cons_succ]
 refine V.wrd 5 (by kernel_rfl) rfl fun K hK => ?_
 go_simp
 refine hK.out _ _ s1 (fun hHeld => ?_)
 clear hK K
 refine V.wrd 6 (by kernel_rfl) rfl fun K hK => ?_
 go_simp
 refine hK.out _ _ s2 (fun hHeld => ?_)
 clear hK K
 refine V.wrd 7 (by kernel_rfl) rfl fun K hK => ?_
 go_simp
 refine hK.out _ _ s2 (fun hHeld => ?_)
 clear hK K
 refine V.wrd 8 (by kernel_rfl) rfl fun K hK => ?_
 go_simp
 refine hK.out _ _ s2 (fun hHeld => ?_)
 clear hK K
 refine wpAnyH_done (by kernel_rfl) ?_ _
 try simp only [Act.put, List.setIfInBounds_toArray, List.set_cons_zero, List.set_cons_succ]
 clear hHeld s0 s1 s2 HS
 have hfin := born_mv w w1 w2 W3 w4 bd br bm hbd hbr p1 c1 c pc HN.out.2.2.2 HN.out.2.2.1 HM2.out H3.out.1 H3.out.2.1 H3.out.2.2.1 H3.out.2.2.2 ⟨HD.out.os, HD.out.tape, HD.out.output, HD.out.size, HD.out.block⟩ HR1.out HP.out.1 HN.out.1 HN.out.2.1 HB2.out
 have HF := S.hid hfin
 clear hfin
 go_wp2
 go_ret2
 first
  | exact ⟨w4.heap.size, bd, br, bm, .slice p1 c.code.length c1, fun k => w1.heap.size <= k /\ k < bd, rfl, HF.out⟩
  | exact ⟨w4.heap.size, rfl, bd, br, bm, .slice p1 c.code.length c1, fun k => w1.heap.size <= k /\ k < bd, HF.out⟩
set_option maxHeartbeats 2000000
set_option maxRecDepth 100000
def pre (k : Nat) : List UInt8 := (List.range k).flatMap fun j => [UInt8.ofNat j, 0]
def cb2 (x : Int) : List UInt8 := [M.b8 x, M.b8 (x / 256)]
def tcode (l : List Int) : List UInt8 := pre 64 ++ [1, 0] ++ l.flatMap cb2
theorem pre_succ (k : Nat) : pre (k + 1) = pre k ++ [UInt8.ofNat k, 0] := by unfold pre; rw [List.range_succ, List.flatMap_append]; rfl
theorem pre_len (k : Nat) : (pre k).length = 2 * k := by
 induction k with
 | zero => rfl
 | succ k ih => rw [pre_succ, List.length_append, ih]; simp; omega
theorem cb_len (l : List Int) : (l.flatMap cb2).length = 2 * l.length := by
 induction l with
 | nil => rfl
 | cons a l ih => rw [List.flatMap_cons, List.length_append, ih]; simp [cb2]; omega
def zC : Array Value := #[.slice none 0 0, .int .u16 0, .slice none 0 0, .slice none 0 0]
theorem size27 : (Tryz.prog.info? 27).map (·.size) = some 4 := by kernel_rfl
theorem sl2 (W : World) (B : Nat) (hB : B <= W.heap.size) (a b : UInt8) : M.Sl (W.alloc (.cells #[.int .u8 (a.toNat : Int), .int .u8 (b.toNat : Int)] 5)) (.slice (some ⟨W.heap.size, 0, none⟩) 2 2) [a, b] :=
 (M.row_of_alloc W B hB [a, b] (by simp [maxLen])).sl
theorem ofNat_toNat (k : Nat) (h : k < 256) : (UInt8.ofNat k).toNat = k := by simp; omega
theorem b8_nat (z : Int) : ((M.b8 z).toNat : Int) = z % 256 := by
 unfold M.b8
 rw [ofNat_toNat _ (by omega)]; omega
theorem room_big : (20000 : Nat) <= M.room := by unfold M.room; omega
theorem room_ok (l : List Int) (k : Nat) (x : Int) (hl : l.length <= 1000) : (pre 64 ++ [1, 0] ++ (l.take k).flatMap cb2).length + (cb2 x).length <= M.room := by
 have e1 : (cb2 x).length = 2 := rfl
 have e2 : ([1, 0] : List UInt8).length = 2 := rfl
 have e3 : (l.take k).length <= 1000 := Nat.le_trans (List.length_take_le' k l) hl
 have e4 := room_big
 rw [List.length_append, List.length_append, pre_len, cb_len, e1, e2]
 generalize (l.take k).length = a at *
 generalize M.room = r at *
 omega
theorem tcode_len (l : List Int) : (tcode l).length = 130 + 2 * l.length := by
 unfold tcode; rw [List.length_append, List.length_append, pre_len, cb_len]; rfl
theorem threads_any (p : Option Addr) (cap : Nat) (l : List Int) (hl : l.length <= 1000) (hC : ∀ x ∈ l, C.C x) (w : World) (h : S.Sl S.eU 1 w p l) :
  Calls Tryz.prog 32 #[.slice p l.length cap] w fun e w' => ∃ kv, e = .returned (T.cv kv 128 none 0 0 none 0 0) /\ T.IsC w' (T.cv kv 128 none 0 0 none 0 0) ⟨tcode l, 128, [], []⟩ none 0 none 0 kv /\ (∀ k, kv.ownBlock = some k -> w.heap.size <= k) /\ Below w.heap.size w w' := by
 have hz := heap_alloc_new w (.cells #[.slice none 0 0, .int .u16 0, .slice none 0 0, .slice none 0 0] 27)
 have hb := P.bel_alloc w (.cells #[.slice none 0 0, .int .u16 0, .slice none 0 0, .slice none 0 0] 27)
 generalize hW : w.alloc (.cells #[.slice none 0 0, .int .u16 0, .slice none 0 0, .slice none 0 0] 27) = W at *
 have hs : w.heap.size < W.heap.size := S.lt_of hz
 have HB := S.hid hb
 have HZ := S.hid hz
 have H := S.hid h
 have HL := S.hid (And.intro hl hC)
 have hl0 : l.length <= 1000 := hl
 clear h hb hz hl hC
 go_enter Tryz.func32, Tryz.ntmps32
 go_wp2
 go_loopw [3, 4] (fun b i wr => ∃ k : Nat, k <= 64 /\ i = .int .i64 (k : Int) /\ M.Row wr W.heap.size b (pre k) /\ Below W.heap.size W wr) (fun _ i _ => 64 - (intOf i).toNat)
 case atStart => exact ⟨0, by omega, rfl, M.row_nil _ _, Below.refl _ _⟩
 case round =>
  obtain ⟨k, hk, rfl, hR, hBr⟩ := hrel
  by_cases hlt : k < 64
  ·have i1 : (k : Int) < 64 := by omega
   have u1 : IntKind.u8.wrap (k : Int) = (k : Int) := by rw [M.u8_wrap]; omega
   have w1 : wrap64 ((k : Int) + 1) = ((k + 1 : Nat) : Int) := by simp [wrap64]; omega
   have b1 := P.bel_alloc wr (.cells #[.int .u8 (k : Int), .int .u8 0] 5)
   have s1 : M.Sl (wr.alloc (.cells #[.int .u8 (k : Int), .int .u8 0] 5)) (.slice (some ⟨wr.heap.size, 0, none⟩) 2 2) [UInt8.ofNat k, 0] := by
    have := sl2 wr W.heap.size hBr.size (UInt8.ofNat k) 0; rw [ofNat_toNat k (by omega)] at this; exact this
   have r1 := hR.below b1; have B1 := trB hBr b1 hBr.size; obtain ⟨vp, vc, rfl⟩ := own_form hR; have HR := S.hid r1; have HB1 := S.hid B1; clear hR hBr b1; go_wp2_with (first | (at_builtin; refine M.wpList_append_bytes _ rfl _ _ rfl W.heap.size _ (pre k) rfl r1 _ [UInt8.ofNat k, 0] rfl s1 (by rw [pre_len]; unfold M.room; simp; omega) B1.size ?_))
   intro v' w2 hr2 hg2; have hB2 : Below W.heap.size W w2 := HB1.out.trans (hg2.below (fun i e => (own_lt HR.out i e).1) HB1.out.size); rw [<- pre_succ] at hr2; have HE := S.hid (And.intro hr2 hB2); clear hr2 hg2 hB2 r1 s1 B1 HR HB1; go_wp2; go_roundw
   case rel => exact ⟨k + 1, by omega, by go_num, HE.out.1, HE.out.2⟩
   case measure => simp [intOf]; omega
  ·obtain rfl : k = 64 := by omega
   have b1 := P.bel_alloc wr (.cells #[.int .u8 1, .int .u8 0] 5); have s1 : M.Sl (wr.alloc (.cells #[.int .u8 1, .int .u8 0] 5)) (.slice (some ⟨wr.heap.size, 0, none⟩) 2 2) [1, 0] := sl2 wr W.heap.size hBr.size 1 0; have r1 := hR.below b1; have B1 := trB hBr b1 hBr.size; obtain ⟨vp, vc, rfl⟩ := own_form hR; have HR := S.hid r1; have HB1 := S.hid B1; clear hR hBr b1; go_wp2_with (first | (at_builtin; refine M.wpList_append_bytes _ rfl _ _ rfl W.heap.size _ (pre 64) rfl r1 _ [1, 0] rfl s1 (by rw [pre_len]; unfold M.room; simp) B1.size ?_))
   intro v' w2 hr2 hg2; have hB2 : Below W.heap.size W w2 := HB1.out.trans (hg2.below (fun i e => (own_lt HR.out i e).1) HB1.out.size); have HE := S.hid (And.intro hr2 hB2); clear hr2 hg2 hB2 r1 s1 B1 HR HB1; go_wp2
   go_loopw [3, 21] (fun b i wr => ∃ k : Nat, k <= l.length /\ i = .int .i64 (k : Int) /\ M.Row wr W.heap.size b (pre 64 ++ [1, 0] ++ (l.take k).flatMap cb2) /\ Below W.heap.size W wr) (fun _ i _ => l.length - (intOf i).toNat)
   case atStart => exact ⟨0, by omega, rfl, by simpa using HE.out.1, HE.out.2⟩
   case round =>
    clear HE; obtain ⟨k, hk, rfl, hR, hBr⟩ := hrel
    by_cases hlt : k < l.length
    ·have i1 : (k : Int) < l.length := by omega
     have hBw := trB HB.out hBr (Nat.le_of_lt hs); obtain ⟨b, o, rfl, e1⟩ := (H.out.below hBw).u k l[k] (List.getElem?_eq_getElem hlt); obtain ⟨x0, x1⟩ := HL.out.2 l[k] (List.getElem_mem hlt); have ht : (l.take (k + 1)).flatMap cb2 = (l.take k).flatMap cb2 ++ cb2 l[k] := by rw [List.take_add_one, List.getElem?_eq_getElem hlt, List.flatMap_append]; simp
     generalize l[k] = x at *
     have d1 : x.tdiv 256 = x / 256 := Int.tdiv_eq_ediv_of_nonneg x0; have d2 : IntKind.u16.wrap (x / 256) = x / 256 := by rw [M.u16_wrap]; omega
     have u1 : IntKind.u8.wrap x = ((M.b8 x).toNat : Int) := by rw [M.u8_wrap, b8_nat]
     have u2 : IntKind.u8.wrap (x / 256) = ((M.b8 (x / 256)).toNat : Int) := by rw [M.u8_wrap, b8_nat]
     have w1 : wrap64 ((k : Int) + 1) = ((k + 1 : Nat) : Int) := by simp [wrap64]; omega
     have b1 := P.bel_alloc wr (.cells #[.int .u8 ((M.b8 x).toNat : Int), .int .u8 ((M.b8 (x / 256)).toNat : Int)] 5); have s1 : M.Sl (wr.alloc (.cells #[.int .u8 ((M.b8 x).toNat : Int), .int .u8 ((M.b8 (x / 256)).toNat : Int)] 5)) (.slice (some ⟨wr.heap.size, 0, none⟩) 2 2) (cb2 x) := sl2 wr W.heap.size hBr.size (M.b8 x) (M.b8 (x / 256)); have r1 := hR.below b1; have B1 := trB hBr b1 hBr.size; obtain ⟨vp, vc, rfl⟩ := own_form hR; have HR := S.hid r1; have HB1 := S.hid B1; have hz1 := room_ok l k x hl0; have hLL : (pre 64 ++ [1, 0] ++ (l.take k).flatMap cb2) ++ cb2 x = pre 64 ++ [1, 0] ++ (l.take (k + 1)).flatMap cb2 := by rw [ht, List.append_assoc (pre 64 ++ [1, 0])]
     have HT := S.hid hLL; generalize pre 64 ++ [1, 0] ++ (l.take k).flatMap cb2 = L at *
     clear hR hBr b1 x0 x1 hBw ht H hLL; generalize (M.b8 x).toNat = y0 at *
     generalize (M.b8 (x / 256)).toNat = y1 at *
     go_wp2_with (first | (at_builtin; refine M.wpList_append_bytes _ rfl _ _ rfl W.heap.size _ _ rfl r1 _ (cb2 x) rfl s1 hz1 B1.size ?_))
     intro v' w2 hr2 hg2; have hB2 : Below W.heap.size W w2 := HB1.out.trans (hg2.below (fun i e => (own_lt HR.out i e).1) HB1.out.size); rw [HT.out] at hr2; have HE := S.hid (And.intro hr2 hB2); clear hr2 hg2 hB2 r1 s1 B1 HR HB1 HT hz1; go_wp2; go_roundw
     case rel => exact ⟨k + 1, by omega, by go_num, HE.out.1, HE.out.2⟩
     case measure => simp [intOf]; omega
    ·obtain rfl : k = l.length := by omega
     rw [List.take_length] at hR; have hR : M.Row wr W.heap.size _ (tcode l) := hR; have hz2 := (hBr.block _ hs).trans HZ.out; obtain ⟨vp, vc, hv⟩ := own_form hR; subst hv; have hfin := setRow_heap wr w.heap.size _ #[.slice vp (tcode l).length vc, .int .u16 128, .slice none 0 0, .slice none 0 0] _ _ hz2; have hbf := P.Below.setRow (trB HB.out hBr (Nat.le_of_lt hs)) w.heap.size (Nat.le_refl _) #[.slice vp (tcode l).length vc, .int .u16 128, .slice none 0 0, .slice none 0 0]; have hrf : M.Row (wr.setRow w.heap.size #[.slice vp (tcode l).length vc, .int .u16 128, .slice none 0 0, .slice none 0 0]) W.heap.size (.slice vp (tcode l).length vc) (tcode l) := S.own_kept hR fun i e _ => setRow_other wr w.heap.size i _ (by have := own_lt hR i e; omega)
     have hlen : (tcode l).length <= 16384 := by rw [tcode_len]; clear H HB HZ HL hBr hR hz2 hfin hbf hrf; omega
     have HF := S.hid (And.intro hfin (And.intro hbf (And.intro hrf hlen))); have hZ : wr.heap[w.heap.size]? = some (.cells zC 27 (0, 0)) := hz2; clear hfin hbf hrf hR hBr hz2 H hlen; generalize hTT : tcode l = tl at *
     go_wp2_with (refine wpList_store_row rfl 27 _ _ rfl w.heap.size _ rfl rfl 27 zC hZ (by exact size27) (by rfl) (by simp [Value.oneCell']) ?_)
     refine bodyPost_ret (results_cell_row rfl _ _ w.heap.size 27 _ (0, 0) _ rfl HF.out.1 Tryz.underlying27 rfl size27) rfl ⟨.slice vp tl.length vc, rfl, ?_, fun i e => by have := own_lt HF.out.2.2.1 i e; omega, HF.out.2.1⟩; subst hTT; exact ⟨rfl, HF.out.2.2.1.sl, Nat.le_trans HF.out.2.2.2 (Nat.le_trans (by decide) room_big), fun i t ht => by simp at ht, by simp, fun i t ht => by simp at ht, by simp, ⟨by simp, by simp⟩, by simp, by simp⟩
set_option maxHeartbeats 2000000
set_option maxRecDepth 100000
def aw : T.Ct := ⟨tcode [6, 7, 6, 0, 48, 16], 128, [], []⟩
theorem aw_may : T.may aw = true := by
 have e : T.codeB (tcode [6, 7, 6, 0, 48, 16]) = true := by unfold T.codeB; rw [tcode_len]; rfl
 unfold T.may aw; rw [e]; rfl
theorem aw_st : (frame (born aw) 0 100).v.st = 2 := by kernel_rfl
theorem aw_steps : (frame (born aw) 0 100).steps = 4 := by kernel_rfl
theorem aw_spent : (frame (born aw) 0 100).spent = 10 := by kernel_rfl
theorem aw_D : (frame (born aw) 0 100).v.D = [0] := by kernel_rfl
theorem mkRow (w : World) (z c : Array Value) (t : TypeId) : (w.alloc (.cells z t)).heap[w.heap.size]? = some (.cells z t (0, 0)) /\ ((w.alloc (.cells z t)).setRow w.heap.size c).heap[w.heap.size]? = some (.cells c t (0, 0)) /\ Below w.heap.size w ((w.alloc (.cells z t)).setRow w.heap.size c) :=
 ⟨heap_alloc_new w _, setRow_heap _ _ _ _ _ _ (heap_alloc_new w _), P.Below.setRow (P.bel_alloc w _) w.heap.size (Nat.le_refl _) c⟩
theorem tcB {W W' : World} {n g bd br bm : Nat} {kv : Value} {F : Nat -> Prop} {v : VS} (h : VD W W' g bd br bm kv F v) (f : Fresh n g bd br bm kv F) (hn : n <= W.heap.size) : Below n W W' :=
 ⟨h.t.os, h.t.tape, h.t.output, h.t.size, fun k hk => h.t.block k (by omega) (by
  rintro (e | e | e | e)
  ·have := f.g; omega
  ·have := f.d; omega
  ·have := f.r; omega
  ·have := f.f k e; omega)⟩
theorem awake_any (w : World) : Calls Tryz.prog 11 #[] w fun e w' => e = .returned (.bool true) /\ Below w.heap.size w w' := by
 have hb := P.bel_alloc w (.cells #[.int .u16 6, .int .u16 7, .int .u16 6, .int .u16 0, .int .u16 48, .int .u16 16] 23)
 have hs : S.Sl S.eU 1 (w.alloc (.cells #[.int .u16 6, .int .u16 7, .int .u16 6, .int .u16 0, .int .u16 48, .int .u16 16] 23)) (some ⟨w.heap.size, 0, none⟩) [6, 7, 6, 0, 48, 16] :=
  P.sl_block S.hU _ _ _ [6, 7, 6, 0, 48, 16] (heap_alloc_new w (.cells #[.int .u16 6, .int .u16 7, .int .u16 6, .int .u16 0, .int .u16 48, .int .u16 16] 23))
 have k1 := threads_any (some ⟨w.heap.size, 0, none⟩) 6 [6, 7, 6, 0, 48, 16] (by decide) (by unfold C.C; decide) _ hs
 simp only [List.length_cons, List.length_nil, Nat.reduceAdd] at k1
 have HB := S.hid hb
 clear hb hs
 go_enter Tryz.func11, Tryz.ntmps11
 go_wp2_with fail
 refine k1.mono ?_
 rintro e w1 ⟨kv, rfl, hC, _, h1⟩
 have HB1 := S.hid (trB HB.out h1 HB.out.size)
 have k2 := new_yes _ aw none 0 none 0 kv w1 hC aw_may
 clear k1 h1 HB
 go_wp2_with fail
 refine k2.mono ?_
 rintro e w2 ⟨g, bd, br, bm, ku, F, rfl, hM, hF, h2⟩
 have HB2 := S.hid (trB HB1.out h2 HB1.out.size)
 have h01 : w.heap.size <= w1.heap.size := HB1.out.size
 have h12 : w1.heap.size <= w2.heap.size := h2.size
 have k3 := frame_any 0 100 (by decide) (by decide) g bd br bm ku F (born aw) w2 hM
 have e0 : ((0 : UInt8).toNat : Int) = 0 := rfl
 rw [e0] at k3
 have d1 := aw_st
 have d2 := aw_steps
 have d3 := aw_spent
 have d4 := aw_D
 have HM := S.hid hM
 have HF := S.hid hF
 generalize frame (born aw) 0 100 = r at *
 obtain ⟨u, n, sp⟩ := r
 simp only at k3 d1 d2 d3 d4
 subst d2 d3
 unfold OutV at k3
 simp only [d1] at k3
 clear k2 h2 HB1 hM hF hC e0
 go_wp2_with fail
 refine k3.mono ?_
 rintro e w3 ⟨p1, c1, p2, c2, rfl, _, _, hV⟩
 obtain ⟨z3, r3, b3⟩ := mkRow w3 #[.int .i64 0, .int .i64 0, .int .i64 0, .int .i64 0, .int .i64 0, .slice none 0 0, .slice none 0 0] #[.int .i64 2, .int .i64 u.fa, .int .i64 4, .int .i64 10, .int .i64 (100 - 10), .slice p1 u.m.scr.length c1, .slice p2 u.m.tones.length c2] 39
 have HB2' := S.hid (HB2.out.trans ((tcB hV HF.out h12).mono h01))
 have HB3 := S.hid (trB HB2'.out b3 HB2'.out.size)
 have hM3 := hV.s.below b3
 have k4 := state_any g bd br bm ku _ u _ hM3
 have a0 := S.cell_of _ _ 0 [.int .i64 2, .int .i64 u.fa, .int .i64 4, .int .i64 10, .int .i64 (100 - 10), .slice p1 u.m.scr.length c1, .slice p2 u.m.tones.length c2] _ _ r3 rfl
 have a2 := S.cell_of _ _ 2 [.int .i64 2, .int .i64 u.fa, .int .i64 4, .int .i64 10, .int .i64 (100 - 10), .slice p1 u.m.scr.length c1, .slice p2 u.m.tones.length c2] _ _ r3 rfl
 have a3 := S.cell_of _ _ 3 [.int .i64 2, .int .i64 u.fa, .int .i64 4, .int .i64 10, .int .i64 (100 - 10), .slice p1 u.m.scr.length c1, .slice p2 u.m.tones.length c2] _ _ r3 rfl
 have a4 := S.cell_of _ _ 4 [.int .i64 2, .int .i64 u.fa, .int .i64 4, .int .i64 10, .int .i64 (100 - 10), .slice p1 u.m.scr.length c1, .slice p2 u.m.tones.length c2] _ _ r3 rfl
 unfold StV at k4
 simp only [d1, d4, List.length_cons, List.length_nil, Nat.reduceAdd] at k4
 clear k3 hV b3 hM3
 go_wp2_with (refine wpList_store_row rfl 39 _ _ rfl w3.heap.size _ rfl rfl 39 #[.int .i64 0, .int .i64 0, .int .i64 0, .int .i64 0, .int .i64 0, .slice none 0 0, .slice none 0 0] z3 (by exact size39) (by rfl) (by simp [Value.oneCell']) ?_)
 refine k4.mono ?_
 rintro e w4 ⟨q1, d1, q2, d2, rfl, hu, hk, b4⟩
 have f0 := T.below_cell b4 _ _ a0
 have f2 := T.below_cell b4 _ _ a2
 have f3 := T.below_cell b4 _ _ a3
 have f4 := T.below_cell b4 _ _ a4
 obtain ⟨z5, r5, b5⟩ := mkRow w4 #[.int .u16 0, .int .i64 0, .int .i64 0, .slice none 0 0, .slice none 0 0] #[.int .u16 u.pc, .int .i64 2, .int .i64 u.fa, .slice q1 1 d1, .slice q2 u.R.length d2] 46
 have HB4 := S.hid (trB (trB HB3.out b4 HB3.out.size) b5 (Nat.le_trans HB3.out.size b4.size))
 have g0 := T.below_cell b5 _ _ f0
 have g2 := T.below_cell b5 _ _ f2
 have g3 := T.below_cell b5 _ _ f3
 have g4 := T.below_cell b5 _ _ f4
 have h3 := S.cell_of _ _ 3 [.int .u16 u.pc, .int .i64 2, .int .i64 u.fa, .slice q1 1 d1, .slice q2 u.R.length d2] _ _ r5 rfl
 obtain ⟨q', c', e', _, hsl⟩ := (S.RowU.ls hu).ex
 cases e'
 obtain ⟨q, o, rfl, hc⟩ := (hsl.below b5).u 0 0 rfl
 simp only [Nat.add_zero] at hc
 clear k4 b4 b5 hu hk r3 r5 a0 a2 a3 a4 f0 f2 f3 f4 z3 hsl
 go_wp2_with (refine wpList_store_row rfl 46 _ _ rfl w4.heap.size _ rfl rfl 46 #[.int .u16 0, .int .i64 0, .int .i64 0, .slice none 0 0, .slice none 0 0] z5 (by exact size46) (by rfl) (by simp [Value.oneCell']) ?_)
 go_ret
 exact ⟨rfl, HB4.out⟩
set_option maxHeartbeats 2000000
set_option maxRecDepth 100000
theorem own_any (v : Value) (l : List UInt8) (hl : l.length <= M.room) (w : World) (h : M.Sl w v l) :
  Calls Tryz.prog 42 #[v] w fun e w' => ∃ p c, e = .returned (.slice p l.length c) /\ M.Row w' w.heap.size (.slice p l.length c) l /\ Below w.heap.size w w' := by
 obtain ⟨p, c, rfl, _⟩ := h.ex
 have b1 := P.bel_alloc w (.cells #[] 5)
 have r0 : M.Row (w.alloc (.cells #[] 5)) w.heap.size (.slice (some ⟨w.heap.size, 0, none⟩) 0 0) [] := M.row_of_alloc w w.heap.size (Nat.le_refl _) [] (by simp)
 have s0 := h.below b1
 have HB := S.hid b1
 have HR := S.hid r0
 have B1 := b1.size
 have hl' : ([] : List UInt8).length + l.length <= M.room := by simpa using hl
 clear h b1 hl
 go_enter Tryz.func42, Tryz.ntmps42
 go_wp2_with (first | (at_builtin; refine M.wpList_append_bytes _ rfl _ _ rfl w.heap.size _ [] rfl r0 _ l rfl s0 hl' B1 ?_))
 intro v' w2 hr2 hg2
 have hB2 : Below w.heap.size w w2 := HB.out.trans (hg2.below (fun i e => (own_lt HR.out i e).1) HB.out.size)
 try rw [List.nil_append] at hr2
 obtain ⟨p2, c2, rfl⟩ := own_form hr2
 have HE := S.hid (And.intro hr2 hB2)
 clear hr2 hg2 hB2 r0 s0
 go_wp2
 go_ret
 exact ⟨p2, c2, rfl, HE.out⟩
theorem step_append_row {ops : Array Oper} {o : Oper} {a : Act} {w : World} {K : Act -> World -> Prop} {Q : Exit -> Act -> World -> Prop} {E : Prop} (hgd : o.guard = none) (s x : Operand) (t e : TypeId) (z : Value) (size bytes : Nat)
  (ht : Tryz.prog.underlying t = some (.slice e)) (hinf : (Tryz.prog.info? e).map (fun i => (i.zero, i.size, i.bytes)) = some (some z, size, bytes)) (hzs : z.cells.size = size) (hsz : 0 < size)
  (ho : o.op = .call { callee := .builtin .append, args := #[s, x], argTypes := #[t, t] }) (B : Nat) (v : Value) (n : Nat) (xs : List Value) (hs : a.eval s = v) (hown : w.ownsRow B e size v n xs)
  (u : Value) (m : Nat) (news : List Value) (hx : a.eval x = u) (hp : M.Cs w u size m news) (hb : (n + m) * bytes <= M.room) (hb2 : n + m <= maxLen) (hB : B <= w.heap.size)
  (h : ∀ v' w', w'.ownsRow B e size v' (n + m) (xs ++ news) -> M.Grew w w' v v' -> K (a.put o.dst v') w') :
  if Region.wanted o (yielded ops a.tmps) = true then Oper.wp Tryz.prog o a w K Q else E := by
 have hw : Region.wanted o (yielded ops a.tmps) = true := by simp [Region.wanted, hgd]
 rw [if_pos hw]
 exact M.wp_append_row w s x t e z size bytes ht hinf hzs hsz ho B v n xs hs hown u m news hx hp hb hb2 hB h
theorem own_empty (W : World) (B : Nat) (hB : B <= W.heap.size) (e : TypeId) (size : Nat) : (W.alloc (.cells #[] e)).ownsRow B e size (.slice (some ⟨W.heap.size, 0, none⟩) 0 0) 0 [] :=
 ⟨by simp, .inr ⟨W.heap.size, 0, #[], rfl, hB, heap_alloc_new W _, Nat.le_refl _, by simp, by simp, by simp⟩⟩
theorem own_ne {w : World} {B B' : Nat} {e e' : TypeId} {s s' : Nat} {v v' : Value} {n n' : Nat} {xs xs' : List Value} (h : w.ownsRow B e s v n xs) (h' : w.ownsRow B' e' s' v' n' xs') (hne : e ≠ e') (g : Nat) (hg : v.ownBlock = some g) : some g ≠ v'.ownBlock := by
 intro c
 rcases h.2 with ⟨rfl, _⟩ | ⟨a, cap, cur, rfl, _, h3, _⟩
 ·simp [Value.ownBlock] at hg
 rcases h'.2 with ⟨rfl, _⟩ | ⟨a', cap', cur', rfl, _, h3', _⟩
 ·simp [Value.ownBlock] at c
 simp [Value.ownBlock] at hg c
 subst hg
 subst c
 rw [h3] at h3'
 simp at h3'
 exact hne h3'.2
theorem own_grew {w w2 : World} {B B' : Nat} {e e' : TypeId} {s s' : Nat} {v v' v2 : Value} {n n' : Nat} {xs xs' : List Value} (h : w.ownsRow B e s v n xs) (h' : w.ownsRow B' e' s' v' n' xs') (hne : e ≠ e') (hg : M.Grew w w2 v' v2) : w2.ownsRow B e s v n xs :=
 S.own_kept h fun g eg hlt => hg.block g hlt (own_ne h h' hne g eg)
structure OI (w : World) (B : Nat) (c : T.Ct) (kv' ev' : Value) (bp : Option Addr) (bc : Nat) (wr : World) (b : Value) (prs : List (T.Bk × Value)) (k : Nat) : Prop where
 map : prs.map Prod.fst = c.banks.take k
 row : wr.ownsRow B 81 2 b prs.length (T.bcs prs)
 dat : ∀ x ∈ prs, M.Row wr B x.2 x.1.2
 code : M.Row wr B kv' c.code
 effs : wr.ownsRow B 190 3 ev' c.effs.length (T.t3 (c.effs.map T.encE))
 c0 : wr.heap[w.heap.size]? = some (.cells #[kv', .int .u16 (c.entry : Int), ev', .slice bp c.banks.length bc] 27 (0, 0))
 r0 : wr.heap[w.heap.size + 1]? = some (.cells zC 27 (0, 0))
 bel : Below w.heap.size w wr
 sz : B <= wr.heap.size
theorem OI.below {w : World} {B : Nat} {c : T.Ct} {kv' ev' : Value} {bp : Option Addr} {bc : Nat} {wr w2 : World} {b : Value} {prs : List (T.Bk × Value)} {k : Nat} (h : OI w B c kv' ev' bp bc wr b prs k) (hb : Below wr.heap.size wr w2) : OI w B c kv' ev' bp bc w2 b prs k :=
 ⟨h.map, S.own_kept h.row fun g _ hg => hb.block g hg, fun x hx => (h.dat x hx).below hb, h.code.below hb, S.own_kept h.effs fun g _ hg => hb.block g hg, (hb.block _ (S.lt_of h.c0)).trans h.c0, (hb.block _ (S.lt_of h.r0)).trans h.r0, trB h.bel hb h.bel.size, Nat.le_trans h.sz hb.size⟩
theorem ne5B : (5 : TypeId) ≠ 81 := by decide
theorem neEB : (190 : TypeId) ≠ 81 := by decide
theorem OI.add {w : World} {B : Nat} {c : T.Ct} {kv' ev' : Value} {bp : Option Addr} {bc : Nat} {wr w2 : World} {b b2 : Value} {prs : List (T.Bk × Value)} {k : Nat} (h : OI w B c kv' ev' bp bc wr b prs k) (hB : w.heap.size + 2 <= B) (hk : k < c.banks.length) (dv : Value) (hd : M.Row wr B dv (c.banks[k]).2)
  (hr : w2.ownsRow B 81 2 b2 (prs.length + 1) (T.bcs prs ++ [.int .i64 (c.banks[k]).1, dv])) (hg : M.Grew wr w2 b b2) : OI w B c kv' ev' bp bc w2 b2 (prs ++ [(c.banks[k], dv)]) (k + 1) := by
 have hlow : ∀ i, i < B -> i < wr.heap.size -> w2.heap[i]? = wr.heap[i]? := fun i h1 h2 => hg.block i h2 (by intro e; have := own_lt h.row i e.symm; omega)
 have hs := h.sz
 refine ⟨?_, ?_, ?_, own_grew h.code h.row ne5B hg, own_grew h.effs h.row neEB hg, ?_, ?_, ?_, Nat.le_trans h.sz hg.size⟩
 ·rw [List.map_append, h.map, List.take_add_one, List.getElem?_eq_getElem hk]; rfl
 ·rw [List.length_append, T.bcs_append]; exact hr
 ·intro x hx
  rcases List.mem_append.1 hx with hx | hx
  ·exact own_grew (h.dat x hx) h.row ne5B hg
  ·simp at hx; subst hx; exact own_grew hd h.row ne5B hg
 ·exact (hlow _ (by omega) (S.lt_of h.c0)).trans h.c0
 ·exact (hlow _ (by omega) (S.lt_of h.r0)).trans h.r0
 ·exact h.bel.trans (hg.below (fun i e => by have := own_lt h.row i e; omega) h.bel.size)
theorem efs_cs {W : World} {ep : Option Addr} {ec : Nat} {es : List T.Ef} (h : T.EfS W ep es) (hn : ep = none -> ec = 0) : M.Cs W (.slice ep es.length ec) 3 es.length (T.t3 (es.map T.encE)) := by
 cases ep with
 | none =>
  have e0 : es = [] := by
   cases es with
   | nil => rfl
   | cons a l => obtain ⟨b, o, e, _⟩ := h 0 a rfl; cases e
  subst e0; exact .inl ⟨by rw [hn rfl]; rfl, rfl, rfl⟩
 | some x =>
  refine .inr ⟨x, ec, rfl, by rw [T.t3_len, List.length_map], ?_, ?_⟩
  ·intro j v hj
   have hlt : j < es.length * 3 := by have := (List.getElem?_eq_some_iff.1 hj).1; rw [T.t3_len, List.length_map] at this; exact this
   have hi : j / 3 < es.length := by omega
   obtain ⟨b, o, e, e1, e2, e3⟩ := h (j / 3) es[j / 3] (List.getElem?_eq_getElem hi)
   cases e
   have hm : (es.map T.encE)[j / 3]? = some (T.encE es[j / 3]) := by rw [List.getElem?_map, List.getElem?_eq_getElem hi]; rfl
   obtain ⟨f1, f2, f3⟩ := T.t3_get (es.map T.encE) (j / 3) _ hm; have ea : (⟨b, o, none⟩ : Addr).add j = ⟨b, o + j, none⟩ := Addr.add_lit _ _ _; rw [ea]
   rcases (show j = j / 3 * 3 \/ j = j / 3 * 3 + 1 \/ j = j / 3 * 3 + 2 by omega) with q | q | q
   ·rw [<- q] at f1; rw [f1] at hj; cases hj; rw [show o + j = o + j / 3 * 3 by omega]; exact e1
   ·rw [<- q] at f2; rw [f2] at hj; cases hj; rw [show o + j = o + j / 3 * 3 + 1 by omega]; exact e2
   ·rw [<- q] at f3; rw [f3] at hj; cases hj; rw [show o + j = o + j / 3 * 3 + 2 by omega]; exact e3
  ·intro v hv
   obtain ⟨j, hj⟩ := List.getElem?_of_mem hv; have hlt : j < es.length * 3 := by have := (List.getElem?_eq_some_iff.1 hj).1; rw [T.t3_len, List.length_map] at this; exact this
   have hi : j / 3 < es.length := by omega
   have hm : (es.map T.encE)[j / 3]? = some (T.encE es[j / 3]) := by rw [List.getElem?_map, List.getElem?_eq_getElem hi]; rfl
   obtain ⟨f1, f2, f3⟩ := T.t3_get (es.map T.encE) (j / 3) _ hm
   rcases (show j = j / 3 * 3 \/ j = j / 3 * 3 + 1 \/ j = j / 3 * 3 + 2 by omega) with q | q | q
   ·rw [<- q] at f1; rw [f1] at hj; cases hj; rfl
   ·rw [<- q] at f2; rw [f2] at hj; cases hj; rfl
   ·rw [<- q] at f3; rw [f3] at hj; cases hj; rfl
set_option maxHeartbeats 2000000
set_option maxRecDepth 100000
theorem OI.start {w W0 w1 : World} {c : T.Ct} {ep : Option Addr} {ec : Nat} {bp : Option Addr} {bc : Nat} {kv : Value} {kp : Option Addr} {kc : Nat}
  (hW0 : W0 = (w.alloc (.cells #[kv, .int .u16 (c.entry : Int), .slice ep c.effs.length ec, .slice bp c.banks.length bc] 27)).alloc (.cells #[.slice none 0 0, .int .u16 0, .slice none 0 0, .slice none 0 0] 27)) (hr : M.Row w1 W0.heap.size (.slice kp c.code.length kc) c.code) (hb : Below W0.heap.size W0 w1) :
  let w2 := w1.setCell ⟨w.heap.size, 0, none⟩ (.slice kp c.code.length kc)
  W0.heap.size = w.heap.size + 2 /\ Below w.heap.size w W0 /\ w1.cell? ⟨w.heap.size, 0, none⟩ = some kv /\ w1.frozen? ⟨w.heap.size, 0, none⟩ = false /\
  M.Row w2 W0.heap.size (.slice kp c.code.length kc) c.code /\ Below w.heap.size w w2 /\ W0.heap.size <= w2.heap.size /\
  w2.heap[w.heap.size]? = some (.cells #[.slice kp c.code.length kc, .int .u16 (c.entry : Int), .slice ep c.effs.length ec, .slice bp c.banks.length bc] 27 (0, 0)) /\
  w2.heap[w.heap.size + 1]? = some (.cells zC 27 (0, 0)) := by
 intro w2
 have s0 : W0.heap.size = w.heap.size + 2 := by rw [hW0]; simp
 have b0 : Below w.heap.size w W0 := by rw [hW0]; exact ((Below.refl _ w).alloc (Nat.le_refl _) _).alloc (by simp) _
 have h0 : W0.heap[w.heap.size]? = some (.cells [kv, .int .u16 (c.entry : Int), .slice ep c.effs.length ec, .slice bp c.banks.length bc].toArray 27 (0, 0)) := by rw [hW0]; exact heap_alloc2_old w _ _
 have h1 : W0.heap[w.heap.size + 1]? = some (.cells zC 27 (0, 0)) := by rw [hW0]; exact heap_alloc2_new w _ _
 have g0 := (hb.block _ (S.lt_of h0)).trans h0
 have g1 := (hb.block _ (S.lt_of h1)).trans h1
 have s1 := hb.size
 refine ⟨s0, b0, S.cell_of w1 _ 0 _ _ _ g0 rfl, S.frozen_of w1 _ 0 _ _ g0, ?_, ?_, by show _ <= (w1.setCell _ _).heap.size; rw [S.setCell_size]; exact s1, ?_, ?_⟩
 ·exact S.own_kept hr fun g e _ => S.setCell_other w1 _ _ _ _ (by have := own_lt hr g e; omega)
 ·exact (trB b0 hb b0.size).trans ⟨rfl, rfl, rfl, by rw [S.setCell_size]; exact Nat.le_refl _, fun k hk => S.setCell_other w1 _ _ _ _ (by omega)⟩
 ·exact S.setCell_heap w1 w.heap.size 0 _ 27 _ g0
 ·exact (S.setCell_other w1 _ _ _ _ (by omega)).trans g1
theorem msr (n k : Nat) (h : k < n) : n - (k + 1) < n - k := by omega
theorem msr2 (n : Nat) (a b : Value) (k : Nat) (ha : a = .int .i64 ((k + 1 : Nat) : Int)) (hb : b = .int .i64 (k : Int)) (h : k < n) : n - (intOf a).toNat < n - (intOf b).toNat := by
 subst ha hb; simp only [intOf, Int.toNat_natCast]; exact msr n k h
theorem num1 (k n : Nat) (h : k < n) (hb : n * 32 <= M.room) : wrap64 ((k : Int) + 1) = ((k + 1 : Nat) : Int) := by unfold M.room at hb; simp [wrap64]; omega
theorem num2 (k n : Nat) (h : k < n) (hb : n * 32 <= M.room) : (k + 1) * 32 <= M.room := Nat.le_trans (Nat.mul_le_mul_right 32 h) hb
theorem num3 (k n : Nat) (h : k < n) (hb : n * 32 <= M.room) : k + 1 <= maxLen := by unfold maxLen; unfold M.room at hb; omega
theorem num4 (prs : List (T.Bk × Value)) (bs : List T.Bk) (k : Nat) (h : k < bs.length) (hm : prs.map Prod.fst = bs.take k) : prs.length = k := by
 have := congrArg List.length hm; rw [List.length_map, List.length_take] at this; omega
theorem drewB1 (W : World) : Below W.heap.size W W.drew := ⟨rfl, rfl, rfl, Nat.le_refl _, fun _ _ => rfl⟩
theorem OI.start2 {w w2 w4 : World} {c : T.Ct} {ep : Option Addr} {ec : Nat} {bp : Option Addr} {bc : Nat} {kp p4 : Option Addr} {kc c4 : Nat} (hR : M.Row w2 (w.heap.size + 2) (.slice kp c.code.length kc) c.code)
  (hC : w2.heap[w.heap.size]? = some (.cells #[.slice kp c.code.length kc, .int .u16 (c.entry : Int), .slice ep c.effs.length ec, .slice bp c.banks.length bc] 27 (0, 0))) (hZ : w2.heap[w.heap.size + 1]? = some (.cells zC 27 (0, 0))) (hB : Below w.heap.size w w2) (hS : w.heap.size + 2 <= w2.heap.size)
  (r4 : w4.ownsRow (w.heap.size + 2) 190 3 (.slice p4 c.effs.length c4) c.effs.length (T.t3 (c.effs.map T.encE))) (g4 : M.Grew (w2.alloc (.cells #[] 190)) w4 (.slice (some ⟨w2.heap.size, 0, none⟩) 0 0) (.slice p4 c.effs.length c4)) :
  w4.cell? ⟨w.heap.size, 2, none⟩ = some (.slice ep c.effs.length ec) /\ w4.frozen? ⟨w.heap.size, 2, none⟩ = false /\
  OI w (w.heap.size + 2) c (.slice kp c.code.length kc) (.slice p4 c.effs.length c4) bp bc (w4.setCell ⟨w.heap.size, 2, none⟩ (.slice p4 c.effs.length c4)) (.slice none 0 0) [] 0 := by
 have b3 := P.bel_alloc w2 (.cells #[] 190)
 have hlow : ∀ i, i < w2.heap.size -> w4.heap[i]? = w2.heap[i]? := fun i hi => (g4.block i (by simp; omega) (by simp [Value.ownBlock]; omega)).trans (b3.block i hi)
 have h4s : w2.heap.size <= w4.heap.size := Nat.le_trans b3.size g4.size
 have hC4 : w4.heap[w.heap.size]? = some (.cells [.slice kp c.code.length kc, .int .u16 (c.entry : Int), .slice ep c.effs.length ec, .slice bp c.banks.length bc].toArray 27 (0, 0)) := (hlow _ (by omega)).trans hC
 have o5 : ∀ k, k ≠ w.heap.size -> (w4.setCell ⟨w.heap.size, 2, none⟩ (.slice p4 c.effs.length c4)).heap[k]? = w4.heap[k]? := fun k hk => S.setCell_other w4 _ _ _ _ hk
 refine ⟨S.cell_of w4 _ 2 _ _ _ hC4 rfl, S.frozen_of w4 _ 2 _ _ hC4, ⟨rfl, World.ownsRow_nil _ _ _ _, by simp, ?_, ?_, ?_, ?_, ?_, by rw [S.setCell_size]; omega⟩⟩
 ·exact S.own_kept hR fun g e hg => (o5 g (by have := own_lt hR g e; omega)).trans (hlow g hg)
 ·exact S.own_kept r4 fun g e hg => o5 g (by have := own_lt r4 g e; omega)
 ·exact S.setCell_heap w4 w.heap.size 2 _ 27 _ hC4
 ·exact (o5 _ (by omega)).trans ((hlow _ (by omega)).trans hZ)
 ·refine ⟨g4.os.trans hB.os, g4.tape.trans hB.tape, g4.output.trans hB.output, by rw [S.setCell_size]; have := hB.size; omega, fun k hk => ?_⟩
  rw [o5 k (by omega), hlow k (by have := hB.size; omega), hB.block k hk]
def OwC8 (W : World) (B : Nat) (c : T.Ct) (kv bv : Value) : Prop := ∃ prs : List (T.Bk × Value), prs.map Prod.fst = c.banks /\ W.ownsRow B 81 2 bv prs.length (T.bcs prs) /\ (∀ x ∈ prs, M.Row W B x.2 x.1.2) /\ M.Row W B kv c.code
theorem OI.isC {w wr : World} {c : T.Ct} {kv' ev' : Value} {bp : Option Addr} {bc : Nat} {b : Value} {prs : List (T.Bk × Value)} (I : OI w (w.heap.size + 2) c kv' ev' bp bc wr b prs c.banks.length) (vp : Option Addr) (vc : Nat) (hb : b = .slice vp prs.length vc)
  {v : Value} {ep : Option Addr} {ec : Nat} {bp0 : Option Addr} {bc0 : Nat} {kv : Value} (h : T.IsC w v c ep ec bp0 bc0 kv) :
  ∃ ep' ec' bp' bc', T.IsC ((wr.setCell ⟨w.heap.size, 3, none⟩ b).setRow (w.heap.size + 1) #[kv', .int .u16 (c.entry : Int), ev', b]) (.agg #[kv', .int .u16 (c.entry : Int), ev', b]) c ep' ec' bp' bc' kv' /\ Below w.heap.size w ((wr.setCell ⟨w.heap.size, 3, none⟩ b).setRow (w.heap.size + 1) #[kv', .int .u16 (c.entry : Int), ev', b]) /\ OwC8 ((wr.setCell ⟨w.heap.size, 3, none⟩ b).setRow (w.heap.size + 1) #[kv', .int .u16 (c.entry : Int), ev', b]) (w.heap.size + 2) c kv' (.slice bp' c.banks.length bc') := by
 generalize hW : (wr.setCell ⟨w.heap.size, 3, none⟩ b).setRow (w.heap.size + 1) #[kv', .int .u16 (c.entry : Int), ev', b] = W
 have o : ∀ k, k ≠ w.heap.size -> k ≠ w.heap.size + 1 -> W.heap[k]? = wr.heap[k]? := fun k h1 h2 => by rw [<- hW, setRow_other _ _ _ _ h2, S.setCell_other _ _ _ _ _ h1]
 have kp : ∀ {e : TypeId} {s : Nat} {v : Value} {n : Nat} {xs : List Value}, wr.ownsRow (w.heap.size + 2) e s v n xs -> W.ownsRow (w.heap.size + 2) e s v n xs := fun hr => S.own_kept hr fun g e _ => o g (by have := own_lt hr g e; omega) (by have := own_lt hr g e; omega)
 have hE := kp I.effs
 have hBk := kp I.row
 have hm : prs.map Prod.fst = c.banks := by rw [I.map, List.take_length]
 have he : ∃ ep ec, ev' = .slice ep c.effs.length ec /\ T.EfS W ep c.effs := by
  rcases hE.2 with ⟨e, e0⟩ | ⟨g, cap, cur, e, _⟩
  ·have : c.effs = [] := List.eq_nil_of_length_eq_zero e0
   exact ⟨none, 0, by rw [e, this]; rfl, by rw [this]; intro i t ht; simp at ht⟩
  ·refine ⟨_, cap, e, fun i t ht => ?_⟩
   obtain ⟨k1, k2, k3⟩ := T.t3_get (c.effs.map T.encE) i (T.encE t) (by rw [List.getElem?_map, ht]; rfl); have c1 := World.ownsRow.cells hE (g := g) (by rw [e]; rfl) _ _ k1; have c2 := World.ownsRow.cells hE (g := g) (by rw [e]; rfl) _ _ k2; have c3 := World.ownsRow.cells hE (g := g) (by rw [e]; rfl) _ _ k3; rw [Addr.add_lit] at c1 c2 c3; exact ⟨g, 0, rfl, c1, c2, c3⟩
 have hbb : ∃ bp bc, b = .slice bp c.banks.length bc /\ M.BnS W bp c.banks := by
  have hl : prs.length = c.banks.length := by rw [<- hm]; simp
  rcases hBk.2 with ⟨e, e0⟩ | ⟨g, cap, cur, e, _⟩
  ·have : c.banks = [] := List.eq_nil_of_length_eq_zero (by omega)
   exact ⟨none, 0, by rw [e, this]; rfl, by rw [this]; intro i t ht; simp at ht⟩
  ·refine ⟨_, cap, by rw [<- hl]; exact e, fun i t ht => ?_⟩
   have hlen : t.2.length <= M.room := by obtain ⟨_, _, _, _, _, _, _, q⟩ := h.banks i t ht; exact q
   rw [<- hm, List.getElem?_map, Option.map_eq_some_iff] at ht; obtain ⟨x, hx, rfl⟩ := ht; obtain ⟨k1, k2⟩ := T.bcs_get prs i x hx; have c1 := World.ownsRow.cells hBk (g := g) (by rw [e]; rfl) _ _ k1; have c2 := World.ownsRow.cells hBk (g := g) (by rw [e]; rfl) _ _ k2; rw [Addr.add_lit] at c1 c2; have hmm := List.mem_of_getElem? hx; exact ⟨g, 0, x.2, rfl, c1, c2, M.Row.sl (kp (I.dat x hmm)), hlen⟩
 obtain ⟨ep', ec', e1, he⟩ := he
 obtain ⟨bp', bc', e2, hbb⟩ := hbb
 refine ⟨ep', ec', bp', bc', ⟨by rw [e1, e2]; rfl, M.Row.sl (kp I.code), h.clen, he, h.elen, hbb, h.blen, h.fit, h.ints, h.nums⟩, ?_, by rw [<- e2]; exact ⟨prs, hm, hBk, fun x hx => kp (I.dat x hx), kp I.code⟩⟩
 refine I.bel.trans ⟨by rw [<- hW]; rfl, by rw [<- hW]; rfl, by rw [<- hW]; rfl, by rw [<- hW, setRow_size, S.setCell_size]; exact Nat.le_refl _, fun k hk => o k (by omega) (by omega)⟩
theorem ownCart_own (v : Value) (c : T.Ct) (ep : Option Addr) (ec : Nat) (bp : Option Addr) (bc : Nat) (kv : Value) (w : World) (h : T.IsC w v c ep ec bp bc kv) (hn : ep = none -> ec = 0) :
  Calls Tryz.prog 10 #[v] w fun e w' => ∃ v' ep' ec' bp' bc' kv', e = .returned v' /\ T.IsC w' v' c ep' ec' bp' bc' kv' /\ Below w.heap.size w w' /\ OwC8 w' (w.heap.size + 2) c kv' (.slice bp' c.banks.length bc') := by
 obtain ⟨kp, kc, rfl, _⟩ := h.code.ex
 have hv := h.val
 subst hv
 unfold T.cv
 obtain ⟨W0, hW0⟩ : ∃ W0, W0 = (w.alloc (.cells #[.slice kp c.code.length kc, .int .u16 (c.entry : Int), .slice ep c.effs.length ec, .slice bp c.banks.length bc] 27)).alloc (.cells #[.slice none 0 0, .int .u16 0, .slice none 0 0, .slice none 0 0] 27) := ⟨_, rfl⟩
 have hB0 : Below w.heap.size w W0 := by rw [hW0]; exact ((Below.refl _ w).alloc (Nat.le_refl _) _).alloc (by simp) _
 have hz0 : W0.heap[w.heap.size]? = some (.cells #[.slice kp c.code.length kc, .int .u16 (c.entry : Int), .slice ep c.effs.length ec, .slice bp c.banks.length bc] 27 (0, 0)) := by rw [hW0]; exact heap_alloc2_old w _ _
 have k1 := own_any _ c.code h.clen W0 (h.code.below hB0)
 have a0 := S.cell_of W0 _ 0 [.slice kp c.code.length kc, .int .u16 (c.entry : Int), .slice ep c.effs.length ec, .slice bp c.banks.length bc] _ _ hz0 rfl
 have H := S.hid h
 have HW := S.hid hW0
 clear h hB0 hz0
 go_enter Tryz.func10, Tryz.ntmps10
 rw [hW0] at a0 k1
 go_wp2_with fail
 refine k1.mono ?_
 rintro e w1 ⟨p1, c1, rfl, r1, b1⟩
 rw [<- hW0] at r1 b1
 obtain ⟨s0, B0, x0, x1, R2, B2, S2, C2, Z2⟩ := OI.start HW.out r1 b1
 try simp only at R2 B2 S2 C2 Z2
 have HR2 := S.hid R2
 clear k1 a0 r1 b1 hW0
 generalize hw2 : w1.setCell ⟨w.heap.size, 0, none⟩ (.slice p1 c.code.length c1) = w2 at *
 have y2 := S.cell_of w2 _ 2 [.slice p1 c.code.length c1, .int .u16 (c.entry : Int), .slice ep c.effs.length ec, .slice bp c.banks.length bc] _ _ C2 rfl
 have b3 := P.bel_alloc w2 (.cells #[] 190)
 have o3 := own_empty w2 W0.heap.size S2 190 3
 have e3 := efs_cs (H.out.effs.below (trB B2 b3 B2.size)) hn
 have y2' := T.below_cell b3 _ _ y2
 have hel := H.out.elen
 have hbl := H.out.blen
 have HS := S.hid (And.intro B2 (And.intro C2 (And.intro Z2 (And.intro S2 s0))))
 have HO3 := S.hid o3
 have S3 := Nat.le_trans S2 b3.size
 have hz3 : (0 + c.effs.length) * 24 <= M.room := by rw [Nat.zero_add]; exact hel
 have hm3 : 0 + c.effs.length <= maxLen := by unfold maxLen; unfold M.room at hel; omega
 have Hb3 := S.hid b3
 clear R2 B2 C2 Z2 S2 b3 hel B0
 go_wp2_with (first | (at_builtin; refine M.wpList_append_row _ rfl _ _ 24 190 (.agg #[.int .u16 0, .int .i64 0, .int .i64 0]) 3 24 Tryz.underlying24 T.info80 rfl (by decide) rfl W0.heap.size _ 0 [] rfl o3 _ c.effs.length _ rfl e3 hz3 hm3 S3 ?_))
 intro v4 w4 r4 g4
 obtain ⟨p4, c4, rfl⟩ := own_form r4
 rw [s0] at HR2
 obtain ⟨q0, q1, OI5⟩ := OI.start2 (bp := bp) (bc := bc) HR2.out HS.out.2.1 HS.out.2.2.1 HS.out.1 (by have := HS.out.2.2.2.1; omega) r4 g4
 try simp only at OI5
 clear r4 g4 o3 e3 y2 y2' HR2 HO3 hz3 hm3 S3 Hb3 HS x0 x1 hw2
 generalize hw5 : w4.setCell ⟨w.heap.size, 2, none⟩ (.slice p4 c.effs.length c4) = w5 at *
 have y3 := S.cell_of w5 _ 3 [.slice p1 c.code.length c1, .int .u16 (c.entry : Int), .slice p4 c.effs.length c4, .slice bp c.banks.length bc] _ _ OI5.c0 rfl
 have HO := S.hid OI5
 clear OI5 HW
 go_wp2
 go_loopw [3, 18] (fun b i wr => ∃ (k : Nat) (prs : List (T.Bk × Value)), k <= c.banks.length /\ i = .int .i64 (k : Int) /\ OI w (w.heap.size + 2) c (.slice p1 c.code.length c1) (.slice p4 c.effs.length c4) bp bc wr b prs k) (fun _ i _ => c.banks.length - (intOf i).toNat)
 case atStart => exact ⟨0, [], by omega, rfl, HO.out⟩
 case round =>
  clear HO y3 hw5 q0 q1; obtain ⟨k, prs, hk, rfl, I⟩ := hrel
  by_cases hlt : k < c.banks.length
  ·have i1 : (k : Int) < c.banks.length := by omega
   obtain ⟨b, o, dv, rfl, e1, e2, e3, e4⟩ := H.out.banks.below I.bel k c.banks[k] (List.getElem?_eq_getElem hlt); have w1' := num1 k _ hlt hbl; obtain ⟨vp, vc, rfl⟩ := own_form I.row; have HADD := fun (wr w2 : World) (b2 dv : Value) (h : OI w (w.heap.size + 2) c (.slice p1 c.code.length c1) (.slice p4 c.effs.length c4) (some ⟨b, o, none⟩) bc wr (.slice vp prs.length vc) prs k) h1 h2 h3 => OI.add (b2 := b2) (w2 := w2) h (Nat.le_refl _) hlt dv h1 h2 h3
   have HPL : Hid (prs.length = k) := S.hid (num4 prs c.banks k hlt I.map); generalize c.banks[k] = t at *
   obtain ⟨num, l⟩ := t; simp only at e1 e2 e3 e4 HADD; obtain ⟨dp, dc, rfl, _⟩ := e3.ex; have b1 := P.bel_alloc wr (.cells #[.int .i64 num, .slice dp l.length dc] 81); have z1 := heap_alloc_new wr (.cells #[.int .i64 num, .slice dp l.length dc] 81); have I1 := I.below b1; have d1 := e3.below b1; have HI := S.hid I1; have hB1 : wr.heap.size < (wr.alloc (.cells #[.int .i64 num, .slice dp l.length dc] 81)).heap.size := by simp
   have HA := S.hid HADD; have HNE : Hid (∀ w7 : World, w7.ownsRow (w.heap.size + 2) 81 2 (.slice vp prs.length vc) prs.length (T.bcs prs) -> some wr.heap.size ≠ (Value.slice vp prs.length vc).ownBlock) := S.hid fun w7 h7 e => by have := own_lt I.row wr.heap.size e.symm; omega
   have hb1s := b1.size; clear HADD; go_wp2_with fail
   generalize hwa : wr.alloc (.cells #[.int .i64 num, .slice dp l.length dc] 81) = wa at *
   have s0' : (fun w' => w'.cell? ⟨wr.heap.size, 0, none⟩ = some (.int .i64 num) /\ w'.cell? ⟨wr.heap.size, 1, none⟩ = some (.slice dp l.length dc)) wa.drew := ⟨S.cell_of wa _ 0 [.int .i64 num, .slice dp l.length dc] _ _ z1 rfl, S.cell_of wa _ 1 [.int .i64 num, .slice dp l.length dc] _ _ z1 rfl⟩
   have k5 := own_any _ l e4 wa.drew (d1.below (drewB1 wa)); have HS5 : ∀ W W' : World, Below W.heap.size W W' -> (fun w' => w'.cell? ⟨wr.heap.size, 0, none⟩ = some (.int .i64 num) /\ w'.cell? ⟨wr.heap.size, 1, none⟩ = some (.slice dp l.length dc)) W -> (fun w' => w'.cell? ⟨wr.heap.size, 0, none⟩ = some (.int .i64 num) /\ w'.cell? ⟨wr.heap.size, 1, none⟩ = some (.slice dp l.length dc)) W' := fun W W' b ⟨x0, x1⟩ => ⟨T.below_cell b _ _ x0, T.below_cell b _ _ x1⟩
   have HS5 := S.hid HS5; have HI' := S.hid (HI.out.below (drewB1 wa)); clear I I1 d1 b1 z1 e1 e2 e3 HI; refine wp_region_held_drew (S := (fun w' => w'.cell? ⟨wr.heap.size, 0, none⟩ = some (.int .i64 num) /\ w'.cell? ⟨wr.heap.size, 1, none⟩ = some (.slice dp l.length dc))) (by kernel_rfl) s0' (fun hHeld => ?_); refine V.wtk0 (is := [0, 1, 2, 3, 4]) ?_
   iterate 5
    refine V.wt (v := ?_) rfl (by kernel_rfl) (fun c a w h => h) (by rfl) ?_ hHeld ?_
    rotate_left
    ·(intro w hSw; (try dsimp only at hSw); go_simp; try with_reducible rfl)
    simp only [Act.put, List.setIfInBounds_toArray, List.set_cons_zero, List.set_cons_succ]
   refine V.wtkE ?_; refine V.wrd 5 (by kernel_rfl) rfl fun K hK => ?_
   go_simp; refine k5.mono ?_; rintro e w6 ⟨p6, c6, rfl, r6, b6⟩; have s6 := HS5.out _ _ b6 s0'; have I6 := HI'.out.below b6; have b7 := P.bel_alloc w6 (.cells #[.int .i64 num, .slice p6 l.length c6] 81); have s7 := HS5.out _ _ b7 s6; have I7 := I6.below b7; have z7 := heap_alloc_new w6 (.cells #[.int .i64 num, .slice p6 l.length c6] 81); have r7 : M.Row _ (w.heap.size + 2) (.slice p6 l.length c6) l := S.own_mono (M.Row.below r6 b7) HI'.out.sz; have HC7 := S.hid (And.intro I7 (And.intro z7 r7)); have hlt7 : wr.heap.size < (w6.alloc (.cells #[.int .i64 num, .slice p6 l.length c6] 81)).heap.size := Nat.lt_of_lt_of_le hB1 (Nat.le_trans b6.size b7.size); clear k5 r6 b6 I6 b7 I7 z7 r7; refine hK.out _ _ s6 (fun hHeld => ?_); clear hK K; try simp only [Act.put, List.setIfInBounds_toArray, List.set_cons_zero, List.set_cons_succ]
   refine V.wrd 6 (by kernel_rfl) rfl fun K hK => ?_
   go_simp; refine hK.out _ _ s6 (fun hHeld => ?_); clear hK K; refine V.wrd 7 (by kernel_rfl) rfl fun K hK => ?_
   go_simp; refine hK.out _ _ s7 (fun hHeld => ?_); clear hK K; refine V.wrd 8 (by kernel_rfl) rfl fun K hK => ?_
   generalize hw7 : w6.alloc (.cells #[.int .i64 num, .slice p6 l.length c6] 81) = w7 at *
   have hcs : M.Cs w7 (.slice (some ⟨w6.heap.size, 0, none⟩) 1 1) 2 1 [.int .i64 num, .slice p6 l.length c6] := .inr ⟨_, _, rfl, rfl, fun j v hj => by
     have ea : (⟨w6.heap.size, 0, none⟩ : Addr).add j = ⟨w6.heap.size, j, none⟩ := by rw [Addr.add_lit]; simp
     rw [ea]; exact S.cell_of w7 _ j [.int .i64 num, .slice p6 l.length c6] _ _ HC7.out.2.1 hj, fun v hv => by simp at hv; rcases hv with rfl | rfl <;> rfl⟩
   refine step_append_row rfl (.tmp 22) (.tmp 29) 25 81 (.agg #[.int .i64 0, .slice none 0 0]) 2 32 Tryz.underlying25 T.info82 rfl (by decide) rfl (w.heap.size + 2) (.slice vp prs.length vc) prs.length (T.bcs prs) (by simp [Act.eval]) HC7.out.1.row (.slice (some ⟨w6.heap.size, 0, none⟩) 1 1) 1 _ (by simp [Act.eval]) hcs (by rw [HPL.out]; exact num2 k _ hlt hbl) (by rw [HPL.out]; exact num3 k _ hlt hbl) HC7.out.1.sz ?_; intro v8 w8 r8 g8; have I8 := HA.out w7 w8 v8 (.slice p6 l.length c6) HC7.out.1 HC7.out.2.2 r8 g8; have HI8 := S.hid I8
   have s8 : (fun w' => w'.cell? ⟨wr.heap.size, 0, none⟩ = some (.int .i64 num) /\ w'.cell? ⟨wr.heap.size, 1, none⟩ = some (.slice dp l.length dc)) w8 := by
    have hb : ∀ i, i < w7.heap.size -> i ≠ wr.heap.size -> True := fun _ _ _ => trivial
    have hblk : w8.heap[wr.heap.size]? = w7.heap[wr.heap.size]? := g8.block _ hlt7 (HNE.out w7 HC7.out.1.row); exact ⟨(World.cell?_of_block (a := ⟨wr.heap.size, 0, none⟩) hblk).trans s7.1, (World.cell?_of_block (a := ⟨wr.heap.size, 1, none⟩) hblk).trans s7.2⟩
   clear r8 g8 I8 hcs s7 HC7; refine hK.out _ _ s8 (fun hHeld => ?_); clear hK K; try simp only [Act.put, List.setIfInBounds_toArray, List.set_cons_zero, List.set_cons_succ]
   refine V.wrd 9 (by kernel_rfl) rfl fun K hK => ?_
   go_simp; refine hK.out _ _ s8 (fun hHeld => ?_); clear hK K; refine wpAnyH_done (by kernel_rfl) ?_ _; try simp only [Act.put, List.setIfInBounds_toArray, List.set_cons_zero, List.set_cons_succ]
   clear hHeld s0' s6 s8 HS5 HA HI'; go_wp2; go_roundw
   case rel => exact ⟨k + 1, _, hlt, (by first | rfl | rw [w1']), HI8.out⟩
   case measure => exact msr2 c.banks.length _ _ k (by first | rfl | rw [w1']) rfl hlt
  ·obtain rfl : k = c.banks.length := by omega
   obtain ⟨vp, vc, rfl⟩ := own_form I.row; have hC0 : wr.heap[w.heap.size]? = some (.cells [.slice p1 c.code.length c1, .int .u16 (c.entry : Int), .slice p4 c.effs.length c4, .slice bp c.banks.length bc].toArray 27 (0, 0)) := I.c0; have x3 := S.cell_of wr _ 3 _ _ _ hC0 rfl; have f3 := S.frozen_of wr _ 3 _ _ hC0; have hC9 := S.setCell_heap wr w.heap.size 3 _ 27 (.slice vp prs.length vc) hC0; have hZ9 : (wr.setCell ⟨w.heap.size, 3, none⟩ (.slice vp prs.length vc)).heap[w.heap.size + 1]? = some (.cells zC 27 (0, 0)) := (S.setCell_other wr _ _ _ _ (by omega)).trans I.r0; have hfin := setRow_heap (wr.setCell ⟨w.heap.size, 3, none⟩ (.slice vp prs.length vc)) (w.heap.size + 1) _ #[.slice p1 c.code.length c1, .int .u16 (c.entry : Int), .slice p4 c.effs.length c4, .slice vp prs.length vc] _ _ hZ9; have hIS := I.isC vp vc rfl H.out; have HF := S.hid (And.intro hfin hIS); have hC9' : (wr.setCell ⟨w.heap.size, 3, none⟩ (.slice vp prs.length vc)).heap[w.heap.size]? = some (.cells #[.slice p1 c.code.length c1, .int .u16 (c.entry : Int), .slice p4 c.effs.length c4, .slice vp prs.length vc] 27 (0, 0)) := hC9
   clear hfin hIS I hC0 hC9
   go_wp2_with (first
    | (refine wpList_load_row rfl 27 _ rfl w.heap.size rfl 27 _ (0, 0) _ hC9' Tryz.underlying27 rfl (by exact size27) ?_)
    | (refine wpList_store_row rfl 27 _ _ rfl (w.heap.size + 1) _ rfl rfl 27 zC hZ9 (by exact size27) (by rfl) (by simp [Value.oneCell']) ?_))
   obtain ⟨ep', ec', bp', bc', hI, hB, hO⟩ := HF.out.2; exact bodyPost_ret (results_cell_row rfl _ _ (w.heap.size + 1) 27 _ (0, 0) _ rfl HF.out.1 Tryz.underlying27 rfl size27) rfl ⟨_, ep', ec', bp', bc', _, rfl, hI, hB, hO⟩
theorem ownCart_any (v : Value) (c : T.Ct) (ep : Option Addr) (ec : Nat) (bp : Option Addr) (bc : Nat) (kv : Value) (w : World) (h : T.IsC w v c ep ec bp bc kv) (hn : ep = none -> ec = 0) :
  Calls Tryz.prog 10 #[v] w fun e w' => ∃ v' ep' ec' bp' bc' kv', e = .returned v' /\ T.IsC w' v' c ep' ec' bp' bc' kv' /\ Below w.heap.size w w' := by
 refine (ownCart_own v c ep ec bp bc kv w h hn).mono ?_
 rintro e w' ⟨v', ep', ec', bp', bc', kv', he, h1, h2, _⟩
 exact ⟨v', ep', ec', bp', bc', kv', he, h1, h2⟩
set_option maxHeartbeats 2000000
set_option maxRecDepth 100000
theorem turn_st (v : VS) : (turn v).v.st = v.st /\ (turn v).v.fa = v.fa := by
 unfold turn
 split
 ·exact ⟨rfl, rfl⟩
 ·split
  ·exact ⟨rfl, rfl⟩
  ·split
   ·exact ⟨rfl, rfl⟩
   ·split
    ·exact ⟨rfl, rfl⟩
    ·split <;> exact ⟨rfl, rfl⟩
theorem dn_st (op x be : Int) (v : VS) : ((dn op x be v).v.st = v.st \/ (dn op x be v).v.st = 2) /\ (dn op x be v).v.fa = v.fa := by
 unfold dn
 split
 ·split <;> exact ⟨.inl rfl, rfl⟩
 ·split <;> exact ⟨.inl rfl, rfl⟩
 ·split <;> exact ⟨.inl rfl, rfl⟩
 ·exact ⟨.inl rfl, rfl⟩
 ·split <;> exact ⟨.inl rfl, rfl⟩
 ·split <;> exact ⟨.inl (turn_st v).1, (turn_st v).2⟩
 ·split
  ·exact ⟨.inr rfl, rfl⟩
  ·split <;> exact ⟨.inl rfl, rfl⟩
 ·exact ⟨.inl rfl, rfl⟩
 ·exact ⟨.inr rfl, rfl⟩
 ·unfold pl; simp only
  split <;> exact ⟨.inl rfl, rfl⟩
theorem Sl_conv {W : World} {v : Value} {l : List UInt8} (h : M.Sl W v l) (hl : l.length <= maxLen) : (convert 22 9 v).run Tryz.prog W = .ok (.string ⟨l.toArray⟩) W := by
 rcases h with ⟨rfl, rfl⟩ | ⟨x, c, rfl, _, h⟩
 ·rw [run_convert_bytes_string W 22 9 5 none 0 0 Tryz.underlying22 Tryz.underlying5 Tryz.underlying9]; rfl
 ·exact run_convert_bytes_back (P := Tryz.prog) W 22 9 5 x c l Tryz.underlying22 Tryz.underlying5 Tryz.underlying9 (fun j hj => h j _ (by simp))
end Go.Proofs.YteldjmecomngeaaGreat.V
