import Derived.Test.YtmlpijjjkpnioaaDoorCOwe
import Derived.Test.YtmlpijjjkpnioaaDoorCSame
/-! Kept: a cartridge that Own made, as it was. -/
namespace Go.Proofs.YtmlpijjjkpnioaaDoor.C
open Go.RowKit
open Go.Proofs
open Go.Proofs.YtmlpijjjkpnioaaDoor.K
set_option linter.unusedVariables false
set_option linter.unusedSimpArgs false
set_option maxHeartbeats 4000000
set_option maxRecDepth 100000
theorem OWC.next {W w w' : World} {c : Ct} {kv : Value} {ge ce gb cb : Nat} {prs : List (Bk × Value)} (h : OWC W w c kv ge ce gb cb prs) (b : Below w.heap.size w w') : OWC W w' c kv ge ce gb cb prs :=
  ⟨h.bel.trans (b.mono h.bel.size), roomed_kt h.code (T := 27) (by decide) (KT.below b), own_kt h.effs (T := 27) (by decide) (KT.below b), h.map, own_kt h.banks (T := 27) (by decide) (KT.below b), fun x hx => roomed_kt (h.dat x hx) (T := 27) (by decide) (KT.below b)⟩
theorem OWC.at {W w : World} {c : Ct} {kv : Value} {ge ce gb cb : Nat} {prs : List (Bk × Value)} (h : OWC W w c kv ge ce gb cb prs) (i : Nat) (t : Bk) (ht : c.banks[i]? = some t) : ∃ gd cd, (t, Value.slice (some ⟨gd, 0, none⟩) t.2.length cd) ∈ prs ∧ w.cell? ⟨gb, i * 2, none⟩ = some (.int .i64 t.1) ∧ w.cell? ⟨gb, i * 2 + 1, none⟩ = some (.slice (some ⟨gd, 0, none⟩) t.2.length cd) ∧ Roomed w (W.heap.size + 2) (.slice (some ⟨gd, 0, none⟩) t.2.length cd) t.2 := by
  rw [← h.map, List.getElem?_map] at ht
  cases hp : prs[i]? with
  | none => rw [hp] at ht; cases ht
  | some x =>
    rw [hp] at ht
    simp only [Option.map_some, Option.some.injEq] at ht
    subst ht
    obtain ⟨t, dv⟩ := x
    have hm := List.mem_of_getElem? hp
    have hr := h.dat _ hm
    obtain ⟨gd, cd, e, _⟩ := id hr
    simp only at e
    subst e
    have hl : i < prs.length := (List.getElem?_eq_some_iff.1 hp).1
    obtain ⟨k1, k2⟩ := bcs_get prs i _ hp
    have q : ∀ (j : Nat) (u : Value), (bcs prs)[j]? = some u → w.cell? ⟨gb, j, none⟩ = some u := fun j u hj => by
      have := World.ownsRow.cells h.banks (g := gb) rfl j u (by rw [List.getElem?_append_left (List.getElem?_eq_some_iff.1 hj).1]; exact hj)
      rw [Addr.add_lit, Nat.zero_add] at this
      exact this
    exact ⟨gd, cd, hm, q _ _ k1, q _ _ k2, hr⟩
theorem OWC.isC {W w : World} {c : Ct} {kv v kv0 : Value} {ge ce gb cb : Nat} {prs : List (Bk × Value)} {ep bp : Option Addr} {ec bc : Nat} (h : OWC W w c kv ge ce gb cb prs) (hI : IsC W v c ep ec bp bc kv0) : IsC w (cv kv c.entry (some ⟨ge, 0, none⟩) c.effs.length ce (some ⟨gb, 0, none⟩) c.banks.length cb) c (some ⟨ge, 0, none⟩) ce (some ⟨gb, 0, none⟩) cb kv := by
  refine ⟨rfl, h.code.sl, hI.clen, fun i t ht => ?_, hI.elen, fun i t ht => ?_, hI.blen, hI.fit, hI.ints, hI.nums⟩
  · obtain ⟨k1, k2, k3⟩ := t3_get (c.effs.map encE) i (encE t) (by rw [List.getElem?_map, ht]; rfl)
    have q : ∀ (j : Nat) (u : Value), (t3 (c.effs.map encE))[j]? = some u → w.cell? ⟨ge, 0 + j, none⟩ = some u := fun j u hj => by
      have := World.ownsRow.cells h.effs (g := ge) rfl j u (by rw [List.getElem?_append_left (List.getElem?_eq_some_iff.1 hj).1]; exact hj)
      rw [Addr.add_lit] at this
      exact this
    exact ⟨ge, 0, rfl, q _ _ k1, by rw [Nat.add_assoc]; exact q _ _ k2, by rw [Nat.add_assoc]; exact q _ _ k3⟩
  · obtain ⟨gd, cd, _, k1, k2, k3⟩ := h.at i t ht
    obtain ⟨_, _, _, _, _, _, _, hl⟩ := hI.banks i t ht
    exact ⟨gb, 0, _, rfl, by rw [Nat.zero_add]; exact k1, by rw [Nat.zero_add]; exact k2, k3.sl, hl⟩
theorem OWC.marks {W w : World} {c : Ct} {kv : Value} {ge ce gb cb : Nat} {prs : List (Bk × Value)} (h : OWC W w c kv ge ce gb cb prs) : w.cell? ⟨ge, c.effs.length * 3 + 1, none⟩ = some (.int .i64 77) ∧ w.cell? ⟨gb, c.banks.length * 2, none⟩ = some (.int .i64 77) := by
  have l1 : (t3 (c.effs.map encE)).length = c.effs.length * 3 := by rw [t3_len, List.length_map]
  have l2 : (bcs prs).length = c.banks.length * 2 := by rw [bcs_len, ← h.map, List.length_map]
  have q1 := World.ownsRow.cells h.effs (g := ge) rfl (c.effs.length * 3 + 1) (.int .i64 77) (by rw [List.getElem?_append_right (by omega), l1, Nat.add_sub_cancel_left]; rfl)
  have q2 := World.ownsRow.cells h.banks (g := gb) rfl (c.banks.length * 2) (.int .i64 77) (by rw [List.getElem?_append_right (by omega), l2, Nat.sub_self]; rfl)
  rw [Addr.add_lit, Nat.zero_add] at q1 q2
  exact ⟨q1, q2⟩
theorem bel_drewN {B : Nat} {W w : World} (h : Below B W w) (q : Nat) : Below B W (w.drewN q) := ⟨h.os, h.tape, h.output, h.size, h.block⟩
theorem kept_any (c : Ct) (v : Value) (ep : Option Addr) (ec : Nat) (bp : Option Addr) (bc : Nat) (kv kv' : Value) (ge ce gb cb : Nat) (prs : List (Bk × Value)) (B W : World) (hI : IsC W v c ep ec bp bc kv) (hO : OWC B W c kv' ge ce gb cb prs) (hIB : IsC B v c ep ec bp bc kv) (hc1 : c.code.length + 4096 ≤ room) (he1 : c.effs.length * 24 + 4096 ≤ room) (hb1 : c.banks.length * 32 + 4096 ≤ room) (hd1 : ∀ x ∈ c.banks, x.2.length + 4096 ≤ room) :
    Calls Tryd.prog 29 #[cv kv' c.entry (some ⟨ge, 0, none⟩) c.effs.length ce (some ⟨gb, 0, none⟩) c.banks.length cb, v] W fun e w' => e = .returned (.bool true) ∧ Below W.heap.size W w' := by
  obtain rfl := hI.val
  obtain ⟨kp, kc, rfl, _⟩ := hI.code.ex
  obtain ⟨gk, ck, rfl, _⟩ := id hO.code
  have hsame := fun (X : World) (hX : Below W.heap.size W X) => same_true _ _ c _ _ _ _ _ _ _ _ _ _ X ((hO.next hX).isC hIB) (hI.below hX)
  unfold cv at hsame ⊢
  have hn1 : c.effs.length + 1 ≤ ce := own_cap hO.effs
  have hm1 : c.banks.length + 1 ≤ cb := own_cap hO.banks
  have hroom : room = 140737488355328 := rfl
  have hn2 : (c.effs.length : Int) + 1 ≤ (ce : Int) := by omega
  have hm2 : (c.banks.length : Int) + 1 ≤ (cb : Int) := by omega
  have hn3 : (0 : Int) ≤ (c.effs.length : Int) + 1 := by omega
  have hm3 : (0 : Int) ≤ (c.banks.length : Int) + 1 := by omega
  have hn4 : IntKind.i64.wrap ((c.effs.length : Int) + 1) = (c.effs.length : Int) + 1 := IntWalk.i64_in _ (by omega)
  have hm4 : IntKind.i64.wrap ((c.banks.length : Int) + 1) = (c.banks.length : Int) + 1 := IntWalk.i64_in _ (by omega)
  have hn5 : ((c.effs.length : Int) + 1).toNat = c.effs.length + 1 := by omega
  have hm5 : ((c.banks.length : Int) + 1).toNat = c.banks.length + 1 := by omega
  have hn6 : (c.effs.length : Int) < (c.effs.length : Int) + 1 := by omega
  have hm6 : (c.banks.length : Int) < (c.banks.length : Int) + 1 := by omega
  have hkb : c.banks.length ≤ 4398046511104 := by omega
  have hkb2 : c.effs.length ≤ 5864062014805 := by omega
  obtain ⟨W1, hW1⟩ : ∃ W1, (W.alloc (.cells #[.slice (some ⟨gk, 0, none⟩) c.code.length ck, .int .u16 (c.entry : Int), .slice (some ⟨ge, 0, none⟩) c.effs.length ce, .slice (some ⟨gb, 0, none⟩) c.banks.length cb] 27)).alloc (.cells #[.slice kp c.code.length kc, .int .u16 (c.entry : Int), .slice ep c.effs.length ec, .slice bp c.banks.length bc] 27) = W1 := ⟨_, rfl⟩
  have k1 : Below W.heap.size W W1 := by rw [← hW1]; exact ((Below.refl _ W).alloc (Nat.le_refl _) _).alloc (by simp) _
  have v1 : W1.heap[W.heap.size]? = some (.cells [.slice (some ⟨gk, 0, none⟩) c.code.length ck, .int .u16 (c.entry : Int), .slice (some ⟨ge, 0, none⟩) c.effs.length ce, .slice (some ⟨gb, 0, none⟩) c.banks.length cb].toArray 27 (0, 0)) := by rw [← hW1]; exact heap_alloc2_old W _ _
  have v2 : W1.heap[W.heap.size + 1]? = some (.cells [.slice kp c.code.length kc, .int .u16 (c.entry : Int), .slice ep c.effs.length ec, .slice bp c.banks.length bc].toArray 27 (0, 0)) := by rw [← hW1]; exact heap_alloc2_new W _ _
  have hmk : ∀ X : World, Below W1.heap.size W1 X → (fun wz : World => wz.cell? ⟨W.heap.size, 0, none⟩ = some (.slice (some ⟨gk, 0, none⟩) c.code.length ck) ∧ wz.cell? ⟨W.heap.size, 1, none⟩ = some (.int .u16 (c.entry : Int)) ∧ wz.cell? ⟨W.heap.size, 2, none⟩ = some (.slice (some ⟨ge, 0, none⟩) c.effs.length ce) ∧ wz.cell? ⟨W.heap.size, 3, none⟩ = some (.slice (some ⟨gb, 0, none⟩) c.banks.length cb) ∧ wz.cell? ⟨W.heap.size + 1, 0, none⟩ = some (.slice kp c.code.length kc) ∧ wz.cell? ⟨W.heap.size + 1, 1, none⟩ = some (.int .u16 (c.entry : Int)) ∧ wz.cell? ⟨W.heap.size + 1, 2, none⟩ = some (.slice ep c.effs.length ec) ∧ wz.cell? ⟨W.heap.size + 1, 3, none⟩ = some (.slice bp c.banks.length bc) ∧ wz.cell? ⟨ge, c.effs.length * 3 + 1, none⟩ = some (.int .i64 77) ∧ wz.cell? ⟨gb, c.banks.length * 2, none⟩ = some (.int .i64 77)) X := fun X hX => by
    have a1 := (hX.block _ (lt_of v1)).trans v1
    have a2 := (hX.block _ (lt_of v2)).trans v2
    have hm := (hO.next (k1.trans (hX.mono k1.size))).marks
    exact ⟨cell_of X _ 0 _ 27 _ a1 rfl, cell_of X _ 1 _ 27 _ a1 rfl, cell_of X _ 2 _ 27 _ a1 rfl, cell_of X _ 3 _ 27 _ a1 rfl, cell_of X _ 0 _ 27 _ a2 rfl, cell_of X _ 1 _ 27 _ a2 rfl, cell_of X _ 2 _ 27 _ a2 rfl, cell_of X _ 3 _ 27 _ a2 rfl, hm.1, hm.2⟩
  have HMK := hid hmk
  have HW := hid hW1
  have HK1 := hid k1
  have HH := hid (And.intro hI (And.intro hO (And.intro hd1 hsame)))
  have HB0 := hid (Below.refl W1.heap.size W1).drew
  clear hmk hW1 k1 v1 v2 hI hO hd1 hIB hsame
  go_enter Tryd.func29, Tryd.ntmps29
  go_upto_region 1 with fail
  rw [HW.out]
  refine wp_region_held_drew (S := (fun wz : World => wz.cell? ⟨W.heap.size, 0, none⟩ = some (.slice (some ⟨gk, 0, none⟩) c.code.length ck) ∧ wz.cell? ⟨W.heap.size, 1, none⟩ = some (.int .u16 (c.entry : Int)) ∧ wz.cell? ⟨W.heap.size, 2, none⟩ = some (.slice (some ⟨ge, 0, none⟩) c.effs.length ce) ∧ wz.cell? ⟨W.heap.size, 3, none⟩ = some (.slice (some ⟨gb, 0, none⟩) c.banks.length cb) ∧ wz.cell? ⟨W.heap.size + 1, 0, none⟩ = some (.slice kp c.code.length kc) ∧ wz.cell? ⟨W.heap.size + 1, 1, none⟩ = some (.int .u16 (c.entry : Int)) ∧ wz.cell? ⟨W.heap.size + 1, 2, none⟩ = some (.slice ep c.effs.length ec) ∧ wz.cell? ⟨W.heap.size + 1, 3, none⟩ = some (.slice bp c.banks.length bc) ∧ wz.cell? ⟨ge, c.effs.length * 3 + 1, none⟩ = some (.int .i64 77) ∧ wz.cell? ⟨gb, c.banks.length * 2, none⟩ = some (.int .i64 77))) (by kernel_rfl) (HMK.out _ HB0.out) (fun hHeld => ?_)
  generalize W1.drew = y0 at *
  refine wpAnyH_take (i := 0) (v := ?_) rfl (by kernel_rfl) (by kernel_rfl) (by kernel_rfl) (fun c a w h => h) (Or.inl ⟨by rfl, ?_⟩) hHeld ?_
  rotate_left
  · (intro w hSw; (try dsimp only at hSw); go_simp; try with_reducible rfl)
  simp only [Act.put, List.getElem_toArray, List.getElem_cons_zero, List.getElem_cons_succ, List.setIfInBounds_toArray, List.set_cons_zero, List.set_cons_succ]
  refine wpAnyH_take (i := 1) (v := ?_) rfl (by kernel_rfl) (by kernel_rfl) (by kernel_rfl) (fun c a w h => h) (Or.inl ⟨by rfl, ?_⟩) hHeld ?_
  rotate_left
  · (intro w hSw; (try dsimp only at hSw); go_simp; try with_reducible rfl)
  simp only [Act.put, List.getElem_toArray, List.getElem_cons_zero, List.getElem_cons_succ, List.setIfInBounds_toArray, List.set_cons_zero, List.set_cons_succ]
  refine wpAnyH_ready (rs := [2]) (by kernel_rfl) (by simp) ?_
  refine AllReadyH.cons rfl (fun K hK => ?_) AllReadyH.nil
  have hcall := HH.out.2.2.2 y0 (HK1.out.trans (HB0.out.mono HK1.out.size))
  go_simp
  refine hcall.mono ?_
  rintro e y1 ⟨rfl, kk⟩
  have HB1 := hid (HB0.out.trans (kk.mono HB0.out.size))
  refine hK.out _ _ (HMK.out _ HB1.out) (fun hHeld => ?_)
  clear hK K kk hcall
  try simp only [Act.put, List.getElem_toArray, List.getElem_cons_zero, List.getElem_cons_succ, List.setIfInBounds_toArray, List.set_cons_zero, List.set_cons_succ]
  refine wpAnyH_take (i := 3) (v := ?_) rfl (by kernel_rfl) (by kernel_rfl) (by kernel_rfl) (fun c a w h => h) (Or.inl ⟨by rfl, ?_⟩) hHeld ?_
  rotate_left
  · (intro w hSw; (try dsimp only at hSw); go_simp; try with_reducible rfl)
  simp only [Act.put, List.getElem_toArray, List.getElem_cons_zero, List.getElem_cons_succ, List.setIfInBounds_toArray, List.set_cons_zero, List.set_cons_succ]
  refine wpAnyH_take (i := 4) (v := ?_) rfl (by kernel_rfl) (by kernel_rfl) (by kernel_rfl) (fun c a w h => h) (Or.inl ⟨by rfl, ?_⟩) hHeld ?_
  rotate_left
  · (intro w hSw; (try dsimp only at hSw); go_simp; try with_reducible rfl)
  simp only [Act.put, List.getElem_toArray, List.getElem_cons_zero, List.getElem_cons_succ, List.setIfInBounds_toArray, List.set_cons_zero, List.set_cons_succ]
  refine wpAnyH_take (i := 5) (v := ?_) rfl (by kernel_rfl) (by kernel_rfl) (by kernel_rfl) (fun c a w h => h) (Or.inl ⟨by rfl, ?_⟩) hHeld ?_
  rotate_left
  · (intro w hSw; (try dsimp only at hSw); go_simp; try with_reducible rfl)
  simp only [Act.put, List.getElem_toArray, List.getElem_cons_zero, List.getElem_cons_succ, List.setIfInBounds_toArray, List.set_cons_zero, List.set_cons_succ]
  refine wpAnyH_take (i := 6) (v := ?_) rfl (by kernel_rfl) (by kernel_rfl) (by kernel_rfl) (fun c a w h => h) (Or.inl ⟨by rfl, ?_⟩) hHeld ?_
  rotate_left
  · (intro w hSw; (try dsimp only at hSw); go_simp; try with_reducible rfl)
  simp only [Act.put, List.getElem_toArray, List.getElem_cons_zero, List.getElem_cons_succ, List.setIfInBounds_toArray, List.set_cons_zero, List.set_cons_succ]
  refine wpAnyH_take (i := 7) (v := ?_) rfl (by kernel_rfl) (by kernel_rfl) (by kernel_rfl) (fun c a w h => h) (Or.inl ⟨by rfl, ?_⟩) hHeld ?_
  rotate_left
  · (intro w hSw; (try dsimp only at hSw); go_simp; try with_reducible rfl)
  simp only [Act.put, List.getElem_toArray, List.getElem_cons_zero, List.getElem_cons_succ, List.setIfInBounds_toArray, List.set_cons_zero, List.set_cons_succ]
  refine wpAnyH_ready (rs := [8]) (by kernel_rfl) (by simp) ?_
  refine AllReadyH.cons rfl (fun K hK => ?_) AllReadyH.nil
  have hb1' := HK1.out.trans (HB1.out.mono HK1.out.size)
  have hcall := aswas_any (B.heap.size + 2) (.slice (some ⟨gk, 0, none⟩) c.code.length ck) (.slice kp c.code.length kc) c.code (by omega) y1 (HH.out.2.1.next hb1').code (HH.out.1.code.below hb1')
  clear hb1'
  go_simp
  refine hcall.mono ?_
  rintro e y2 ⟨rfl, q2, rfl⟩
  have HB2 := hid (bel_drewN HB1.out q2)
  refine hK.out _ _ (HMK.out _ HB2.out) (fun hHeld => ?_)
  clear hK K hcall
  generalize y1.drewN q2 = y2 at *
  try simp only [Act.put, List.getElem_toArray, List.getElem_cons_zero, List.getElem_cons_succ, List.setIfInBounds_toArray, List.set_cons_zero, List.set_cons_succ]
  refine wpAnyH_take (i := 9) (v := ?_) rfl (by kernel_rfl) (by kernel_rfl) (by kernel_rfl) (fun c a w h => h) (Or.inl ⟨by rfl, ?_⟩) hHeld ?_
  rotate_left
  · (intro w hSw; (try dsimp only at hSw); go_simp; try with_reducible rfl)
  simp only [Act.put, List.getElem_toArray, List.getElem_cons_zero, List.getElem_cons_succ, List.setIfInBounds_toArray, List.set_cons_zero, List.set_cons_succ]
  refine wpAnyH_take (i := 10) (v := ?_) rfl (by kernel_rfl) (by kernel_rfl) (by kernel_rfl) (fun c a w h => h) (Or.inl ⟨by rfl, ?_⟩) hHeld ?_
  rotate_left
  · (intro w hSw; (try dsimp only at hSw); go_simp; try with_reducible rfl)
  simp only [Act.put, List.getElem_toArray, List.getElem_cons_zero, List.getElem_cons_succ, List.setIfInBounds_toArray, List.set_cons_zero, List.set_cons_succ]
  refine wpAnyH_take (i := 11) (v := ?_) rfl (by kernel_rfl) (by kernel_rfl) (by kernel_rfl) (fun c a w h => h) (Or.inl ⟨by rfl, ?_⟩) hHeld ?_
  rotate_left
  · (intro w hSw; (try dsimp only at hSw); go_simp; try with_reducible rfl)
  simp only [Act.put, List.getElem_toArray, List.getElem_cons_zero, List.getElem_cons_succ, List.setIfInBounds_toArray, List.set_cons_zero, List.set_cons_succ]
  refine wpAnyH_take (i := 12) (v := ?_) rfl (by kernel_rfl) (by kernel_rfl) (by kernel_rfl) (fun c a w h => h) (Or.inl ⟨by rfl, ?_⟩) hHeld ?_
  rotate_left
  · (intro w hSw; (try dsimp only at hSw); go_simp; try with_reducible rfl)
  simp only [Act.put, List.getElem_toArray, List.getElem_cons_zero, List.getElem_cons_succ, List.setIfInBounds_toArray, List.set_cons_zero, List.set_cons_succ]
  refine wpAnyH_take (i := 13) (v := ?_) rfl (by kernel_rfl) (by kernel_rfl) (by kernel_rfl) (fun c a w h => h) (Or.inl ⟨by rfl, ?_⟩) hHeld ?_
  rotate_left
  · (intro w hSw; (try dsimp only at hSw); go_simp; try with_reducible rfl)
  simp only [Act.put, List.getElem_toArray, List.getElem_cons_zero, List.getElem_cons_succ, List.setIfInBounds_toArray, List.set_cons_zero, List.set_cons_succ]
  refine wpAnyH_take (i := 14) (v := ?_) rfl (by kernel_rfl) (by kernel_rfl) (by kernel_rfl) (fun c a w h => h) (Or.inl ⟨by rfl, ?_⟩) hHeld ?_
  rotate_left
  · (intro w hSw; (try dsimp only at hSw); go_simp; try with_reducible rfl)
  simp only [Act.put, List.getElem_toArray, List.getElem_cons_zero, List.getElem_cons_succ, List.setIfInBounds_toArray, List.set_cons_zero, List.set_cons_succ]
  refine wpAnyH_take (i := 15) (v := ?_) rfl (by kernel_rfl) (by kernel_rfl) (by kernel_rfl) (fun c a w h => h) (Or.inl ⟨by rfl, ?_⟩) hHeld ?_
  rotate_left
  · (intro w hSw; (try dsimp only at hSw); go_simp; try with_reducible rfl)
  simp only [Act.put, List.getElem_toArray, List.getElem_cons_zero, List.getElem_cons_succ, List.setIfInBounds_toArray, List.set_cons_zero, List.set_cons_succ]
  refine wpAnyH_take (i := 16) (v := ?_) rfl (by kernel_rfl) (by kernel_rfl) (by kernel_rfl) (fun c a w h => h) (Or.inl ⟨by rfl, ?_⟩) hHeld ?_
  rotate_left
  · (intro w hSw; (try dsimp only at hSw); go_simp; try with_reducible rfl)
  simp only [Act.put, List.getElem_toArray, List.getElem_cons_zero, List.getElem_cons_succ, List.setIfInBounds_toArray, List.set_cons_zero, List.set_cons_succ]
  refine wpAnyH_take (i := 17) (v := ?_) rfl (by kernel_rfl) (by kernel_rfl) (by kernel_rfl) (fun c a w h => h) (Or.inl ⟨by rfl, ?_⟩) hHeld ?_
  rotate_left
  · (intro w hSw; (try dsimp only at hSw); go_simp; try with_reducible rfl)
  simp only [Act.put, List.getElem_toArray, List.getElem_cons_zero, List.getElem_cons_succ, List.setIfInBounds_toArray, List.set_cons_zero, List.set_cons_succ]
  refine wpAnyH_take (i := 18) (v := ?_) rfl (by kernel_rfl) (by kernel_rfl) (by kernel_rfl) (fun c a w h => h) (Or.inl ⟨by rfl, ?_⟩) hHeld ?_
  rotate_left
  · (intro w hSw; (try dsimp only at hSw); go_simp; try with_reducible rfl)
  simp only [Act.put, List.getElem_toArray, List.getElem_cons_zero, List.getElem_cons_succ, List.setIfInBounds_toArray, List.set_cons_zero, List.set_cons_succ]
  refine wpAnyH_take (i := 19) (v := ?_) rfl (by kernel_rfl) (by kernel_rfl) (by kernel_rfl) (fun c a w h => h) (Or.inl ⟨by rfl, ?_⟩) hHeld ?_
  rotate_left
  · (intro w hSw; (try dsimp only at hSw); go_simp; try with_reducible rfl)
  simp only [Act.put, List.getElem_toArray, List.getElem_cons_zero, List.getElem_cons_succ, List.setIfInBounds_toArray, List.set_cons_zero, List.set_cons_succ]
  refine wpAnyH_take (i := 20) (v := ?_) rfl (by kernel_rfl) (by kernel_rfl) (by kernel_rfl) (fun c a w h => h) (Or.inl ⟨by rfl, ?_⟩) hHeld ?_
  rotate_left
  · (intro w hSw; (try dsimp only at hSw); go_simp; try with_reducible rfl)
  simp only [Act.put, List.getElem_toArray, List.getElem_cons_zero, List.getElem_cons_succ, List.setIfInBounds_toArray, List.set_cons_zero, List.set_cons_succ]
  refine wpAnyH_take (i := 21) (v := ?_) rfl (by kernel_rfl) (by kernel_rfl) (by kernel_rfl) (fun c a w h => h) (Or.inl ⟨by rfl, ?_⟩) hHeld ?_
  rotate_left
  · (intro w hSw; (try dsimp only at hSw); go_simp; try with_reducible rfl)
  simp only [Act.put, List.getElem_toArray, List.getElem_cons_zero, List.getElem_cons_succ, List.setIfInBounds_toArray, List.set_cons_zero, List.set_cons_succ]
  refine wpAnyH_take (i := 22) (v := ?_) rfl (by kernel_rfl) (by kernel_rfl) (by kernel_rfl) (fun c a w h => h) (Or.inl ⟨by rfl, ?_⟩) hHeld ?_
  rotate_left
  · (intro w hSw; (try dsimp only at hSw); go_simp; try with_reducible rfl)
  simp only [Act.put, List.getElem_toArray, List.getElem_cons_zero, List.getElem_cons_succ, List.setIfInBounds_toArray, List.set_cons_zero, List.set_cons_succ]
  refine wpAnyH_take (i := 23) (v := ?_) rfl (by kernel_rfl) (by kernel_rfl) (by kernel_rfl) (fun c a w h => h) (Or.inl ⟨by rfl, ?_⟩) hHeld ?_
  rotate_left
  · (intro w hSw; (try dsimp only at hSw); go_simp; try with_reducible rfl)
  simp only [Act.put, List.getElem_toArray, List.getElem_cons_zero, List.getElem_cons_succ, List.setIfInBounds_toArray, List.set_cons_zero, List.set_cons_succ]
  refine wpAnyH_take (i := 24) (v := ?_) rfl (by kernel_rfl) (by kernel_rfl) (by kernel_rfl) (fun c a w h => h) (Or.inl ⟨by rfl, ?_⟩) hHeld ?_
  rotate_left
  · (intro w hSw; (try dsimp only at hSw); go_simp; try with_reducible rfl)
  simp only [Act.put, List.getElem_toArray, List.getElem_cons_zero, List.getElem_cons_succ, List.setIfInBounds_toArray, List.set_cons_zero, List.set_cons_succ]
  refine wpAnyH_take (i := 25) (v := ?_) rfl (by kernel_rfl) (by kernel_rfl) (by kernel_rfl) (fun c a w h => h) (Or.inl ⟨by rfl, ?_⟩) hHeld ?_
  rotate_left
  · (intro w hSw; (try dsimp only at hSw); go_simp; try with_reducible rfl)
  simp only [Act.put, List.getElem_toArray, List.getElem_cons_zero, List.getElem_cons_succ, List.setIfInBounds_toArray, List.set_cons_zero, List.set_cons_succ]
  refine wpAnyH_take (i := 26) (v := ?_) rfl (by kernel_rfl) (by kernel_rfl) (by kernel_rfl) (fun c a w h => h) (Or.inl ⟨by rfl, ?_⟩) hHeld ?_
  rotate_left
  · (intro w hSw; (try dsimp only at hSw); go_simp; try with_reducible rfl)
  simp only [Act.put, List.getElem_toArray, List.getElem_cons_zero, List.getElem_cons_succ, List.setIfInBounds_toArray, List.set_cons_zero, List.set_cons_succ]
  refine wpAnyH_take (i := 27) (v := ?_) rfl (by kernel_rfl) (by kernel_rfl) (by kernel_rfl) (fun c a w h => h) (Or.inl ⟨by rfl, ?_⟩) hHeld ?_
  rotate_left
  · (intro w hSw; (try dsimp only at hSw); go_simp; try with_reducible rfl)
  simp only [Act.put, List.getElem_toArray, List.getElem_cons_zero, List.getElem_cons_succ, List.setIfInBounds_toArray, List.set_cons_zero, List.set_cons_succ]
  refine wpAnyH_take (i := 28) (v := ?_) rfl (by kernel_rfl) (by kernel_rfl) (by kernel_rfl) (fun c a w h => h) (Or.inl ⟨by rfl, ?_⟩) hHeld ?_
  rotate_left
  · (intro w hSw; (try dsimp only at hSw); go_simp; try with_reducible rfl)
  simp only [Act.put, List.getElem_toArray, List.getElem_cons_zero, List.getElem_cons_succ, List.setIfInBounds_toArray, List.set_cons_zero, List.set_cons_succ]
  refine wpAnyH_take (i := 29) (v := ?_) rfl (by kernel_rfl) (by kernel_rfl) (by kernel_rfl) (fun c a w h => h) (Or.inl ⟨by rfl, ?_⟩) hHeld ?_
  rotate_left
  · (intro w hSw; (try dsimp only at hSw); go_simp; try with_reducible rfl)
  simp only [Act.put, List.getElem_toArray, List.getElem_cons_zero, List.getElem_cons_succ, List.setIfInBounds_toArray, List.set_cons_zero, List.set_cons_succ]
  refine wpAnyH_take (i := 30) (v := ?_) rfl (by kernel_rfl) (by kernel_rfl) (by kernel_rfl) (fun c a w h => h) (Or.inl ⟨by rfl, ?_⟩) hHeld ?_
  rotate_left
  · (intro w hSw; (try dsimp only at hSw); go_simp; try with_reducible rfl)
  simp only [Act.put, List.getElem_toArray, List.getElem_cons_zero, List.getElem_cons_succ, List.setIfInBounds_toArray, List.set_cons_zero, List.set_cons_succ]
  refine wpAnyH_take (i := 31) (v := ?_) rfl (by kernel_rfl) (by kernel_rfl) (by kernel_rfl) (fun c a w h => h) (Or.inl ⟨by rfl, ?_⟩) hHeld ?_
  rotate_left
  · (intro w hSw; (try dsimp only at hSw); go_simp; try with_reducible rfl)
  simp only [Act.put, List.getElem_toArray, List.getElem_cons_zero, List.getElem_cons_succ, List.setIfInBounds_toArray, List.set_cons_zero, List.set_cons_succ]
  refine wpAnyH_take (i := 32) (v := ?_) rfl (by kernel_rfl) (by kernel_rfl) (by kernel_rfl) (fun c a w h => h) (Or.inl ⟨by rfl, ?_⟩) hHeld ?_
  rotate_left
  · (intro w hSw; (try dsimp only at hSw); go_simp; try with_reducible rfl)
  simp only [Act.put, List.getElem_toArray, List.getElem_cons_zero, List.getElem_cons_succ, List.setIfInBounds_toArray, List.set_cons_zero, List.set_cons_succ]
  refine wpAnyH_take (i := 33) (v := ?_) rfl (by kernel_rfl) (by kernel_rfl) (by kernel_rfl) (fun c a w h => h) (Or.inl ⟨by rfl, ?_⟩) hHeld ?_
  rotate_left
  · (intro w hSw; (try dsimp only at hSw); go_simp; try with_reducible rfl)
  simp only [Act.put, List.getElem_toArray, List.getElem_cons_zero, List.getElem_cons_succ, List.setIfInBounds_toArray, List.set_cons_zero, List.set_cons_succ]
  refine wpAnyH_take (i := 34) (v := ?_) rfl (by kernel_rfl) (by kernel_rfl) (by kernel_rfl) (fun c a w h => h) (Or.inl ⟨by rfl, ?_⟩) hHeld ?_
  rotate_left
  · (intro w hSw; (try dsimp only at hSw); go_simp; try with_reducible rfl)
  simp only [Act.put, List.getElem_toArray, List.getElem_cons_zero, List.getElem_cons_succ, List.setIfInBounds_toArray, List.set_cons_zero, List.set_cons_succ]
  refine wpAnyH_take (i := 35) (v := ?_) rfl (by kernel_rfl) (by kernel_rfl) (by kernel_rfl) (fun c a w h => h) (Or.inl ⟨by rfl, ?_⟩) hHeld ?_
  rotate_left
  · (intro w hSw; (try dsimp only at hSw); go_simp; try with_reducible rfl)
  simp only [Act.put, List.getElem_toArray, List.getElem_cons_zero, List.getElem_cons_succ, List.setIfInBounds_toArray, List.set_cons_zero, List.set_cons_succ]
  refine wpAnyH_take (i := 36) (v := ?_) rfl (by kernel_rfl) (by kernel_rfl) (by kernel_rfl) (fun c a w h => h) (Or.inl ⟨by rfl, ?_⟩) hHeld ?_
  rotate_left
  · (intro w hSw; (try dsimp only at hSw); go_simp; try with_reducible rfl)
  simp only [Act.put, List.getElem_toArray, List.getElem_cons_zero, List.getElem_cons_succ, List.setIfInBounds_toArray, List.set_cons_zero, List.set_cons_succ]
  refine wpAnyH_take (i := 37) (v := ?_) rfl (by kernel_rfl) (by kernel_rfl) (by kernel_rfl) (fun c a w h => h) (Or.inl ⟨by rfl, ?_⟩) hHeld ?_
  rotate_left
  · (intro w hSw; (try dsimp only at hSw); go_simp; try with_reducible rfl)
  simp only [Act.put, List.getElem_toArray, List.getElem_cons_zero, List.getElem_cons_succ, List.setIfInBounds_toArray, List.set_cons_zero, List.set_cons_succ]
  refine wpAnyH_take (i := 38) (v := ?_) rfl (by kernel_rfl) (by kernel_rfl) (by kernel_rfl) (fun c a w h => h) (Or.inl ⟨by rfl, ?_⟩) hHeld ?_
  rotate_left
  · (intro w hSw; (try dsimp only at hSw); go_simp; try with_reducible rfl)
  simp only [Act.put, List.getElem_toArray, List.getElem_cons_zero, List.getElem_cons_succ, List.setIfInBounds_toArray, List.set_cons_zero, List.set_cons_succ]
  refine wpAnyH_take (i := 39) (v := ?_) rfl (by kernel_rfl) (by kernel_rfl) (by kernel_rfl) (fun c a w h => h) (Or.inl ⟨by rfl, ?_⟩) hHeld ?_
  rotate_left
  · (intro w hSw; (try dsimp only at hSw); go_simp; try with_reducible rfl)
  simp only [Act.put, List.getElem_toArray, List.getElem_cons_zero, List.getElem_cons_succ, List.setIfInBounds_toArray, List.set_cons_zero, List.set_cons_succ]
  refine wpAnyH_take (i := 40) (v := ?_) rfl (by kernel_rfl) (by kernel_rfl) (by kernel_rfl) (fun c a w h => h) (Or.inl ⟨by rfl, ?_⟩) hHeld ?_
  rotate_left
  · (intro w hSw; (try dsimp only at hSw); go_simp; try with_reducible rfl)
  simp only [Act.put, List.getElem_toArray, List.getElem_cons_zero, List.getElem_cons_succ, List.setIfInBounds_toArray, List.set_cons_zero, List.set_cons_succ]
  refine wpAnyH_take (i := 41) (v := ?_) rfl (by kernel_rfl) (by kernel_rfl) (by kernel_rfl) (fun c a w h => h) (Or.inl ⟨by rfl, ?_⟩) hHeld ?_
  rotate_left
  · (intro w hSw; (try dsimp only at hSw); go_simp; try with_reducible rfl)
  simp only [Act.put, List.getElem_toArray, List.getElem_cons_zero, List.getElem_cons_succ, List.setIfInBounds_toArray, List.set_cons_zero, List.set_cons_succ]
  refine wpAnyH_take (i := 42) (v := ?_) rfl (by kernel_rfl) (by kernel_rfl) (by kernel_rfl) (fun c a w h => h) (Or.inl ⟨by rfl, ?_⟩) hHeld ?_
  rotate_left
  · (intro w hSw; (try dsimp only at hSw); go_simp; try with_reducible rfl)
  simp only [Act.put, List.getElem_toArray, List.getElem_cons_zero, List.getElem_cons_succ, List.setIfInBounds_toArray, List.set_cons_zero, List.set_cons_succ]
  refine wpAnyH_done (by kernel_rfl) ?_ _
  clear hHeld
  go_wp2
  go_loopw [5, 6] (fun ok i wr => ∃ k : Nat, k ≤ c.banks.length ∧ ok = .bool true ∧ i = .int .i64 (k : Int) ∧ Below W1.heap.size W1 wr) (fun _ i _ => c.banks.length - (intOf i).toNat)
  case atStart => exact ⟨0, by omega, rfl, rfl, HB2.out⟩
  case round =>
    clear HB2
    obtain ⟨k, hk, rfl, rfl, hB⟩ := hrel
    have m7 := (HMK.out wr hB).2.2.2.2.2.2.2.1
    by_cases hlt : k < c.banks.length
    · have i1 : (k : Int) < c.banks.length := by omega
      have ea := List.getElem?_eq_getElem hlt
      have hdl := HH.out.2.2.1 c.banks[k] (List.getElem_mem _)
      generalize c.banks[k] = t at *
      have hBW := HK1.out.trans (hB.mono HK1.out.size)
      obtain ⟨gd, cd, _, x0, x1, hR⟩ := (HH.out.2.1.next hBW).at k t ea
      obtain ⟨bq, oq, dv, rfl, hc0, hc1', hS, _⟩ := (HH.out.1.banks.below hBW) k t ea
      obtain ⟨qd, cq, rfl, _⟩ := hS.ex
      obtain ⟨_, _, _, m3, _, _, _, _, _⟩ := HMK.out wr hB
      have s0 : (fun wz : World => wz.cell? ⟨W.heap.size, 3, none⟩ = some (.slice (some ⟨gb, 0, none⟩) c.banks.length cb) ∧ wz.cell? ⟨W.heap.size + 1, 3, none⟩ = some (.slice (some ⟨bq, oq, none⟩) c.banks.length bc) ∧ wz.cell? ⟨gb, k * 2 + 1, none⟩ = some (.slice (some ⟨gd, 0, none⟩) t.2.length cd) ∧ wz.cell? ⟨bq, oq + k * 2 + 1, none⟩ = some (.slice qd t.2.length cq)) wr.drew := ⟨m3, m7, x1, hc1'⟩
      have HR := hid (And.intro hR hS)
      have HB3 := hid hB.drew
      clear hR hS hB hBW x0 x1 hc0 hc1' ea m3
      go_upto_region 5 with fail
      clear m7
      refine wp_region_held_drew (S := (fun wz : World => wz.cell? ⟨W.heap.size, 3, none⟩ = some (.slice (some ⟨gb, 0, none⟩) c.banks.length cb) ∧ wz.cell? ⟨W.heap.size + 1, 3, none⟩ = some (.slice (some ⟨bq, oq, none⟩) c.banks.length bc) ∧ wz.cell? ⟨gb, k * 2 + 1, none⟩ = some (.slice (some ⟨gd, 0, none⟩) t.2.length cd) ∧ wz.cell? ⟨bq, oq + k * 2 + 1, none⟩ = some (.slice qd t.2.length cq))) (by kernel_rfl) s0 (fun hHeld => ?_)
      have HRd := hid (And.intro (roomed_kt HR.out.1 (T := 27) (by decide) (KT.below (Below.refl _ wr).drew)) (HR.out.2.below (Below.refl _ wr).drew))
      clear s0
      generalize wr.drew = z0 at *
      refine wpAnyH_take (i := 0) (v := ?_) rfl (by kernel_rfl) (by kernel_rfl) (by kernel_rfl) (fun c a w h => h) (Or.inl ⟨by rfl, ?_⟩) hHeld ?_
      rotate_left
      · (intro w hSw; (try dsimp only at hSw); go_simp; try with_reducible rfl)
      simp only [Act.put, List.getElem_toArray, List.getElem_cons_zero, List.getElem_cons_succ, List.setIfInBounds_toArray, List.set_cons_zero, List.set_cons_succ]
      refine wpAnyH_take (i := 1) (v := ?_) rfl (by kernel_rfl) (by kernel_rfl) (by kernel_rfl) (fun c a w h => h) (Or.inl ⟨by rfl, ?_⟩) hHeld ?_
      rotate_left
      · (intro w hSw; (try dsimp only at hSw); go_simp; try with_reducible rfl)
      simp only [Act.put, List.getElem_toArray, List.getElem_cons_zero, List.getElem_cons_succ, List.setIfInBounds_toArray, List.set_cons_zero, List.set_cons_succ]
      refine wpAnyH_take (i := 2) (v := ?_) rfl (by kernel_rfl) (by kernel_rfl) (by kernel_rfl) (fun c a w h => h) (Or.inl ⟨by rfl, ?_⟩) hHeld ?_
      rotate_left
      · (intro w hSw; (try dsimp only at hSw); go_simp; try with_reducible rfl)
      simp only [Act.put, List.getElem_toArray, List.getElem_cons_zero, List.getElem_cons_succ, List.setIfInBounds_toArray, List.set_cons_zero, List.set_cons_succ]
      refine wpAnyH_take (i := 3) (v := ?_) rfl (by kernel_rfl) (by kernel_rfl) (by kernel_rfl) (fun c a w h => h) (Or.inl ⟨by rfl, ?_⟩) hHeld ?_
      rotate_left
      · (intro w hSw; (try dsimp only at hSw); go_simp; try with_reducible rfl)
      simp only [Act.put, List.getElem_toArray, List.getElem_cons_zero, List.getElem_cons_succ, List.setIfInBounds_toArray, List.set_cons_zero, List.set_cons_succ]
      refine wpAnyH_take (i := 4) (v := ?_) rfl (by kernel_rfl) (by kernel_rfl) (by kernel_rfl) (fun c a w h => h) (Or.inl ⟨by rfl, ?_⟩) hHeld ?_
      rotate_left
      · (intro w hSw; (try dsimp only at hSw); go_simp; try with_reducible rfl)
      simp only [Act.put, List.getElem_toArray, List.getElem_cons_zero, List.getElem_cons_succ, List.setIfInBounds_toArray, List.set_cons_zero, List.set_cons_succ]
      refine wpAnyH_take (i := 5) (v := ?_) rfl (by kernel_rfl) (by kernel_rfl) (by kernel_rfl) (fun c a w h => h) (Or.inl ⟨by rfl, ?_⟩) hHeld ?_
      rotate_left
      · (intro w hSw; (try dsimp only at hSw); go_simp; try with_reducible rfl)
      simp only [Act.put, List.getElem_toArray, List.getElem_cons_zero, List.getElem_cons_succ, List.setIfInBounds_toArray, List.set_cons_zero, List.set_cons_succ]
      refine wpAnyH_take (i := 6) (v := ?_) rfl (by kernel_rfl) (by kernel_rfl) (by kernel_rfl) (fun c a w h => h) (Or.inl ⟨by rfl, ?_⟩) hHeld ?_
      rotate_left
      · (intro w hSw; (try dsimp only at hSw); go_simp; try with_reducible rfl)
      simp only [Act.put, List.getElem_toArray, List.getElem_cons_zero, List.getElem_cons_succ, List.setIfInBounds_toArray, List.set_cons_zero, List.set_cons_succ]
      refine wpAnyH_take (i := 7) (v := ?_) rfl (by kernel_rfl) (by kernel_rfl) (by kernel_rfl) (fun c a w h => h) (Or.inl ⟨by rfl, ?_⟩) hHeld ?_
      rotate_left
      · (intro w hSw; (try dsimp only at hSw); go_simp; try with_reducible rfl)
      simp only [Act.put, List.getElem_toArray, List.getElem_cons_zero, List.getElem_cons_succ, List.setIfInBounds_toArray, List.set_cons_zero, List.set_cons_succ]
      refine wpAnyH_take (i := 8) (v := ?_) rfl (by kernel_rfl) (by kernel_rfl) (by kernel_rfl) (fun c a w h => h) (Or.inl ⟨by rfl, ?_⟩) hHeld ?_
      rotate_left
      · (intro w hSw; (try dsimp only at hSw); go_simp; try with_reducible rfl)
      simp only [Act.put, List.getElem_toArray, List.getElem_cons_zero, List.getElem_cons_succ, List.setIfInBounds_toArray, List.set_cons_zero, List.set_cons_succ]
      refine wpAnyH_take (i := 9) (v := ?_) rfl (by kernel_rfl) (by kernel_rfl) (by kernel_rfl) (fun c a w h => h) (Or.inl ⟨by rfl, ?_⟩) hHeld ?_
      rotate_left
      · (intro w hSw; (try dsimp only at hSw); go_simp; try with_reducible rfl)
      simp only [Act.put, List.getElem_toArray, List.getElem_cons_zero, List.getElem_cons_succ, List.setIfInBounds_toArray, List.set_cons_zero, List.set_cons_succ]
      refine wpAnyH_take (i := 10) (v := ?_) rfl (by kernel_rfl) (by kernel_rfl) (by kernel_rfl) (fun c a w h => h) (Or.inl ⟨by rfl, ?_⟩) hHeld ?_
      rotate_left
      · (intro w hSw; (try dsimp only at hSw); go_simp; try with_reducible rfl)
      simp only [Act.put, List.getElem_toArray, List.getElem_cons_zero, List.getElem_cons_succ, List.setIfInBounds_toArray, List.set_cons_zero, List.set_cons_succ]
      refine wpAnyH_take (i := 11) (v := ?_) rfl (by kernel_rfl) (by kernel_rfl) (by kernel_rfl) (fun c a w h => h) (Or.inl ⟨by rfl, ?_⟩) hHeld ?_
      rotate_left
      · (intro w hSw; (try dsimp only at hSw); go_simp; try with_reducible rfl)
      simp only [Act.put, List.getElem_toArray, List.getElem_cons_zero, List.getElem_cons_succ, List.setIfInBounds_toArray, List.set_cons_zero, List.set_cons_succ]
      refine wpAnyH_ready (rs := [12]) (by kernel_rfl) (by simp) ?_
      refine AllReadyH.cons rfl (fun K hK => ?_) AllReadyH.nil
      have hcall := aswas_any (B.heap.size + 2) (.slice (some ⟨gd, 0, none⟩) t.2.length cd) (.slice qd t.2.length cq) t.2 (by omega) z0 HRd.out.1 HRd.out.2
      go_simp
      refine hcall.mono ?_
      rintro e z1 ⟨rfl, q3, rfl⟩
      have HB4 := hid (bel_drewN HB3.out q3)
      refine hK.out _ _ hHeld (fun hHeld => ?_)
      clear hK K hcall
      generalize z0.drewN q3 = z1 at *
      try simp only [Act.put, List.getElem_toArray, List.getElem_cons_zero, List.getElem_cons_succ, List.setIfInBounds_toArray, List.set_cons_zero, List.set_cons_succ]
      refine wpAnyH_take (i := 13) (v := ?_) rfl (by kernel_rfl) (by kernel_rfl) (by kernel_rfl) (fun c a w h => h) (Or.inl ⟨by rfl, ?_⟩) hHeld ?_
      rotate_left
      · (intro w hSw; (try dsimp only at hSw); go_simp; try with_reducible rfl)
      simp only [Act.put, List.getElem_toArray, List.getElem_cons_zero, List.getElem_cons_succ, List.setIfInBounds_toArray, List.set_cons_zero, List.set_cons_succ]
      refine wpAnyH_done (by kernel_rfl) ?_ _
      clear hHeld
      go_wp2
      go_roundw
      case rel => exact ⟨k + 1, by omega, rfl, by go_num, HB4.out⟩
      case measure => simp [intOf]; omega
    · have i1 : ¬ (k : Int) < c.banks.length := by omega
      go_wp2
      go_ret
      exact ⟨rfl, HK1.out.trans (hB.mono HK1.out.size)⟩
end Go.Proofs.YtmlpijjjkpnioaaDoor.C
