import Derived.Test.YtdnklgceghllaaaGreatDoorDTop
namespace Go.Proofs.YtdnklgceghllaaaGreatDoor.D
open Go.RowKit
open Go.Proofs
open Go.Proofs.YtdnklgceghllaaaGreatDoor.K (Tk)
open Go.Proofs.YtdnklgceghllaaaGreatDoor.Y (Nd Df Ps ndc dfc NV NA N1 ZV hid)
open Go.Proofs.YtdnklgceghllaaaGreatDoor.R (MP En numb)
set_option linter.unusedVariables false
set_option linter.unusedSimpArgs false
set_option maxRecDepth 100000
structure Bd (r : Rd) : Prop where
 body : r.body.length <= 1000000
 opn : r.opn.length <= 1000000
 lists : ∀ n ∈ r.opn, n.th.length <= 1000000 /\ n.el.length <= 1000000
theorem set_last {α : Type} (l : List α) (i : Nat) (x : α) (h : i + 1 = l.length) : l.set i x = l.dropLast ++ [x] := by
 rw [List.set_eq_take_append_cons_drop, if_pos (by omega), List.dropLast_eq_take, List.drop_of_length_le (by omega), show l.length - 1 = i by omega]
theorem RS.last {W0 : World} {pm : Px} {g : Nat} {e : Ps} {W : World} {r : Rd} {q : Rv} (h : RS W0 pm g e W r q) (t : Nd) (hl : r.opn.getLast? = some t) : ∃ ob cap i y, q.ov = .slice (some ⟨ob, 0, none⟩) r.opn.length cap /\ i + 1 = r.opn.length /\ r.opn[i]? = some t /\ q.ys[i]? = some y := by
 have hpos : 0 < r.opn.length := by
  cases hz : r.opn with
  | nil => rw [hz] at hl; simp at hl
  | cons a b => simp
 rw [List.getLast?_eq_getElem?] at hl
 have hyl := h.ns.ow.len
 rcases h.ns.ow.val with ⟨_, e2⟩ | ⟨ob, cap, e1, _⟩
 ·rw [e2] at hpos; simp at hpos
 ·exact ⟨ob, cap, r.opn.length - 1, _, e1, by omega, hl, List.getElem?_eq_getElem (by omega)⟩
theorem add_any (W0 : World) (pm : Px) (g : Nat) (e : Ps) (W : World) (r : Rd) (q : Rv) (h : RS W0 pm g e W r q) (hb : Bd r) (n : Nd) (tv ev : Value) (ht : NV W (fun b => q.c b = 1) tv n.th) (he : NV W (fun b => q.c b = 1) ev n.el) :
  Calls Tryz.prog 144 #[.pointer (some ⟨g, 0, none⟩), .agg (ndc n tv ev).toArray] W fun en w' => en = .returned (.tuple #[]) /\ ∃ q', RS W0 pm g e w' (add n r) q' := by
 cases hl : r.opn.getLast? with
 | none =>
  have hop : r.opn = [] := by simpa using hl
  have : add n r = { r with body := r.body ++ [n] } := by unfold add; rw [hl]
  rw [this]
  exact add_body W0 pm g e W r q h hop hb.body n tv ev ht he
 | some t =>
  obtain ⟨ob, cap, i, y, hov, hi, hot, hoy⟩ := h.last t hl
  have hmem : t ∈ r.opn := List.mem_of_getElem? hot
  have hil : i < 1000000 := by have := hb.opn; omega
  have : add n r = { r with opn := r.opn.set i (put t n) } := by unfold add; rw [hl, set_last r.opn i _ hi]
  rw [this]
  unfold put
  by_cases hha : t.has = true
  ·rw [if_pos (by simp [hha])]
   exact add_E1 W0 pm g e W r q h ob cap i t y hov hi hot hoy hil hha (hb.lists t hmem).2 n tv ev ht he
  ·have hhf : t.has = false := by simpa using hha
   by_cases hk : t.k = 6
   ·rw [if_pos (by simp [hk])]
    exact add_E2 W0 pm g e W r q h ob cap i t y hov hi hot hoy hil hhf hk (hb.lists t hmem).2 n tv ev ht he
   ·rw [if_neg (by simp [hhf, hk])]
    exact add_T W0 pm g e W r q h ob cap i t y hov hi hot hoy hil hhf hk (hb.lists t hmem).1 n tv ev ht he
set_option maxHeartbeats 4000000
set_option maxRecDepth 100000
theorem stin_A (W0 : World) (pm : Px) (g : Nat) (e : Ps) (W : World) (r : Rd) (q : Rv) (h : RS W0 pm g e W r q) (hb : Bd r) (k : Int) (hop : r.opn = []) :
  Calls Tryz.prog 253 #[.pointer (some ⟨g, 0, none⟩), .int .i64 k] W fun en w' => en = .panicked (flt (r.at_.p, 104)) /\ Below W.heap.size W w' := by
 obtain ⟨_, _, _, _, _, _, _, x7, x8, x9, x10, x11, _, x13, _⟩ := rd_cells h.blk
 obtain ⟨po, co, hov⟩ : ∃ p c, q.ov = .slice p 0 c := by
  rcases h.ns.ow.val with ⟨e1, e2⟩ | ⟨g', cap, e1, _⟩
  ·exact ⟨none, 0, e1⟩
  ·rw [hop] at e1; exact ⟨_, _, e1⟩
 rw [hov] at x13
 clear hov hop
 have hgl := h.lt
 have Hgl := hid hgl
 skip
 clear h hb hgl
 have HM := hid (fun w => must_false r.at_ 104 w)
 unfold tkc at HM
 go_enter Tryz.func253, Tryz.ntmps253
 go_upto_region 0 with fail
 have hSS : W.drew.cell? ⟨g, 13, none⟩ = some (.slice po 0 co) /\ W.drew.cell? ⟨g, 7, none⟩ = some (.int .i64 r.at_.k) /\ W.drew.cell? ⟨g, 8, none⟩ = some (.string r.at_.t) /\ W.drew.cell? ⟨g, 9, none⟩ = some (.int .u16 r.at_.v) /\ W.drew.cell? ⟨g, 10, none⟩ = some (.int .i64 r.at_.p.1) /\ W.drew.cell? ⟨g, 11, none⟩ = some (.int .i64 r.at_.p.2) := ⟨x13, x7, x8, x9, x10, x11⟩
 refine wp_region_held_drew (S := fun wz : World => wz.cell? ⟨g, 13, none⟩ = some (.slice po 0 co) /\ wz.cell? ⟨g, 7, none⟩ = some (.int .i64 r.at_.k) /\ wz.cell? ⟨g, 8, none⟩ = some (.string r.at_.t) /\ wz.cell? ⟨g, 9, none⟩ = some (.int .u16 r.at_.v) /\ wz.cell? ⟨g, 10, none⟩ = some (.int .i64 r.at_.p.1) /\ wz.cell? ⟨g, 11, none⟩ = some (.int .i64 r.at_.p.2)) (by kernel_rfl) hSS (fun hHeld => ?_)
 have hB0 : Below W.heap.size W W.drew := ⟨rfl, rfl, rfl, Nat.le_refl _, fun _ _ => rfl⟩
 have hS0 := hSS
 clear hSS
 clear x7 x8 x9 x10 x11 x13
 generalize W.drew = y0 at *
 refine D.zH (is := [0, 1, 2, 3, 4, 5, 6, 15, 16, 17, 18]) ?_
 iterate 11
  refine D.yH (v := ?_) rfl (by kernel_rfl) (fun c a w h => h) (by rfl) ?_ hHeld ?_
  rotate_left
  ·(intro w hSw; (try dsimp only at hSw); go_simp; try with_reducible rfl)
  simp only [D.pts]
 refine D.eH ?_
 refine wpAnyH_take (i := 7) (v := undef) rfl (by kernel_rfl) (by kernel_rfl) (by kernel_rfl) (fun c a w h => h) (Or.inr ⟨by rfl, rfl⟩) hHeld ?_
 simp only [D.pts]
 refine wpAnyH_take (i := 12) (v := undef) rfl (by kernel_rfl) (by kernel_rfl) (by kernel_rfl) (fun c a w h => h) (Or.inr ⟨by rfl, rfl⟩) hHeld ?_
 simp only [D.pts]
 refine wpAnyH_ready (rs := [8]) (by kernel_rfl) (by simp) ?_
 refine AllReadyH.cons rfl (fun K hK => ?_) AllReadyH.nil
 rw [if_neg (fun hh => by cases (show false = true from hh))]
 refine hK.out _ _ hS0 (fun hHeld => ?_)
 clear hK K
 try simp only [D.pts]
 refine wpAnyH_take (i := 9) (v := undef) rfl (by kernel_rfl) (by kernel_rfl) (by kernel_rfl) (fun c a w h => h) (Or.inr ⟨by rfl, rfl⟩) hHeld ?_
 simp only [D.pts]
 refine wpAnyH_take (i := 10) (v := undef) rfl (by kernel_rfl) (by kernel_rfl) (by kernel_rfl) (fun c a w h => h) (Or.inr ⟨by rfl, rfl⟩) hHeld ?_
 simp only [D.pts]
 refine wpAnyH_take (i := 11) (v := undef) rfl (by kernel_rfl) (by kernel_rfl) (by kernel_rfl) (fun c a w h => h) (Or.inr ⟨by rfl, rfl⟩) hHeld ?_
 simp only [D.pts]
 refine wpAnyH_take (i := 13) (v := undef) rfl (by kernel_rfl) (by kernel_rfl) (by kernel_rfl) (fun c a w h => h) (Or.inr ⟨by rfl, rfl⟩) hHeld ?_
 simp only [D.pts]
 refine D.xH 14 (v := ?_) rfl (by kernel_rfl) (fun c a w h => h) (by rfl) ?_ hHeld ?_
 rotate_left
 ·(intro w hSw; (try dsimp only at hSw); go_simp; try with_reducible rfl)
 simp only [D.pts]
 refine wpAnyH_ready (rs := [19]) (by kernel_rfl) (by simp) ?_
 refine AllReadyH.cons rfl (fun K hK => ?_) AllReadyH.nil
 rw [if_pos (by rfl)]
 go_simp
 refine (HM.out y0).mono ?_
 rintro e' y9 ⟨rfl, hb9⟩
 have HE := hid (hB0.trans (hb9.mono hB0.size))
 exact ⟨rfl, rfl, HE.out⟩
theorem stin_B (W0 : World) (pm : Px) (g : Nat) (e : Ps) (W : World) (r : Rd) (q : Rv) (h : RS W0 pm g e W r q) (hb : Bd r) (k : Int) (t : Nd) (hl : r.opn.getLast? = some t) (hk : t.k = k) :
  Calls Tryz.prog 253 #[.pointer (some ⟨g, 0, none⟩), .int .i64 k] W fun en w' => en = .returned (.tuple #[]) /\ Below W.heap.size W w' := by
 obtain ⟨_, _, _, _, _, _, _, x7, x8, x9, x10, x11, _, x13, _⟩ := rd_cells h.blk
 obtain ⟨ob, cap, i, y, hov, hi, hot, hoy⟩ := h.last t hl
 have hnO := h.ns.ow
 rw [hov] at hnO x13
 have xk : W.cell? ⟨ob, i * 9, none⟩ = some (.int .i64 t.k) := hnO.cell i t y hot hoy 0 _ rfl
 have hil : i < 1000000 := by have := hb.opn; omega
 rw [<- hi] at x13
 have HT := hid (fun (w : World) (hx : w.cell? ⟨g, 13, none⟩ = some (.slice (some ⟨ob, 0, none⟩) (i + 1) cap)) => top_any g ob cap i hil w hx)
 obtain ⟨n1, hn1⟩ : ∃ n1 : Nat, i + 1 = n1 := ⟨_, rfl⟩
 rw [hn1] at x13 HT
 have j1 : (0 : Int) < (n1 : Int) := by omega
 have j2 : 0 < n1 := by omega
 have hbl : ob < W.heap.size := World.block_lt_of_cell? W _ xk
 rw [hk] at xk
 clear hov hi hot hoy hnO hl hn1
 have hgl := h.lt
 have Hgl := hid hgl
 have Hk := hid hk
 clear h hb hgl hk
 have HM := hid (fun w => must_true r.at_ 104 w)
 unfold tkc at HM
 go_enter Tryz.func253, Tryz.ntmps253
 go_upto_region 0 with fail
 have hSS : W.drew.cell? ⟨g, 13, none⟩ = some (.slice (some ⟨ob, 0, none⟩) n1 cap) /\ W.drew.cell? ⟨g, 7, none⟩ = some (.int .i64 r.at_.k) /\ W.drew.cell? ⟨g, 8, none⟩ = some (.string r.at_.t) /\ W.drew.cell? ⟨g, 9, none⟩ = some (.int .u16 r.at_.v) /\ W.drew.cell? ⟨g, 10, none⟩ = some (.int .i64 r.at_.p.1) /\ W.drew.cell? ⟨g, 11, none⟩ = some (.int .i64 r.at_.p.2) /\ W.drew.cell? ⟨ob, i * 9, none⟩ = some (.int .i64 k) := ⟨x13, x7, x8, x9, x10, x11, xk⟩
 refine wp_region_held_drew (S := fun wz : World => wz.cell? ⟨g, 13, none⟩ = some (.slice (some ⟨ob, 0, none⟩) n1 cap) /\ wz.cell? ⟨g, 7, none⟩ = some (.int .i64 r.at_.k) /\ wz.cell? ⟨g, 8, none⟩ = some (.string r.at_.t) /\ wz.cell? ⟨g, 9, none⟩ = some (.int .u16 r.at_.v) /\ wz.cell? ⟨g, 10, none⟩ = some (.int .i64 r.at_.p.1) /\ wz.cell? ⟨g, 11, none⟩ = some (.int .i64 r.at_.p.2) /\ wz.cell? ⟨ob, i * 9, none⟩ = some (.int .i64 k)) (by kernel_rfl) hSS (fun hHeld => ?_)
 have hB0 : Below W.heap.size W W.drew := ⟨rfl, rfl, rfl, Nat.le_refl _, fun _ _ => rfl⟩
 have hS0 := hSS
 clear hSS
 clear x7 x8 x9 x10 x11 x13 xk
 generalize W.drew = y0 at *
 refine D.zH (is := [0, 1, 2, 3, 4, 5, 6, 15, 16, 17, 18, 7, 12]) ?_
 iterate 13
  refine D.yH (v := ?_) rfl (by kernel_rfl) (fun c a w h => h) (by rfl) ?_ hHeld ?_
  rotate_left
  ·(intro w hSw; (try dsimp only at hSw); go_simp; try with_reducible rfl)
  simp only [D.pts]
 refine D.eH ?_
 refine wpAnyH_ready (rs := [8]) (by kernel_rfl) (by simp) ?_
 refine AllReadyH.cons rfl (fun K hK => ?_) AllReadyH.nil
 rw [if_pos (by rfl)]
 go_simp
 refine (HT.out y0 hS0.1).mono ?_
 rintro e' y1 ⟨rfl, hb1⟩
 have hB1 := hB0.trans (hb1.mono hB0.size)
 have hg0 : g < y0.heap.size := Nat.lt_of_lt_of_le Hgl.out hB0.size
 have ho0 : ob < y0.heap.size := Nat.lt_of_lt_of_le hbl hB0.size
 have hS1 : y1.cell? ⟨g, 13, none⟩ = some (.slice (some ⟨ob, 0, none⟩) n1 cap) /\ y1.cell? ⟨g, 7, none⟩ = some (.int .i64 r.at_.k) /\ y1.cell? ⟨g, 8, none⟩ = some (.string r.at_.t) /\ y1.cell? ⟨g, 9, none⟩ = some (.int .u16 r.at_.v) /\ y1.cell? ⟨g, 10, none⟩ = some (.int .i64 r.at_.p.1) /\ y1.cell? ⟨g, 11, none⟩ = some (.int .i64 r.at_.p.2) /\ y1.cell? ⟨ob, i * 9, none⟩ = some (.int .i64 k) := ⟨(hb1.cell hg0).trans hS0.1, (hb1.cell hg0).trans hS0.2.1, (hb1.cell hg0).trans hS0.2.2.1, (hb1.cell hg0).trans hS0.2.2.2.1, (hb1.cell hg0).trans hS0.2.2.2.2.1, (hb1.cell hg0).trans hS0.2.2.2.2.2.1, (hb1.cell ho0).trans hS0.2.2.2.2.2.2⟩
 refine hK.out _ _ hS1 (fun hHeld => ?_)
 clear hK K
 try simp only [D.pts]
 refine D.zH (is := [9, 10, 11, 13, 14]) ?_
 iterate 5
  refine D.yH (v := ?_) rfl (by kernel_rfl) (fun c a w h => h) (by rfl) ?_ hHeld ?_
  rotate_left
  ·(intro w hSw; (try dsimp only at hSw); go_simp; try with_reducible rfl)
  simp only [D.pts]
 refine D.eH ?_
 refine wpAnyH_ready (rs := [19]) (by kernel_rfl) (by simp) ?_
 refine AllReadyH.cons rfl (fun K hK => ?_) AllReadyH.nil
 rw [if_pos (by rfl)]
 go_simp
 refine (HM.out y1).mono ?_
 rintro e' y9 ⟨rfl, hb9⟩
 have HE := hid (hB1.trans (hb9.mono hB1.size))
 refine hK.out _ _ (show y9.cell? ⟨g, 13, none⟩ = some (.slice (some ⟨ob, 0, none⟩) n1 cap) /\ y9.cell? ⟨g, 7, none⟩ = some (.int .i64 r.at_.k) /\ y9.cell? ⟨g, 8, none⟩ = some (.string r.at_.t) /\ y9.cell? ⟨g, 9, none⟩ = some (.int .u16 r.at_.v) /\ y9.cell? ⟨g, 10, none⟩ = some (.int .i64 r.at_.p.1) /\ y9.cell? ⟨g, 11, none⟩ = some (.int .i64 r.at_.p.2) /\ y9.cell? ⟨ob, i * 9, none⟩ = some (.int .i64 k) from ⟨(hb9.cell (Nat.lt_of_lt_of_le hg0 hb1.size)).trans hS1.1, (hb9.cell (Nat.lt_of_lt_of_le hg0 hb1.size)).trans hS1.2.1, (hb9.cell (Nat.lt_of_lt_of_le hg0 hb1.size)).trans hS1.2.2.1, (hb9.cell (Nat.lt_of_lt_of_le hg0 hb1.size)).trans hS1.2.2.2.1, (hb9.cell (Nat.lt_of_lt_of_le hg0 hb1.size)).trans hS1.2.2.2.2.1, (hb9.cell (Nat.lt_of_lt_of_le hg0 hb1.size)).trans hS1.2.2.2.2.2.1, (hb9.cell (Nat.lt_of_lt_of_le ho0 hb1.size)).trans hS1.2.2.2.2.2.2⟩) (fun hHeld => ?_)
 clear hK K
 try simp only [D.pts]
 refine wpAnyH_done (by kernel_rfl) ?_ _
 clear hHeld hS0 hS1
 go_wp2
 go_end0
 exact ⟨rfl, HE.out⟩
theorem stin_C (W0 : World) (pm : Px) (g : Nat) (e : Ps) (W : World) (r : Rd) (q : Rv) (h : RS W0 pm g e W r q) (hb : Bd r) (k : Int) (t : Nd) (hl : r.opn.getLast? = some t) (hk : ¬ t.k = k) :
  Calls Tryz.prog 253 #[.pointer (some ⟨g, 0, none⟩), .int .i64 k] W fun en w' => en = .panicked (flt (r.at_.p, 104)) /\ Below W.heap.size W w' := by
 obtain ⟨_, _, _, _, _, _, _, x7, x8, x9, x10, x11, _, x13, _⟩ := rd_cells h.blk
 obtain ⟨ob, cap, i, y, hov, hi, hot, hoy⟩ := h.last t hl
 have hnO := h.ns.ow
 rw [hov] at hnO x13
 have xk : W.cell? ⟨ob, i * 9, none⟩ = some (.int .i64 t.k) := hnO.cell i t y hot hoy 0 _ rfl
 have hil : i < 1000000 := by have := hb.opn; omega
 rw [<- hi] at x13
 have HT := hid (fun (w : World) (hx : w.cell? ⟨g, 13, none⟩ = some (.slice (some ⟨ob, 0, none⟩) (i + 1) cap)) => top_any g ob cap i hil w hx)
 obtain ⟨n1, hn1⟩ : ∃ n1 : Nat, i + 1 = n1 := ⟨_, rfl⟩
 rw [hn1] at x13 HT
 have j1 : (0 : Int) < (n1 : Int) := by omega
 have j2 : 0 < n1 := by omega
 have hbl : ob < W.heap.size := World.block_lt_of_cell? W _ xk
 have hkb : (t.k == k) = false := by simpa using hk
 clear hov hi hot hoy hnO hl hn1
 have hgl := h.lt
 have Hgl := hid hgl
 skip
 clear h hb hgl
 have HM := hid (fun w => must_false r.at_ 104 w)
 unfold tkc at HM
 go_enter Tryz.func253, Tryz.ntmps253
 go_upto_region 0 with fail
 have hSS : W.drew.cell? ⟨g, 13, none⟩ = some (.slice (some ⟨ob, 0, none⟩) n1 cap) /\ W.drew.cell? ⟨g, 7, none⟩ = some (.int .i64 r.at_.k) /\ W.drew.cell? ⟨g, 8, none⟩ = some (.string r.at_.t) /\ W.drew.cell? ⟨g, 9, none⟩ = some (.int .u16 r.at_.v) /\ W.drew.cell? ⟨g, 10, none⟩ = some (.int .i64 r.at_.p.1) /\ W.drew.cell? ⟨g, 11, none⟩ = some (.int .i64 r.at_.p.2) /\ W.drew.cell? ⟨ob, i * 9, none⟩ = some (.int .i64 t.k) := ⟨x13, x7, x8, x9, x10, x11, xk⟩
 refine wp_region_held_drew (S := fun wz : World => wz.cell? ⟨g, 13, none⟩ = some (.slice (some ⟨ob, 0, none⟩) n1 cap) /\ wz.cell? ⟨g, 7, none⟩ = some (.int .i64 r.at_.k) /\ wz.cell? ⟨g, 8, none⟩ = some (.string r.at_.t) /\ wz.cell? ⟨g, 9, none⟩ = some (.int .u16 r.at_.v) /\ wz.cell? ⟨g, 10, none⟩ = some (.int .i64 r.at_.p.1) /\ wz.cell? ⟨g, 11, none⟩ = some (.int .i64 r.at_.p.2) /\ wz.cell? ⟨ob, i * 9, none⟩ = some (.int .i64 t.k)) (by kernel_rfl) hSS (fun hHeld => ?_)
 have hB0 : Below W.heap.size W W.drew := ⟨rfl, rfl, rfl, Nat.le_refl _, fun _ _ => rfl⟩
 have hS0 := hSS
 clear hSS
 clear x7 x8 x9 x10 x11 x13 xk
 generalize W.drew = y0 at *
 refine D.zH (is := [0, 1, 2, 3, 4, 5, 6, 15, 16, 17, 18, 7, 12]) ?_
 iterate 13
  refine D.yH (v := ?_) rfl (by kernel_rfl) (fun c a w h => h) (by rfl) ?_ hHeld ?_
  rotate_left
  ·(intro w hSw; (try dsimp only at hSw); go_simp; try with_reducible rfl)
  simp only [D.pts]
 refine D.eH ?_
 refine wpAnyH_ready (rs := [8]) (by kernel_rfl) (by simp) ?_
 refine AllReadyH.cons rfl (fun K hK => ?_) AllReadyH.nil
 rw [if_pos (by rfl)]
 go_simp
 refine (HT.out y0 hS0.1).mono ?_
 rintro e' y1 ⟨rfl, hb1⟩
 have hB1 := hB0.trans (hb1.mono hB0.size)
 have hg0 : g < y0.heap.size := Nat.lt_of_lt_of_le Hgl.out hB0.size
 have ho0 : ob < y0.heap.size := Nat.lt_of_lt_of_le hbl hB0.size
 have hS1 : y1.cell? ⟨g, 13, none⟩ = some (.slice (some ⟨ob, 0, none⟩) n1 cap) /\ y1.cell? ⟨g, 7, none⟩ = some (.int .i64 r.at_.k) /\ y1.cell? ⟨g, 8, none⟩ = some (.string r.at_.t) /\ y1.cell? ⟨g, 9, none⟩ = some (.int .u16 r.at_.v) /\ y1.cell? ⟨g, 10, none⟩ = some (.int .i64 r.at_.p.1) /\ y1.cell? ⟨g, 11, none⟩ = some (.int .i64 r.at_.p.2) /\ y1.cell? ⟨ob, i * 9, none⟩ = some (.int .i64 t.k) := ⟨(hb1.cell hg0).trans hS0.1, (hb1.cell hg0).trans hS0.2.1, (hb1.cell hg0).trans hS0.2.2.1, (hb1.cell hg0).trans hS0.2.2.2.1, (hb1.cell hg0).trans hS0.2.2.2.2.1, (hb1.cell hg0).trans hS0.2.2.2.2.2.1, (hb1.cell ho0).trans hS0.2.2.2.2.2.2⟩
 refine hK.out _ _ hS1 (fun hHeld => ?_)
 clear hK K
 try simp only [D.pts]
 refine D.zH (is := [9, 10, 11, 13, 14]) ?_
 iterate 5
  refine D.yH (v := ?_) rfl (by kernel_rfl) (fun c a w h => h) (by rfl) ?_ hHeld ?_
  rotate_left
  ·(intro w hSw; (try dsimp only at hSw); go_simp; try with_reducible rfl)
  simp only [D.pts]
 refine D.eH ?_
 refine wpAnyH_ready (rs := [19]) (by kernel_rfl) (by simp) ?_
 refine AllReadyH.cons rfl (fun K hK => ?_) AllReadyH.nil
 rw [if_pos (by rfl)]
 go_simp
 refine (HM.out y1).mono ?_
 rintro e' y9 ⟨rfl, hb9⟩
 have HE := hid (hB1.trans (hb9.mono hB1.size))
 exact ⟨rfl, rfl, HE.out⟩
theorem stin_any (W0 : World) (pm : Px) (g : Nat) (e : Ps) (W : World) (r : Rd) (q : Rv) (h : RS W0 pm g e W r q) (hb : Bd r) (k : Int) :
  Calls Tryz.prog 253 #[.pointer (some ⟨g, 0, none⟩), .int .i64 k] W fun en w' => (if standIn k r then en = .returned (.tuple #[]) else en = .panicked (flt (r.at_.p, 104))) /\ Below W.heap.size W w' := by
 unfold standIn
 cases hl : r.opn.getLast? with
 | none => exact stin_A W0 pm g e W r q h hb k (by simpa using hl)
 | some t =>
  by_cases hk : t.k = k
  ·simp only [hk, beq_self_eq_true, if_true]
   exact stin_B W0 pm g e W r q h hb k t hl hk
  ·simp only [beq_eq_false_iff_ne.2 hk, Bool.false_eq_true, if_false]
   exact stin_C W0 pm g e W r q h hb k t hl hk
set_option maxHeartbeats 4000000
set_option maxRecDepth 100000
theorem RS.begin {W0 : World} {pm : Px} {g : Nat} {e : Ps} {W W' : World} {r : Rd} {q : Rv} (h : RS W0 pm g e W r q) {v' : Value} {n : Nd} (ht : n.th = []) (he : n.el = [])
  (hr : W'.ownsRow 0 ND 9 v' (r.opn.length + 1) (ncs r.opn q.ys ++ ndc n (.slice none 0 0) (.slice none 0 0))) (gr : S.Grew W W' q.ov v') :
  RS W0 pm g e (W'.setCell ⟨g, 13, none⟩ v') { r with opn := r.opn ++ [n] } { q with ov := v', ys := q.ys ++ [(.slice none 0 0, .slice none 0 0)], c := paint q.c v' 3 } := by
 obtain ⟨a1, a2, a3, a4, a5, a6, a7, a8, a9, a10⟩ := h.grewN h.ns.ow.row h.ns.ow.col (by omega) (by omega) gr
 have ho : ∀ b, b ≠ g -> (W'.setCell ⟨g, 13, none⟩ v').heap[b]? = W'.heap[b]? := fun b hb => heap_setCell_other W' ⟨g, 13, none⟩ b v' hb
 have hm := h.hmn
 have hp := h.hmp
 have hob : ∀ {t : TypeId} {s m : Nat} {u : Value} {xs : List Value}, W'.ownsRow (g + 1) t s u m xs -> (W'.setCell ⟨g, 13, none⟩ v').ownsRow (g + 1) t s u m xs := fun hh => S.own_kept hh (fun k e hk => ho k (by have := (hh.lt k e).1; omega))
 have hns := h.ns.begin ht he hr gr
 refine ⟨h.old, a2.setCell (p := ⟨g, 13, none⟩) h.old _, ?_, h.rest, a3.kept (ho _ (by omega)), a4.kept (ho _ (by omega)), hm, hp, h.mkp, hns.kept (fun b hb => ho b (by have := a9 b hb; omega)), a9, hob a5, h.dlen, fun i d w hd hw => (a6 i d w hd hw).kept (fun b hb => ho b (by have := a9 b (by omega); omega)) (fun _ hb => hb), hob a7, h.blen, fun i d w hd hw => hob (a8 i d w hd hw), ex_kept a10 a1 (by decide) (fun b _ hb => ho b hb)⟩
 exact heap_setCell_same W' g 13 _ _ v' a1
theorem open_val {W0 : World} {pm : Px} {g : Nat} {e : Ps} {W : World} {r : Rd} {q : Rv} (h : RS W0 pm g e W r q) : ∃ p c, q.ov = .slice p r.opn.length c := by
 rcases h.ns.ow.val with ⟨e1, e2⟩ | ⟨g', cap, e1, _⟩
 ·exact ⟨none, 0, by rw [e1, e2]; rfl⟩
 ·exact ⟨_, _, e1⟩
theorem begin_no (W0 : World) (pm : Px) (g : Nat) (e : Ps) (W : World) (r : Rd) (q : Rv) (h : RS W0 pm g e W r q) (hb : Bd r) (k : Int) (hd : ¬ r.opn.length < 32) :
  Calls Tryz.prog 252 #[.pointer (some ⟨g, 0, none⟩), .int .i64 k] W fun en w' => en = .panicked (flt (r.at_.p, 109)) /\ Below W.heap.size W w' := by
 obtain ⟨_, _, _, _, _, _, _, x7, x8, x9, x10, x11, _, x13, _⟩ := rd_cells h.blk
 obtain ⟨pb, cb, hov⟩ := open_val h
 rw [hov] at x13
 have j1 : ¬ (r.opn.length : Int) < 32 := by omega
 have HM := hid (fun w => must_false r.at_ 109 w)
 unfold tkc at HM
 have hSS : W.drew.cell? ⟨g, 13, none⟩ = some (.slice pb r.opn.length cb) /\ W.drew.cell? ⟨g, 7, none⟩ = some (.int .i64 r.at_.k) /\ W.drew.cell? ⟨g, 8, none⟩ = some (.string r.at_.t) /\ W.drew.cell? ⟨g, 9, none⟩ = some (.int .u16 r.at_.v) /\ W.drew.cell? ⟨g, 10, none⟩ = some (.int .i64 r.at_.p.1) /\ W.drew.cell? ⟨g, 11, none⟩ = some (.int .i64 r.at_.p.2) := ⟨x13, x7, x8, x9, x10, x11⟩
 clear hov h hb x7 x8 x9 x10 x11 x13
 go_enter Tryz.func252, Tryz.ntmps252
 go_upto_region 0 with fail
 refine wp_region_held_drew (S := fun wz : World => wz.cell? ⟨g, 13, none⟩ = some (.slice pb r.opn.length cb) /\ wz.cell? ⟨g, 7, none⟩ = some (.int .i64 r.at_.k) /\ wz.cell? ⟨g, 8, none⟩ = some (.string r.at_.t) /\ wz.cell? ⟨g, 9, none⟩ = some (.int .u16 r.at_.v) /\ wz.cell? ⟨g, 10, none⟩ = some (.int .i64 r.at_.p.1) /\ wz.cell? ⟨g, 11, none⟩ = some (.int .i64 r.at_.p.2)) (by kernel_rfl) hSS (fun hHeld => ?_)
 have hB0 : Below W.heap.size W W.drew := ⟨rfl, rfl, rfl, Nat.le_refl _, fun _ _ => rfl⟩
 clear hSS
 generalize W.drew = y0 at *
 refine D.zH (is := [0, 1, 2, 3, 4, 5, 6, 7, 8, 9]) ?_
 iterate 10
  refine D.yH (v := ?_) rfl (by kernel_rfl) (fun c a w h => h) (by rfl) ?_ hHeld ?_
  rotate_left
  ·(intro w hSw; (try dsimp only at hSw); go_simp; try with_reducible rfl)
  simp only [D.pts]
 refine D.eH ?_
 refine wpAnyH_ready (rs := [10]) (by kernel_rfl) (by simp) ?_
 refine AllReadyH.cons rfl (fun K hK => ?_) AllReadyH.nil
 rw [if_pos (by rfl)]
 go_simp
 refine (HM.out y0).mono ?_
 rintro e' y9 ⟨rfl, hb9⟩
 exact ⟨rfl, rfl, hB0.trans (hb9.mono hB0.size)⟩
theorem begin_yes (W0 : World) (pm : Px) (g : Nat) (e : Ps) (W : World) (r : Rd) (q : Rv) (h : RS W0 pm g e W r q) (hb : Bd r) (k : Int) (hd : r.opn.length < 32) :
  Calls Tryz.prog 252 #[.pointer (some ⟨g, 0, none⟩), .int .i64 k] W fun en w' => en = .returned (.tuple #[]) /\ ∃ q', RS W0 pm g e w' { r with opn := r.opn ++ [(⟨k, 0, 0, Y.e0, [], [], false, r.at_.p⟩ : Nd)] } q' := by
 obtain ⟨_, _, _, _, _, _, _, x7, x8, x9, x10, x11, _, x13, _⟩ := rd_cells h.blk
 obtain ⟨pb, cb, hov⟩ := open_val h
 rw [hov] at x13
 have j1 : (r.opn.length : Int) < 32 := by omega
 have HM := hid (fun w => must_true r.at_ 109 w)
 unfold tkc at HM
 have HSX := hid (fun (w : World) (k1 : w.heap[g]? = some (.cells (rdc e r q).toArray RD (0, 0))) => show (w.cell? ⟨g, 13, none⟩ = some (.slice pb r.opn.length cb) /\ w.cell? ⟨g, 7, none⟩ = some (.int .i64 r.at_.k) /\ w.cell? ⟨g, 8, none⟩ = some (.string r.at_.t) /\ w.cell? ⟨g, 9, none⟩ = some (.int .u16 r.at_.v) /\ w.cell? ⟨g, 10, none⟩ = some (.int .i64 r.at_.p.1) /\ w.cell? ⟨g, 11, none⟩ = some (.int .i64 r.at_.p.2)) from ⟨by rw [<- hov]; exact (rd_cells k1).2.2.2.2.2.2.2.2.2.2.2.2.2.1, (rd_cells k1).2.2.2.2.2.2.2.1, (rd_cells k1).2.2.2.2.2.2.2.2.1, (rd_cells k1).2.2.2.2.2.2.2.2.2.1, (rd_cells k1).2.2.2.2.2.2.2.2.2.2.1, (rd_cells k1).2.2.2.2.2.2.2.2.2.2.2.1⟩)
 have hSS : W.drew.cell? ⟨g, 13, none⟩ = some (.slice pb r.opn.length cb) /\ W.drew.cell? ⟨g, 7, none⟩ = some (.int .i64 r.at_.k) /\ W.drew.cell? ⟨g, 8, none⟩ = some (.string r.at_.t) /\ W.drew.cell? ⟨g, 9, none⟩ = some (.int .u16 r.at_.v) /\ W.drew.cell? ⟨g, 10, none⟩ = some (.int .i64 r.at_.p.1) /\ W.drew.cell? ⟨g, 11, none⟩ = some (.int .i64 r.at_.p.2) := ⟨x13, x7, x8, x9, x10, x11⟩
 have HX := hid (And.intro h hov)
 clear hov h hb x7 x8 x9 x10 x11 x13
 go_enter Tryz.func252, Tryz.ntmps252
 go_upto_region 0 with fail
 refine wp_region_held_drew (S := fun wz : World => wz.cell? ⟨g, 13, none⟩ = some (.slice pb r.opn.length cb) /\ wz.cell? ⟨g, 7, none⟩ = some (.int .i64 r.at_.k) /\ wz.cell? ⟨g, 8, none⟩ = some (.string r.at_.t) /\ wz.cell? ⟨g, 9, none⟩ = some (.int .u16 r.at_.v) /\ wz.cell? ⟨g, 10, none⟩ = some (.int .i64 r.at_.p.1) /\ wz.cell? ⟨g, 11, none⟩ = some (.int .i64 r.at_.p.2)) (by kernel_rfl) hSS (fun hHeld => ?_)
 have hB0 : Below W.heap.size W W.drew := ⟨rfl, rfl, rfl, Nat.le_refl _, fun _ _ => rfl⟩
 clear hSS
 generalize W.drew = y0 at *
 refine D.zH (is := [0, 1, 2, 3, 4, 5, 6, 7, 8, 9]) ?_
 iterate 10
  refine D.yH (v := ?_) rfl (by kernel_rfl) (fun c a w h => h) (by rfl) ?_ hHeld ?_
  rotate_left
  ·(intro w hSw; (try dsimp only at hSw); go_simp; try with_reducible rfl)
  simp only [D.pts]
 refine D.eH ?_
 refine wpAnyH_ready (rs := [10]) (by kernel_rfl) (by simp) ?_
 refine AllReadyH.cons rfl (fun K hK => ?_) AllReadyH.nil
 rw [if_pos (by rfl)]
 go_simp
 refine (HM.out y0).mono ?_
 rintro e' w2 ⟨rfl, hb9⟩
 have hR2 := HX.out.1.next (hB0.trans (hb9.mono hB0.size))
 refine hK.out _ _ (HSX.out _ hR2.blk) (fun hHeld => ?_)
 clear hK K
 try simp only [D.pts]
 refine wpAnyH_done (by kernel_rfl) ?_ _
 have HR2 := hid (And.intro hR2 HX.out.2)
 clear hHeld hR2 hB0 hb9 HX HM
 go_upto_region 1 with fail
 obtain ⟨hR2, hov⟩ := HR2.out
 refine wp_region_drop [18] (S := fun wz : World => wz.cell? ⟨g, 13, none⟩ = some (.slice pb r.opn.length cb) /\ wz.cell? ⟨g, 7, none⟩ = some (.int .i64 r.at_.k) /\ wz.cell? ⟨g, 8, none⟩ = some (.string r.at_.t) /\ wz.cell? ⟨g, 9, none⟩ = some (.int .u16 r.at_.v) /\ wz.cell? ⟨g, 10, none⟩ = some (.int .i64 r.at_.p.1) /\ wz.cell? ⟨g, 11, none⟩ = some (.int .i64 r.at_.p.2)) (by kernel_rfl) (HSX.out w2.drew hR2.blk) (fun hHeld => ?_)
 have h : RS W0 pm g e w2.drew r q := hR2.next ⟨rfl, rfl, rfl, Nat.le_refl _, fun _ _ => rfl⟩
 clear HR2 hR2
 generalize w2.drew = y5 at *
 refine D.zP (is := [0, 1, 2, 4, 5, 6, 7, 8]) ?_
 iterate 8
  refine D.yP (v := ?_) rfl (by kernel_rfl) (fun c a w h => h) (by rfl) ?_ (fun _ => hHeld) ?_
  rotate_left
  ·(intro w hSw; clear hSw; go_simp; try with_reducible rfl)
  simp only [D.pts]
 refine D.eP ?_
 refine D.zT (is := [3, 9]) ?_
 iterate 2
  refine D.yT (v := ?_) rfl (by kernel_rfl) (fun c a w h => h) (by rfl) ?_ hHeld ?_
  rotate_left
  ·(intro w hSw; (try dsimp only at hSw); go_simp; try with_reducible rfl)
  simp only [D.pts]
 refine D.eT ?_
 refine D.zP (is := [10, 11]) ?_
 iterate 2
  refine D.yP (v := ?_) rfl (by kernel_rfl) (fun c a w h => h) (by rfl) ?_ (fun _ => hHeld) ?_
  rotate_left
  ·(intro w hSw; clear hSw; go_simp; try with_reducible rfl)
  simp only [D.pts]
 refine D.eP ?_
 obtain ⟨y1, hy1⟩ : ∃ y1, y5.alloc (.cells #[.int .i64 0, .int .i64 0, .int .u16 0, .string ⟨#[]⟩, .slice none 0 0, .slice none 0 0, .bool false, .int .i64 0, .int .i64 0] ND) = y1 := ⟨_, rfl⟩
 have hB01 : Below y5.heap.size y5 y1 := by rw [<- hy1]; exact (Below.refl _ _).alloc (Nat.le_refl _) _
 have hcs : S.Cs y1 (.slice (some ⟨y5.heap.size, 0, none⟩) 1 1) 9 1 zL := by rw [<- hy1]; exact cs_zero y5
 have hR := h.next hB01
 refine wpD_ready (rs := [12]) (by kernel_rfl) (by simp) ?_
 refine AllD.cons rfl (fun K hK => ?_) AllD.nil
 go_simp
 try rw [hy1]
 refine hK.out _ _ (HSX.out _ hR.blk) (fun hHeld => ?_)
 clear hK K
 try simp only [D.pts]
 have hLN1 := hR.ns.ow
 rw [hov] at hLN1
 refine wpD_ready (rs := [13]) (by kernel_rfl) (by simp) ?_
 refine AllD.cons rfl (fun K hK => ?_) AllD.nil
 rw [if_pos (by rfl)]
 refine S.wp_append_row _ _ _ 40 ND zN 9 112 Tryz.underlying40 infoN rfl (by decide) rfl 0 _ r.opn.length (ncs r.opn q.ys) rfl hLN1.row _ 1 zL rfl hcs (by unfold S.room; omega) (by unfold maxLen; omega) (Nat.zero_le _) (fun v2 y2 r2 g2 => ?_)
 obtain ⟨b2, k2, hk2, hv2⟩ : ∃ b2 k2, r.opn.length + 1 <= k2 /\ v2 = .slice (some ⟨b2, 0, none⟩) (r.opn.length + 1) k2 := by
  rcases r2.2 with ⟨_, h0⟩ | ⟨g', c', cur, hv, _, _, hcap, _⟩
  ·omega
  ·exact ⟨g', c', hcap, hv⟩
 subst hv2
 have g3 : S.Grew y1 y2 q.ov (.slice (some ⟨b2, 0, none⟩) (r.opn.length + 1) k2) := by rw [hov]; exact g2
 clear g2
 rw [<- hov] at hLN1
 obtain ⟨a1, _⟩ := hR.grewN hLN1.row hLN1.col (by omega) (by omega) g3
 refine hK.out _ _ (HSX.out _ a1) (fun hHeld => ?_)
 clear hK K
 try simp only [D.pts]
 obtain ⟨cur, hcur, hfit, hrow⟩ := own_put (cells := ndc (⟨k, 0, 0, Y.e0, [], [], false, r.at_.p⟩ : Nd) (.slice none 0 0) (.slice none 0 0)) r2 (ncs_len r.opn q.ys hLN1.len) rfl rfl
 have hb2g : b2 ≠ g := by
  rintro rfl
  exact absurd (show RD = ND from congrArg (fun o : Option Obj => match o with | some (Obj.cells _ t _) => t | _ => 0) (a1.symm.trans hcur)) (by decide)
 have i1 : (r.opn.length : Int) < (r.opn.length : Int) + 1 := by omega
 have i2 : r.opn.length < r.opn.length + 1 := by omega
 refine D.zP (is := [14, 16, 17]) ?_
 iterate 3
  refine D.yP (v := ?_) rfl (by kernel_rfl) (fun c a w h => h) (by rfl) ?_ (fun _ => hHeld) ?_
  rotate_left
  ·(intro w hSw; clear hSw; go_simp; try with_reducible rfl)
  simp only [D.pts]
 refine D.eP ?_
 obtain ⟨ARR, hARR⟩ : ∃ ARR : Array Value, (cur.toList.take (r.opn.length * 9) ++ ndc (⟨k, 0, 0, Y.e0, [], [], false, r.at_.p⟩ : Nd) (.slice none 0 0) (.slice none 0 0) ++ cur.toList.drop (r.opn.length * 9 + 9)).toArray = ARR := ⟨_, rfl⟩
 rw [hARR] at hrow
 have hA2 : (cur.toList.take (r.opn.length * 9) ++ (#[.int .i64 k, .int .i64 0, .int .u16 0, .string ⟨#[]⟩, .slice none 0 0, .slice none 0 0, .bool false, .int .i64 r.at_.p.1, .int .i64 r.at_.p.2] : Array Value).toList ++ cur.toList.drop (r.opn.length * 9 + (#[.int .i64 k, .int .i64 0, .int .u16 0, .string ⟨#[]⟩, .slice none 0 0, .slice none 0 0, .bool false, .int .i64 r.at_.p.1, .int .i64 r.at_.p.2] : Array Value).size)).toArray = ARR := hARR
 have hG := grew_row (b1 := b2) g3 rfl ARR
 have hfin := hR.begin (n := (⟨k, 0, 0, Y.e0, [], [], false, r.at_.p⟩ : Nd)) rfl rfl hrow hG
 have s1 : (y2.setRow b2 ARR).heap[g]? = some (.cells (rdc e r q).toArray RD (0, 0)) := (setRow_other y2 b2 g ARR (Ne.symm hb2g)).trans a1
 have h1c : ∀ v ∈ (#[.int .i64 k, .int .i64 0, .int .u16 0, .string ⟨#[]⟩, .slice none 0 0, .slice none 0 0, .bool false, .int .i64 r.at_.p.1, .int .i64 r.at_.p.2] : Array Value).toList, v.oneCell' = true := fun v hv => by
  simp only [List.mem_cons, List.not_mem_nil, or_false] at hv
  rcases hv with rfl | rfl | rfl | rfl | rfl | rfl | rfl | rfl | rfl <;> rfl
 have HF := hid hfin
 have HA := hid (And.intro hA2 (And.intro hcur (And.intro hfit (And.intro s1 a1))))
 clear hfin hG hA2 hARR hrow s1 hR hLN1 hcs hy1 hB01 g3 r2 h hcur a1 hov
 refine wpD_ready (rs := [15, 18]) (by kernel_rfl) (by simp) ?_
 refine AllD.cons rfl (fun K hK => ?_) (AllD.late rfl (by kernel_rfl) (fun K hK => ?_))
 ·rw [if_pos (by rfl)]
  refine wp_store_at ND (.tmp 29) (.tmp 25) rfl ND cur b2 (r.opn.length * 9) HA.out.2.1 #[.int .i64 k, .int .i64 0, .int .u16 0, .string ⟨#[]⟩, .slice none 0 0, .slice none 0 0, .bool false, .int .i64 r.at_.p.1, .int .i64 r.at_.p.2] HA.out.2.2.1 rfl rfl sizeN h1c ?_
  rw [HA.out.1]
  refine hK.out _ _ (HSX.out _ HA.out.2.2.2.1) (fun hHeld => ?_)
  clear hK K
  try simp only [D.pts]
  have k12 := (HSX.out _ HA.out.2.2.2.1).1
  have f12 := S.frozen_of (y2.setRow b2 ARR) g 13 _ _ HA.out.2.2.2.1
  obtain ⟨y3, hy3⟩ : ∃ y3, y2.setRow b2 ARR = y3 := ⟨_, rfl⟩
  rw [hy3] at k12 f12 hHeld
  have HF3 := HF
  rw [hy3] at HF3
  try rw [hy3]
  clear hy3
  refine wpD_ready (rs := [18]) (by kernel_rfl) (by simp) ?_
  refine AllD.late rfl (by kernel_rfl) (fun K hK => ?_)
  go_simp
  refine hK.out _ _ ?_
  clear hK K
  try simp only [D.pts]
  refine wpD_done (by kernel_rfl) ?_ _
  clear k12 f12 hHeld
  go_wp2
  go_end0
  exact ⟨rfl, _, HF3.out⟩
 ·have k12 := (HSX.out _ HA.out.2.2.2.2).1
  have f12 := S.frozen_of y2 g 13 _ _ HA.out.2.2.2.2
  go_simp
  refine hK.out _ _ ?_
  clear hK K
  try simp only [D.pts]
  have hc4 : (y2.setCell ⟨g, 13, none⟩ (.slice (some ⟨b2, 0, none⟩) (r.opn.length + 1) k2)).heap[b2]? = some (.cells cur ND (0, 0)) := (heap_setCell_other y2 ⟨g, 13, none⟩ b2 _ hb2g).trans HA.out.2.1
  refine wpD_ready (rs := [15]) (by kernel_rfl) (by simp) ?_
  refine AllD.late rfl (by kernel_rfl) (fun K hK => ?_)
  rw [if_pos (by rfl)]
  refine wp_store_at ND (.tmp 29) (.tmp 25) rfl ND cur b2 (r.opn.length * 9) hc4 #[.int .i64 k, .int .i64 0, .int .u16 0, .string ⟨#[]⟩, .slice none 0 0, .slice none 0 0, .bool false, .int .i64 r.at_.p.1, .int .i64 r.at_.p.2] HA.out.2.2.1 rfl rfl sizeN h1c ?_
  rw [HA.out.1, row_cell y2 b2 g 13 ARR _ hb2g]
  refine hK.out _ _ ?_
  clear hK K
  try simp only [D.pts]
  refine wpD_done (by kernel_rfl) ?_ _
  clear k12 f12 hc4
  go_wp2
  go_end0
  exact ⟨rfl, _, HF.out⟩
set_option maxRecDepth 100000
theorem done_ne {c : Nat -> Nat} {i b : Nat} (h : done c i b ≠ 0) : c b ≠ 0 := fun e => h (by unfold done; rw [if_neg (by omega)]; exact e)
theorem RS.shut {W0 : World} {pm : Px} {g : Nat} {e : Ps} {W : World} {r : Rd} {q : Rv} (h : RS W0 pm g e W r q) {ob cap i : Nat} {t : Nd} {y : Value × Value} (hov : q.ov = .slice (some ⟨ob, 0, none⟩) r.opn.length cap) (hi : i + 1 = r.opn.length) (hot : r.opn[i]? = some t) (hoy : q.ys[i]? = some y) (ht : t.th.length <= 140737488355328) (he : t.el.length <= 140737488355328) :
  RS W0 pm g e (W.setCell ⟨g, 13, none⟩ (.slice (some ⟨ob, 0, none⟩) i cap)) { r with opn := r.opn.take i } { q with ov := .slice (some ⟨ob, 0, none⟩) i cap, ys := q.ys.take i, c := done q.c i } /\
   NV (W.setCell ⟨g, 13, none⟩ (.slice (some ⟨ob, 0, none⟩) i cap)) (fun b => done q.c i b = 1) y.1 t.th /\ NV (W.setCell ⟨g, 13, none⟩ (.slice (some ⟨ob, 0, none⟩) i cap)) (fun b => done q.c i b = 1) y.2 t.el := by
 have hns0 := h.ns
 rw [hov] at hns0
 obtain ⟨hns, n1, n2⟩ := hns0.shut hi hot hoy ht he
 have ho : ∀ b, b ≠ g -> (W.setCell ⟨g, 13, none⟩ (.slice (some ⟨ob, 0, none⟩) i cap)).heap[b]? = W.heap[b]? := fun b hb => heap_setCell_other W ⟨g, 13, none⟩ b _ hb
 have hc : ∀ b, done q.c i b ≠ 0 -> g < b := fun b hb => h.cg b (done_ne hb)
 have hm := h.hmn
 have hp := h.hmp
 have hob : ∀ {t : TypeId} {s m : Nat} {u : Value} {xs : List Value}, W.ownsRow (g + 1) t s u m xs -> (W.setCell ⟨g, 13, none⟩ (.slice (some ⟨ob, 0, none⟩) i cap)).ownsRow (g + 1) t s u m xs := fun hh => S.own_kept hh (fun k e hk => ho k (by have := (hh.lt k e).1; omega))
 have kk : ∀ {v : Value} {l : List Nd}, NV W (fun b => done q.c i b = 1) v l -> NV (W.setCell ⟨g, 13, none⟩ (.slice (some ⟨ob, 0, none⟩) i cap)) (fun b => done q.c i b = 1) v l := fun hh => hh.kept (fun b hb => ho b (by have := hc b (by omega); omega)) (fun _ hb => hb)
 refine ⟨⟨h.old, h.bel.setCell (p := ⟨g, 13, none⟩) h.old _, ?_, h.rest, h.known.kept (ho _ (by omega)), h.prims.kept (ho _ (by omega)), hm, hp, h.mkp, hns.kept (fun b hb => ho b (by have := hc b hb; omega)), hc, hob h.drow, h.dlen, fun j d w hd hw => kk ((h.dnv j d w hd hw).kept (fun _ _ => rfl) (fun b hb => by show done q.c i b = 1; unfold done; rw [hb]; simp)), hob h.brow, h.blen, fun j d w hd hw => hob (h.bdat j d w hd hw), ex_kept h.ex h.blk (by decide) (fun b _ hb => ho b hb)⟩, kk n1, kk n2⟩
 exact heap_setCell_same W g 13 _ _ _ h.blk
set_option maxHeartbeats 4000000
set_option maxRecDepth 100000
theorem LO.ex {W : World} {c : Nat -> Nat} {k : Nat} {v : Value} {l : List Nd} (h : LO W c k v l) : ∃ p cp, v = .slice p l.length cp := by
 obtain ⟨ys, h1, _⟩ := h
 rcases h1.val with ⟨e1, e2⟩ | ⟨g', cap, e1, _⟩
 ·exact ⟨none, 0, by rw [e1, e2]; rfl⟩
 ·exact ⟨_, _, e1⟩
theorem close_no (W0 : World) (pm : Px) (g : Nat) (e : Ps) (W : World) (r : Rd) (q : Rv) (h : RS W0 pm g e W r q) (hb : Bd r) (k bk : Int) (hs : standIn k r = false) :
  Calls Tryz.prog 254 #[.pointer (some ⟨g, 0, none⟩), .int .i64 k, .int .i64 bk] W fun en w' => en = .panicked (flt (r.at_.p, 104)) /\ Below W.heap.size W w' := by
 have hc := stin_any W0 pm g e W r q h hb k
 rw [hs] at hc
 clear h hb hs
 go_enter Tryz.func254, Tryz.ntmps254
 go_wp2_with fail
 refine hc.mono ?_
 rintro e' w1 ⟨h1, hb1⟩
 rw [if_neg (by decide)] at h1
 subst h1
 exact ⟨rfl, rfl, hb1⟩
theorem close_yes (W0 : World) (pm : Px) (g : Nat) (e : Ps) (W : World) (r : Rd) (q : Rv) (h : RS W0 pm g e W r q) (hb : Bd r) (k bk : Int) (t : Nd) (hl : r.opn.getLast? = some t) (hk : t.k = k) :
  Calls Tryz.prog 254 #[.pointer (some ⟨g, 0, none⟩), .int .i64 k, .int .i64 bk] W fun en w' => en = .returned (.tuple #[]) /\ ∃ q', RS W0 pm g e w' (add (setK t bk) { r with opn := r.opn.dropLast }) q' := by
 have hc := stin_B W0 pm g e W r q h hb k t hl hk
 obtain ⟨ob, cap, i, y, hov, hi, hot, hoy⟩ := h.last t hl
 have hmem : t ∈ r.opn := List.mem_of_getElem? hot
 have hil : i < 1000000 := by have := hb.opn; omega
 obtain ⟨l1, l2⟩ := hb.lists t hmem
 obtain ⟨p1, c1, hy1⟩ := (h.ns.lists i t y hot hoy).1.ex
 obtain ⟨p2, c2, hy2⟩ := (h.ns.lists i t y hot hoy).2.ex
 have hdl : r.opn.dropLast = r.opn.take i := by rw [List.dropLast_eq_take]; congr 1; omega
 rw [hdl]
 have hbd : Bd { r with opn := r.opn.take i } := ⟨hb.body, by have := hb.opn; show (r.opn.take i).length <= _; rw [List.length_take]; omega, fun n hn => hb.lists n (List.mem_of_mem_take hn)⟩
 have HC := hid (fun (w : World) (q' : Rv) (hR : RS W0 pm g e w r q') (h1 : q'.ov = q.ov) (h2 : q'.ys = q.ys) => show (w.cell? ⟨ob, i * 9 + 0, none⟩ = some (.int .i64 t.k) /\ w.cell? ⟨ob, i * 9 + 1, none⟩ = some (.int .i64 t.op) /\ w.cell? ⟨ob, i * 9 + 2, none⟩ = some (.int .u16 t.v) /\ w.cell? ⟨ob, i * 9 + 3, none⟩ = some (.string t.nm) /\ w.cell? ⟨ob, i * 9 + 4, none⟩ = some (.slice p1 t.th.length c1) /\ w.cell? ⟨ob, i * 9 + 5, none⟩ = some (.slice p2 t.el.length c2) /\ w.cell? ⟨ob, i * 9 + 6, none⟩ = some (.bool t.has) /\ w.cell? ⟨ob, i * 9 + 7, none⟩ = some (.int .i64 t.p.1) /\ w.cell? ⟨ob, i * 9 + 8, none⟩ = some (.int .i64 t.p.2)) from by
  have hnO := hR.ns.ow
  rw [h1, hov, h2] at hnO
  have cc := fun (j : Nat) (x : Value) (hx : (ndc t y.1 y.2)[j]? = some x) => hnO.cell i t y hot hoy j x hx
  rw [hy1, hy2] at cc
  exact ⟨cc 0 _ rfl, cc 1 _ rfl, cc 2 _ rfl, cc 3 _ rfl, cc 4 _ rfl, cc 5 _ rfl, cc 6 _ rfl, cc 7 _ rfl, cc 8 _ rfl⟩)
 have HT := hid (fun (w : World) (hx : w.cell? ⟨g, 13, none⟩ = some (.slice (some ⟨ob, 0, none⟩) (i + 1) cap)) => top_any g ob cap i hil w hx)
 have HO := hid (fun (w : World) (hR : RS W0 pm g e w r q) => show w.cell? ⟨g, 13, none⟩ = some (.slice (some ⟨ob, 0, none⟩) (i + 1) cap) from by
  have := (rd_cells hR.blk).2.2.2.2.2.2.2.2.2.2.2.2.2.1
  rw [hov, <- hi] at this
  exact this)
 have HX := hid (And.intro h (And.intro hov (And.intro hi (And.intro hot (And.intro hoy (And.intro hy1 (And.intro hy2 hbd)))))))
 clear h hb hl hk hov hot hoy hmem hy1 hy2 hdl hbd hi
 go_enter Tryz.func254, Tryz.ntmps254
 go_wp2_with fail
 refine hc.mono ?_
 rintro e' w1 ⟨rfl, hb1⟩
 have HR1 := hid (HX.out.1.next hb1)
 clear hc hb1
 go_wp2_with fail
 refine (HT.out w1 (HO.out w1 HR1.out)).mono ?_
 rintro e' w2 ⟨rfl, hb2⟩
 have hR2 := HR1.out.next hb2
 obtain ⟨z0, z1, z2, z3, z4, z5, z6, z7, z8⟩ := HC.out w2 q hR2 rfl rfl
 rw [Nat.add_zero] at z0
 obtain ⟨W3, hW3⟩ : ∃ W3, w2.alloc (.cells #[.int .i64 bk, .int .i64 t.op, .int .u16 t.v, .string t.nm, .slice p1 t.th.length c1, .slice p2 t.el.length c2, .bool t.has, .int .i64 t.p.1, .int .i64 t.p.2] ND) = W3 := ⟨_, rfl⟩
 have hB3 : Below w2.heap.size w2 W3 := by rw [<- hW3]; exact (Below.refl _ _).alloc (Nat.le_refl _) _
 have hbx : W3.heap[w2.heap.size]? = some (.cells #[.int .i64 bk, .int .i64 t.op, .int .u16 t.v, .string t.nm, .slice p1 t.th.length c1, .slice p2 t.el.length c2, .bool t.has, .int .i64 t.p.1, .int .i64 t.p.2] ND (0, 0)) := by rw [<- hW3]; exact heap_alloc_new w2 _
 have hR3 := hR2.next hB3
 have hnc : q.c w2.heap.size = 0 := by
  by_cases e0 : q.c w2.heap.size = 0
  ·exact e0
  ·have := hR2.ns.lt _ e0; omega
 have HR3 := hid (And.intro hR3 (And.intro hbx hnc))
 have x13 := HO.out W3 hR3
 clear hb2 hR2 hB3 hR3 hbx HR1 hnc
 go_upto_region 3 with fail
 try rw [hW3]
 clear hW3 z0 z1 z2 z3 z4 z5 z6 z7 z8
 have hcap : i + 1 <= cap := by
  obtain ⟨h, hov, hi, _⟩ := HX.out
  have hr := h.ns.ow.row.2
  rw [hov] at hr
  rcases hr with ⟨e1, _⟩ | ⟨g', c', cur, e1, _, _, hcp, _⟩
  ·cases e1
  ·simp only [Value.slice.injEq] at e1
   omega
 obtain ⟨n1, hn1⟩ : ∃ n1 : Nat, i + 1 = n1 := ⟨_, rfl⟩
 rw [hn1] at x13
 have hw : IntKind.i64.wrap ((n1 : Int) - 1) = (i : Int) := by rw [IntKind.wrap_i64]; omega
 have hw2 : wrap64 ((n1 : Int) - 1) = (i : Int) := by unfold wrap64; omega
 have i1 : (i : Int) <= (cap : Int) := by omega
 have i3 : (0 : Int) <= (i : Int) := by omega
 have x13d : W3.drew.cell? ⟨g, 13, none⟩ = some (.slice (some ⟨ob, 0, none⟩) n1 cap) := x13
 clear x13 hn1 hcap
 refine wp_region_drop [14] (S := fun wz : World => wz.cell? ⟨g, 13, none⟩ = some (.slice (some ⟨ob, 0, none⟩) n1 cap)) (by kernel_rfl) x13d (fun hHeld => ?_)
 have hR : RS W0 pm g e W3.drew r q := HR3.out.1.next ⟨rfl, rfl, rfl, Nat.le_refl _, fun _ _ => rfl⟩
 have hbx : W3.drew.heap[w2.heap.size]? = some (.cells #[.int .i64 bk, .int .i64 t.op, .int .u16 t.v, .string t.nm, .slice p1 t.th.length c1, .slice p2 t.el.length c2, .bool t.has, .int .i64 t.p.1, .int .i64 t.p.2] ND (0, 0)) := HR3.out.2.1
 have hnc := HR3.out.2.2
 clear HR3
 generalize W3.drew = y0 at *
 refine D.zP (is := [0, 1, 2, 3, 5, 6, 7]) ?_
 iterate 7
  refine D.yP (v := ?_) rfl (by kernel_rfl) (fun c a w h => h) (by rfl) ?_ (fun _ => hHeld) ?_
  rotate_left
  ·(intro w hSw; clear hSw; go_simp; try with_reducible rfl)
  simp only [D.pts]
 refine D.eP ?_
 refine D.zT (is := [4, 8]) ?_
 iterate 2
  refine D.yT (v := ?_) rfl (by kernel_rfl) (fun c a w h => h) (by rfl) ?_ hHeld ?_
  rotate_left
  ·(intro w hSw; (try dsimp only at hSw); go_simp; try with_reducible rfl)
  simp only [D.pts]
 refine D.eT ?_
 refine D.zP (is := [9, 10, 11, 12, 13]) ?_
 iterate 5
  refine D.yP (v := ?_) rfl (by kernel_rfl) (fun c a w h => h) (by rfl) ?_ (fun _ => hHeld) ?_
  rotate_left
  ·(intro w hSw; clear hSw; go_simp; try with_reducible rfl)
  simp only [D.pts]
 refine D.eP ?_
 have f13 := S.frozen_of y0 g 13 _ _ hR.blk
 refine wpD_ready (rs := [14]) (by kernel_rfl) (by simp) ?_
 refine AllD.late rfl (by kernel_rfl) (fun K hK => ?_)
 go_simp
 refine hK.out _ _ ?_
 clear hK K
 try simp only [D.pts]
 refine wpD_done (by kernel_rfl) ?_ _
 obtain ⟨_, hov, hi, hot, hoy, hy1, hy2, hbd⟩ := HX.out
 obtain ⟨hRs, v1, v2⟩ := hR.shut hov hi hot hoy (by omega) (by omega)
 rw [hy1] at v1
 rw [hy2] at v2
 have hng : w2.heap.size ≠ g := by
  intro e0
  have := hR.blk
  rw [<- e0, hbx] at this
  exact absurd (show ND = RD from congrArg (fun o : Option Obj => match o with | some (Obj.cells _ t _) => t | _ => 0) this) (by decide)
 have hb4 : (y0.setCell ⟨g, 13, none⟩ (.slice (some ⟨ob, 0, none⟩) i cap)).heap[w2.heap.size]? = some (.cells #[.int .i64 bk, .int .i64 t.op, .int .u16 t.v, .string t.nm, .slice p1 t.th.length c1, .slice p2 t.el.length c2, .bool t.has, .int .i64 t.p.1, .int .i64 t.p.2] ND (0, 0)) := (heap_setCell_other y0 ⟨g, 13, none⟩ _ _ hng).trans hbx
 have hadd := add_any W0 pm g e _ _ _ hRs hbd (setK t bk) _ _ v1 v2
 obtain ⟨y4, hy4⟩ : ∃ y4, y0.setCell ⟨g, 13, none⟩ (.slice (some ⟨ob, 0, none⟩) i cap) = y4 := ⟨_, rfl⟩
 rw [hy4] at hb4 hadd
 try rw [hy4]
 have m := fun (j : Nat) (x : Value) (hx : ([.int .i64 bk, .int .i64 t.op, .int .u16 t.v, .string t.nm, .slice p1 t.th.length c1, .slice p2 t.el.length c2, .bool t.has, .int .i64 t.p.1, .int .i64 t.p.2] : List Value)[j]? = some x) => S.cell_of y4 w2.heap.size j [.int .i64 bk, .int .i64 t.op, .int .u16 t.v, .string t.nm, .slice p1 t.th.length c1, .slice p2 t.el.length c2, .bool t.has, .int .i64 t.p.1, .int .i64 t.p.2] ND x hb4 hx
 have m0 := m 0 _ rfl
 have m1 := m 1 _ rfl
 have m2 := m 2 _ rfl
 have m3 := m 3 _ rfl
 have m4 := m 4 _ rfl
 have m5 := m 5 _ rfl
 have m6 := m 6 _ rfl
 have m7 := m 7 _ rfl
 have m8 := m 8 _ rfl
 clear m hHeld hR hRs v1 v2 hb4 hbx hnc hov hi hot hoy hy1 hy2 hbd f13 x13d hy4
 unfold ndc setK at hadd
 go_wp2_with fail
 refine hadd.mono ?_
 rintro e' w9 ⟨rfl, hq⟩
 have HQ := hid hq
 clear hq hadd m0 m1 m2 m3 m4 m5 m6 m7 m8
 go_wp2
 go_end0
 exact ⟨rfl, HQ.out⟩
set_option maxHeartbeats 4000000
set_option maxRecDepth 100000
theorem RS.setO {W0 : World} {pm : Px} {g : Nat} {e : Ps} {W : World} {r : Rd} {q : Rv} (h : RS W0 pm g e W r q) {t n' : Nd} {y : Value × Value} {ob cap i : Nat} (hov : q.ov = .slice (some ⟨ob, 0, none⟩) r.opn.length cap) (hl : r.opn[i]? = some t) (hy : q.ys[i]? = some y) (j : Nat) (x : Value) (hj : j < 9) (hx : (ndc t y.1 y.2).set j x = ndc n' y.1 y.2) (ht : n'.th = t.th) (he : n'.el = t.el) :
  RS W0 pm g e (W.setCell ⟨ob, i * 9 + j, none⟩ x) { r with opn := r.opn.set i n' } q := by
 have hns0 := h.ns
 rw [hov] at hns0
 have hns := hns0.setO i j t n' y x hl hy hj hx ht he
 have ho3 : q.c ob = 3 := hns0.ow.col ob rfl
 have hgo : g < ob := h.cg ob (by omega)
 obtain ⟨co, hco⟩ := hns0.ty ob (by omega)
 have ho : ∀ b, b ≠ ob -> (W.setCell ⟨ob, i * 9 + j, none⟩ x).heap[b]? = W.heap[b]? := fun b hb => heap_setCell_other W ⟨ob, i * 9 + j, none⟩ b x hb
 have hne : ∀ (b : Nat) (o : Obj), W.heap[b]? = some o -> (∀ c, o ≠ Obj.cells c ND (0, 0)) -> b ≠ ob := fun b o hbo hh => by
  rintro rfl
  rw [hco] at hbo
  exact hh co (Option.some.inj hbo).symm
 have row : ∀ {ty : TypeId} {s m : Nat} {u : Value} {xs : List Value}, ty ≠ ND -> W.ownsRow (g + 1) ty s u m xs -> (W.setCell ⟨ob, i * 9 + j, none⟩ x).ownsRow (g + 1) ty s u m xs := fun hty hh => S.own_kept hh fun b e _ => by
  obtain ⟨c, hb⟩ := own_tyD (n := 0) hh b e
  exact ho b (hne b _ hb (fun c' e' => by simp at e'; exact hty e'.2))
 refine ⟨h.old, h.bel.setCell (p := ⟨ob, i * 9 + j, none⟩) (by show W0.heap.size <= ob; have := h.old; omega) _, ?_, h.rest, h.known.kept (ho _ (hne _ _ h.known (fun c e => by simp at e))), h.prims.kept (ho _ (hne _ _ h.prims (fun c e => by simp at e))), h.hmn, h.hmp, h.mkp, by rw [hov]; exact hns, h.cg, row (by decide) h.drow, h.dlen, fun i d w hd hw => (h.dnv i d w hd hw).kept (fun b hb => ho b (by rintro rfl; omega)) (fun _ hb => hb), row (by decide) h.brow, h.blen, fun i d w hd hw => row (by decide) (h.bdat i d w hd hw), ex_kept h.ex hco (by decide) (fun b _ hb => ho b hb)⟩
 rw [ho g (by omega)]
 exact h.blk
theorem frz2 {W : World} {b : Nat} {cs : Array Value} {t : TypeId} (h : W.heap[b]? = some (.cells cs t (0, 0))) (i : Nat) : W.frozen? ⟨b, i, none⟩ = false := by simp [World.frozen?, h]
theorem while_no (W0 : World) (pm : Px) (g : Nat) (e : Ps) (W : World) (r : Rd) (q : Rv) (h : RS W0 pm g e W r q) (hb : Bd r) (hs : standIn 0 r = false) :
  Calls Tryz.prog 220 #[.pointer (some ⟨g, 0, none⟩)] W fun en w' => en = .panicked (flt (r.at_.p, 104)) /\ Below W.heap.size W w' := by
 have hc := stin_any W0 pm g e W r q h hb 0
 rw [hs] at hc
 clear h hb hs
 go_enter Tryz.func220, Tryz.ntmps220
 go_wp2_with fail
 refine hc.mono ?_
 rintro e' w1 ⟨h1, hb1⟩
 rw [if_neg (by decide)] at h1
 subst h1
 exact ⟨rfl, rfl, hb1⟩
theorem while_yes (W0 : World) (pm : Px) (g : Nat) (e : Ps) (W : World) (r : Rd) (q : Rv) (h : RS W0 pm g e W r q) (hb : Bd r) (t : Nd) (hl : r.opn.getLast? = some t) (hk : t.k = 0) :
  Calls Tryz.prog 220 #[.pointer (some ⟨g, 0, none⟩)] W fun en w' => en = .returned (.tuple #[]) /\ ∃ q', RS W0 pm g e w' { r with opn := r.opn.dropLast ++ [setK t 6] } q' := by
 have hc := stin_B W0 pm g e W r q h hb 0 t hl hk
 obtain ⟨ob, cap, i, y, hov, hi, hot, hoy⟩ := h.last t hl
 have hil : i < 1000000 := by have := hb.opn; omega
 have HT := hid (fun (w : World) (hx : w.cell? ⟨g, 13, none⟩ = some (.slice (some ⟨ob, 0, none⟩) (i + 1) cap)) => top_any g ob cap i hil w hx)
 have HO := hid (fun (w : World) (hR : RS W0 pm g e w r q) => show w.cell? ⟨g, 13, none⟩ = some (.slice (some ⟨ob, 0, none⟩) (i + 1) cap) from by
  have := (rd_cells hR.blk).2.2.2.2.2.2.2.2.2.2.2.2.2.1
  rw [hov, <- hi] at this
  exact this)
 have HZ := hid (fun (w : World) (hR : RS W0 pm g e w r q) => show (w.cell? ⟨ob, i * 9, none⟩ = some (.int .i64 t.k) /\ w.cell? ⟨ob, i * 9 + 6, none⟩ = some (.bool t.has) /\ w.frozen? ⟨ob, i * 9, none⟩ = false /\ w.frozen? ⟨ob, i * 9 + 6, none⟩ = false) from by
  have hnO := hR.ns.ow
  rw [hov] at hnO
  obtain ⟨co, hco⟩ := hR.ns.ty ob (by rw [hnO.col ob rfl]; omega)
  exact ⟨hnO.cell i t y hot hoy 0 _ rfl, hnO.cell i t y hot hoy 6 _ rfl, frz2 hco _, frz2 hco _⟩)
 have HX := hid (And.intro h (And.intro hov (And.intro hi (And.intro hot hoy))))
 have HS := hid (show r.opn.set i (setK t 6) = r.opn.dropLast ++ [setK t 6] from set_last _ _ _ hi)
 clear h hb hl hk hov hot hoy hi
 go_enter Tryz.func220, Tryz.ntmps220
 go_wp2_with fail
 refine hc.mono ?_
 rintro e' w1 ⟨rfl, hb1⟩
 have HR1 := hid (HX.out.1.next hb1)
 clear hc hb1
 go_wp2_with fail
 refine (HT.out w1 (HO.out w1 HR1.out)).mono ?_
 rintro e' w2 ⟨rfl, hb2⟩
 have hR2 := HR1.out.next hb2
 obtain ⟨z0, _, f0, _⟩ := HZ.out w2 hR2
 have HR2 := hid hR2
 clear hb2 hR2 HR1 HT HO HZ
 go_wp2
 go_end0
 obtain ⟨_, hov, hi, hot, hoy⟩ := HX.out
 have := HR2.out.setO (n' := setK t 6) hov hot hoy 0 (.int .i64 6) (by omega) rfl rfl rfl
 rw [HS.out, Nat.add_zero] at this
 exact ⟨rfl, _, this⟩
theorem else_no (W0 : World) (pm : Px) (g : Nat) (e : Ps) (W : World) (r : Rd) (q : Rv) (h : RS W0 pm g e W r q) (hb : Bd r) (hs : standIn 4 r = false) :
  Calls Tryz.prog 215 #[.pointer (some ⟨g, 0, none⟩)] W fun en w' => en = .panicked (flt (r.at_.p, 104)) /\ Below W.heap.size W w' := by
 have hc := stin_any W0 pm g e W r q h hb 4
 rw [hs] at hc
 clear h hb hs
 go_enter Tryz.func215, Tryz.ntmps215
 go_wp2_with fail
 refine hc.mono ?_
 rintro e' w1 ⟨h1, hb1⟩
 rw [if_neg (by decide)] at h1
 subst h1
 exact ⟨rfl, rfl, hb1⟩
theorem else_has (W0 : World) (pm : Px) (g : Nat) (e : Ps) (W : World) (r : Rd) (q : Rv) (h : RS W0 pm g e W r q) (hb : Bd r) (t : Nd) (hl : r.opn.getLast? = some t) (hk : t.k = 4) (hh : t.has = true) :
  Calls Tryz.prog 215 #[.pointer (some ⟨g, 0, none⟩)] W fun en w' => en = .panicked (flt (r.at_.p, 104)) /\ Below W.heap.size W w' := by
 have hc := stin_B W0 pm g e W r q h hb 4 t hl hk
 obtain ⟨ob, cap, i, y, hov, hi, hot, hoy⟩ := h.last t hl
 have hil : i < 1000000 := by have := hb.opn; omega
 have HT := hid (fun (w : World) (hx : w.cell? ⟨g, 13, none⟩ = some (.slice (some ⟨ob, 0, none⟩) (i + 1) cap)) => top_any g ob cap i hil w hx)
 have HO := hid (fun (w : World) (hR : RS W0 pm g e w r q) => show w.cell? ⟨g, 13, none⟩ = some (.slice (some ⟨ob, 0, none⟩) (i + 1) cap) from by
  have := (rd_cells hR.blk).2.2.2.2.2.2.2.2.2.2.2.2.2.1
  rw [hov, <- hi] at this
  exact this)
 have HZ := hid (fun (w : World) (hR : RS W0 pm g e w r q) => show (w.cell? ⟨ob, i * 9, none⟩ = some (.int .i64 t.k) /\ w.cell? ⟨ob, i * 9 + 6, none⟩ = some (.bool t.has) /\ w.frozen? ⟨ob, i * 9, none⟩ = false /\ w.frozen? ⟨ob, i * 9 + 6, none⟩ = false) from by
  have hnO := hR.ns.ow
  rw [hov] at hnO
  obtain ⟨co, hco⟩ := hR.ns.ty ob (by rw [hnO.col ob rfl]; omega)
  exact ⟨hnO.cell i t y hot hoy 0 _ rfl, hnO.cell i t y hot hoy 6 _ rfl, frz2 hco _, frz2 hco _⟩)
 have HX := hid (And.intro h (And.intro hov (And.intro hi (And.intro hot hoy))))
 have HS := hid (show r.opn.set i (setHas t) = r.opn.dropLast ++ [setHas t] from set_last _ _ _ hi)
 have HM := hid (fun w => must_false r.at_ 104 w)
 unfold tkc at HM
 have HSX := hid (fun (w : World) (hR : RS W0 pm g e w r q) => show (w.cell? ⟨ob, i * 9 + 6, none⟩ = some (.bool true) /\ w.cell? ⟨g, 13, none⟩ = some (.slice (some ⟨ob, 0, none⟩) (i + 1) cap) /\ w.cell? ⟨g, 7, none⟩ = some (.int .i64 r.at_.k) /\ w.cell? ⟨g, 8, none⟩ = some (.string r.at_.t) /\ w.cell? ⟨g, 9, none⟩ = some (.int .u16 r.at_.v) /\ w.cell? ⟨g, 10, none⟩ = some (.int .i64 r.at_.p.1) /\ w.cell? ⟨g, 11, none⟩ = some (.int .i64 r.at_.p.2)) from by
  obtain ⟨_, _, _, _, _, _, _, x7, x8, x9, x10, x11, _⟩ := rd_cells hR.blk
  exact ⟨by rw [<- hh]; exact (HZ.out w hR).2.1, HO.out w hR, x7, x8, x9, x10, x11⟩)
 have Hh := hid hh
 clear h hb hl hk hov hot hoy hi hh
 go_enter Tryz.func215, Tryz.ntmps215
 go_wp2_with fail
 refine hc.mono ?_
 rintro e' w1 ⟨rfl, hb1⟩
 have HR1 := hid (HX.out.1.next hb1)
 have HB1 := hid hb1
 clear hc hb1
 go_upto_region 1 with fail
 have hR : RS W0 pm g e w1.drew r q := HR1.out.next ⟨rfl, rfl, rfl, Nat.le_refl _, fun _ _ => rfl⟩
 have hB0 : Below w1.heap.size w1 w1.drew := ⟨rfl, rfl, rfl, Nat.le_refl _, fun _ _ => rfl⟩
 have hB1 : Below W.heap.size W w1.drew := HB1.out.trans (hB0.mono HB1.out.size)
 refine wp_region_held_drew (S := fun wz : World => wz.cell? ⟨ob, i * 9 + 6, none⟩ = some (.bool true) /\ wz.cell? ⟨g, 13, none⟩ = some (.slice (some ⟨ob, 0, none⟩) (i + 1) cap) /\ wz.cell? ⟨g, 7, none⟩ = some (.int .i64 r.at_.k) /\ wz.cell? ⟨g, 8, none⟩ = some (.string r.at_.t) /\ wz.cell? ⟨g, 9, none⟩ = some (.int .u16 r.at_.v) /\ wz.cell? ⟨g, 10, none⟩ = some (.int .i64 r.at_.p.1) /\ wz.cell? ⟨g, 11, none⟩ = some (.int .i64 r.at_.p.2)) (by kernel_rfl) (HSX.out _ hR) (fun hHeld => ?_)
 clear HR1 HB1 hB0
 generalize w1.drew = y0 at *
 refine D.zH (is := [0, 6, 7, 8, 9]) ?_
 iterate 5
  refine D.yH (v := ?_) rfl (by kernel_rfl) (fun c a w h => h) (by rfl) ?_ hHeld ?_
  rotate_left
  ·(intro w hSw; (try dsimp only at hSw); go_simp; try with_reducible rfl)
  simp only [D.pts]
 refine D.eH ?_
 refine wpAnyH_ready (rs := [1]) (by kernel_rfl) (by simp) ?_
 refine AllReadyH.cons rfl (fun K hK => ?_) AllReadyH.nil
 rw [if_pos (by rfl)]
 go_simp
 refine (HT.out y0 (HO.out y0 hR)).mono ?_
 rintro e' y1 ⟨rfl, hb1⟩
 have hR1 := hR.next hb1
 have hB2 := hB1.trans (hb1.mono hB1.size)
 refine hK.out _ _ (HSX.out _ hR1) (fun hHeld => ?_)
 clear hK K
 try simp only [D.pts]
 refine D.zH (is := [2, 3, 4, 5]) ?_
 iterate 4
  refine D.yH (v := ?_) rfl (by kernel_rfl) (fun c a w h => h) (by rfl) ?_ hHeld ?_
  rotate_left
  ·(intro w hSw; (try dsimp only at hSw); go_simp; try with_reducible rfl)
  simp only [D.pts]
 refine D.eH ?_
 refine wpAnyH_ready (rs := [10]) (by kernel_rfl) (by simp) ?_
 refine AllReadyH.cons rfl (fun K hK => ?_) AllReadyH.nil
 rw [if_pos (by rfl)]
 go_simp
 refine (HM.out y1).mono ?_
 rintro e' y9 ⟨rfl, hb9⟩
 exact ⟨rfl, rfl, hB2.trans (hb9.mono hB2.size)⟩
theorem else_yes (W0 : World) (pm : Px) (g : Nat) (e : Ps) (W : World) (r : Rd) (q : Rv) (h : RS W0 pm g e W r q) (hb : Bd r) (t : Nd) (hl : r.opn.getLast? = some t) (hk : t.k = 4) (hh : t.has = false) :
  Calls Tryz.prog 215 #[.pointer (some ⟨g, 0, none⟩)] W fun en w' => en = .returned (.tuple #[]) /\ ∃ q', RS W0 pm g e w' { r with opn := r.opn.dropLast ++ [setHas t] } q' := by
 have hc := stin_B W0 pm g e W r q h hb 4 t hl hk
 obtain ⟨ob, cap, i, y, hov, hi, hot, hoy⟩ := h.last t hl
 have hil : i < 1000000 := by have := hb.opn; omega
 have HT := hid (fun (w : World) (hx : w.cell? ⟨g, 13, none⟩ = some (.slice (some ⟨ob, 0, none⟩) (i + 1) cap)) => top_any g ob cap i hil w hx)
 have HO := hid (fun (w : World) (hR : RS W0 pm g e w r q) => show w.cell? ⟨g, 13, none⟩ = some (.slice (some ⟨ob, 0, none⟩) (i + 1) cap) from by
  have := (rd_cells hR.blk).2.2.2.2.2.2.2.2.2.2.2.2.2.1
  rw [hov, <- hi] at this
  exact this)
 have HZ := hid (fun (w : World) (hR : RS W0 pm g e w r q) => show (w.cell? ⟨ob, i * 9, none⟩ = some (.int .i64 t.k) /\ w.cell? ⟨ob, i * 9 + 6, none⟩ = some (.bool t.has) /\ w.frozen? ⟨ob, i * 9, none⟩ = false /\ w.frozen? ⟨ob, i * 9 + 6, none⟩ = false) from by
  have hnO := hR.ns.ow
  rw [hov] at hnO
  obtain ⟨co, hco⟩ := hR.ns.ty ob (by rw [hnO.col ob rfl]; omega)
  exact ⟨hnO.cell i t y hot hoy 0 _ rfl, hnO.cell i t y hot hoy 6 _ rfl, frz2 hco _, frz2 hco _⟩)
 have HX := hid (And.intro h (And.intro hov (And.intro hi (And.intro hot hoy))))
 have HS := hid (show r.opn.set i (setHas t) = r.opn.dropLast ++ [setHas t] from set_last _ _ _ hi)
 have HM := hid (fun w => must_true r.at_ 104 w)
 unfold tkc at HM
 have HSX := hid (fun (w : World) (hR : RS W0 pm g e w r q) => show (w.cell? ⟨ob, i * 9 + 6, none⟩ = some (.bool false) /\ w.cell? ⟨g, 13, none⟩ = some (.slice (some ⟨ob, 0, none⟩) (i + 1) cap) /\ w.cell? ⟨g, 7, none⟩ = some (.int .i64 r.at_.k) /\ w.cell? ⟨g, 8, none⟩ = some (.string r.at_.t) /\ w.cell? ⟨g, 9, none⟩ = some (.int .u16 r.at_.v) /\ w.cell? ⟨g, 10, none⟩ = some (.int .i64 r.at_.p.1) /\ w.cell? ⟨g, 11, none⟩ = some (.int .i64 r.at_.p.2)) from by
  obtain ⟨_, _, _, _, _, _, _, x7, x8, x9, x10, x11, _⟩ := rd_cells hR.blk
  exact ⟨by rw [<- hh]; exact (HZ.out w hR).2.1, HO.out w hR, x7, x8, x9, x10, x11⟩)
 have Hh := hid hh
 clear h hb hl hk hov hot hoy hi hh
 go_enter Tryz.func215, Tryz.ntmps215
 go_wp2_with fail
 refine hc.mono ?_
 rintro e' w1 ⟨rfl, hb1⟩
 have HR1 := hid (HX.out.1.next hb1)
 have HB1 := hid hb1
 clear hc hb1
 go_upto_region 1 with fail
 have hR : RS W0 pm g e w1.drew r q := HR1.out.next ⟨rfl, rfl, rfl, Nat.le_refl _, fun _ _ => rfl⟩
 have hB0 : Below w1.heap.size w1 w1.drew := ⟨rfl, rfl, rfl, Nat.le_refl _, fun _ _ => rfl⟩
 have hB1 : Below W.heap.size W w1.drew := HB1.out.trans (hB0.mono HB1.out.size)
 refine wp_region_held_drew (S := fun wz : World => wz.cell? ⟨ob, i * 9 + 6, none⟩ = some (.bool false) /\ wz.cell? ⟨g, 13, none⟩ = some (.slice (some ⟨ob, 0, none⟩) (i + 1) cap) /\ wz.cell? ⟨g, 7, none⟩ = some (.int .i64 r.at_.k) /\ wz.cell? ⟨g, 8, none⟩ = some (.string r.at_.t) /\ wz.cell? ⟨g, 9, none⟩ = some (.int .u16 r.at_.v) /\ wz.cell? ⟨g, 10, none⟩ = some (.int .i64 r.at_.p.1) /\ wz.cell? ⟨g, 11, none⟩ = some (.int .i64 r.at_.p.2)) (by kernel_rfl) (HSX.out _ hR) (fun hHeld => ?_)
 clear HR1 HB1 hB0
 generalize w1.drew = y0 at *
 refine D.zH (is := [0, 6, 7, 8, 9]) ?_
 iterate 5
  refine D.yH (v := ?_) rfl (by kernel_rfl) (fun c a w h => h) (by rfl) ?_ hHeld ?_
  rotate_left
  ·(intro w hSw; (try dsimp only at hSw); go_simp; try with_reducible rfl)
  simp only [D.pts]
 refine D.eH ?_
 refine wpAnyH_ready (rs := [1]) (by kernel_rfl) (by simp) ?_
 refine AllReadyH.cons rfl (fun K hK => ?_) AllReadyH.nil
 rw [if_pos (by rfl)]
 go_simp
 refine (HT.out y0 (HO.out y0 hR)).mono ?_
 rintro e' y1 ⟨rfl, hb1⟩
 have hR1 := hR.next hb1
 have hB2 := hB1.trans (hb1.mono hB1.size)
 refine hK.out _ _ (HSX.out _ hR1) (fun hHeld => ?_)
 clear hK K
 try simp only [D.pts]
 refine D.zH (is := [2, 3, 4, 5]) ?_
 iterate 4
  refine D.yH (v := ?_) rfl (by kernel_rfl) (fun c a w h => h) (by rfl) ?_ hHeld ?_
  rotate_left
  ·(intro w hSw; (try dsimp only at hSw); go_simp; try with_reducible rfl)
  simp only [D.pts]
 refine D.eH ?_
 refine wpAnyH_ready (rs := [10]) (by kernel_rfl) (by simp) ?_
 refine AllReadyH.cons rfl (fun K hK => ?_) AllReadyH.nil
 rw [if_pos (by rfl)]
 go_simp
 refine (HM.out y1).mono ?_
 rintro e' y9 ⟨rfl, hb9⟩
 have hR9 := hR1.next hb9
 refine hK.out _ _ (HSX.out _ hR9) (fun hHeld => ?_)
 clear hK K
 try simp only [D.pts]
 refine wpAnyH_done (by kernel_rfl) ?_ _
 have HR9 := hid hR9
 clear hHeld hR hR1 hR9 hB1 hB2 hb1 hb9 HM HSX
 go_wp2_with fail
 refine (HT.out y9 (HO.out y9 HR9.out)).mono ?_
 rintro e' w2 ⟨rfl, hb2⟩
 have hR2 := HR9.out.next hb2
 obtain ⟨_, z0, _, f0⟩ := HZ.out w2 hR2
 rw [Hh.out] at z0
 have HR2 := hid hR2
 clear hb2 hR2 HR9 HT HO HZ
 go_wp2
 go_end0
 obtain ⟨_, hov, hi, hot, hoy⟩ := HX.out
 have := HR2.out.setO (n' := setHas t) hov hot hoy 6 (.bool true) (by omega) rfl rfl rfl
 rw [HS.out] at this
 exact ⟨rfl, _, this⟩
end Go.Proofs.YtdnklgceghllaaaGreatDoor.D
