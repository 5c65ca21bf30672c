import Derived.Test.YtgponcjjnjpfkaaGreatG6
import Derived.Deep.DeepCutAuto
import Derived.Laws.ResultCell
import Derived.RangeFuncNested
import Derived.RangeFuncBound
import Derived.RangeFuncCalls
import Derived.RangeFuncLeaves
import Derived.Shelf.Abstract
import Derived.Shelf.RegionOpen
import Derived.OwnWalkIn
import Derived.TacticsInMore
import Derived.LoopNIn
import Derived.LoopIn
import Derived.Laws.StructEq
import Derived.Deep.RegionHeld
namespace Go.Proofs.YtgponcjjnjpfkaaGreat.M
open Go.RowKit
open Go.Proofs
set_option linter.unusedVariables false
theorem new_end {w w2 wM wr : World} {gr gc : Nat} {v : Value} {bs : List (Int × List UInt8)} {gs : List (Nat × Nat)} (hb : Below w.heap.size w w2) (hNW : NW w2.drew wM gr gc) (hBw : Below w.heap.size w wr)
    (hC : CR wM wr v (.slice (some ⟨gr, 0, none⟩) 16384 16384) (.slice (some ⟨gc, 0, none⟩) 3072 3072) ms0 (.slice none 0 0) bs gs) :
    HasR wr (fun k => w.heap.size ≤ k) wM.heap.size bs ms0 ∧ Below w.heap.size w wr := by
  have z1 := hb.size
  have z2 : w2.heap.size ≤ wM.heap.size := hNW.bel.size
  have lr : w2.heap.size ≤ gr := hNW.lr
  have lc : w2.heap.size ≤ gc := hNW.lc
  have hr := lt_of hNW.ram
  have hc := lt_of hNW.scr
  have hmem : ∀ y ∈ gs, wM.heap.size + 1 ≤ y.1 := by
    intro y hy
    obtain ⟨i, hi, e⟩ := List.mem_iff_getElem.1 hy
    have hb' : i < bs.length := by rw [← hC.banks.len]; exact hi
    exact (hC.banks.dat i bs[i] y (List.getElem?_eq_getElem hb') (by rw [List.getElem?_eq_getElem hi, e])).2.2.2
  refine ⟨⟨v, gr, gc, gs, .slice none 0 0, hC.blk, ⟨hC.banks.len, own_mono hC.banks.row (Nat.zero_le _), fun i t g a c => by obtain ⟨x1, x2, x3, _⟩ := hC.banks.dat i t g a c; exact ⟨x1, x2, x3, Nat.zero_le _⟩, hC.banks.nd⟩, (hC.bel.block _ hr).trans hNW.ram, (hC.bel.block _ hc).trans hNW.scr, fl_len 16384 [] 0 (by simp) (by simp), fl_len 3072 [] 0 (by simp) (by simp), World.ownsRow_nil _ _ _ _, ?_, ?_, hNW.ne, ?_, ?_, ?_, ?_, ?_, ?_⟩, hBw⟩
  · intro y hy; have := hmem y hy; omega
  · intro y hy; have := hmem y hy; omega
  · show w.heap.size ≤ wM.heap.size; omega
  · intro g e; have := (hC.banks.row.lt g e).1; show w.heap.size ≤ g; omega
  · intro y hy; have := hmem y hy; show w.heap.size ≤ y.1; omega
  · show w.heap.size ≤ gr; omega
  · show w.heap.size ≤ gc; omega
  · intro g e; simp [Value.ownBlock] at e
set_option maxHeartbeats 4000000
set_option maxRecDepth 100000
theorem rnew_yes (p : Option Addr) (c : Nat) (bs : List (Int × List UInt8)) (hl : bs.length * 32 ≤ room) (w : World) (h : BnS w p bs) (hm : mayB (-1) bs = true) (hd : ∀ t ∈ bs, t.2.length ≤ 16384) :
    Calls Tryz.prog 44 #[.slice p bs.length c] w fun e w' => ∃ b, e = .returned (.tuple #[.pointer (some ⟨b, 0, none⟩), .int .i64 0]) ∧ HasR w' (fun k => w.heap.size ≤ k) b (padB bs) ms0 ∧ Below w.heap.size w w' := by
  have hmy := mayBanks_any p c bs (by omega) w h
  rw [hm] at hmy
  have hmk1 : ∀ W : World, (Instr.makeSlice 80 (.int .i64 16384) (.int .i64 16384)).run Tryz.prog W = .ok (.slice (some ⟨W.heap.size, 0, none⟩) 16384 16384) (W.alloc (.cells (bv (fl 16384 [] 0)).toArray 5)) := fun W => by
    rw [← made_eq 16384 []]; exact run_make_row' (P := Tryz.prog) 80 5 (.int .u8 0) 1 Tryz.underlying80 info5 rfl .i64 .i64 16384 (by omega) (by omega) W
  have hmk2 : ∀ W : World, (Instr.makeSlice 80 (.int .i64 3072) (.int .i64 3072)).run Tryz.prog W = .ok (.slice (some ⟨W.heap.size, 0, none⟩) 3072 3072) (W.alloc (.cells (bv (fl 3072 [] 0)).toArray 5)) := fun W => by
    rw [← made_eq 3072 []]; exact run_make_row' (P := Tryz.prog) 80 5 (.int .u8 0) 1 Tryz.underlying80 info5 rfl .i64 .i64 3072 (by omega) (by omega) W
  have HH : Hid _ := h
  clear h hm
  unfold room at hl
  go_enter Tryz.func44, Tryz.ntmps44
  go_wp2_with fail
  refine hmy.mono ?_
  rintro e w2 ⟨rfl, hb⟩
  have HB : Hid _ := hb
  clear hb hmy
  go_wp2_with fail
  go_region
  all_goals
    go_wp2_with fail
    clear hmk1 hmk2
    go_loopw [16] (fun i wr => ∃ (wM : World) (k gr gc : Nat) (v : Value) (gs : List (Nat × Nat)), wM.heap.size = w2.heap.size + 1 + 1 ∧ NW w2.drew wM gr gc ∧ k ≤ bs.length ∧ i = .int .i64 (k : Int) ∧ CR wM wr v (.slice (some ⟨gr, 0, none⟩) 16384 16384) (.slice (some ⟨gc, 0, none⟩) 3072 3072) ms0 (.slice none 0 0) (padB (bs.take k)) gs) (fun i _ => bs.length - (intOf i).toNat)
    case atStart =>
      first
        | exact ⟨_, 0, _, _, _, [], by simp, nw_a w2.drew, by omega, rfl, CR.start ((w2.drew.alloc (.cells (bv (fl 16384 [] 0)).toArray 5)).alloc (.cells (bv (fl 3072 [] 0)).toArray 5)) _ _ ms0 _⟩
        | exact ⟨_, 0, _, _, _, [], by simp, nw_b w2.drew, by omega, rfl, CR.start ((w2.drew.alloc (.cells (bv (fl 3072 [] 0)).toArray 5)).alloc (.cells (bv (fl 16384 [] 0)).toArray 5)) _ _ ms0 _⟩
    case round =>
      obtain ⟨wM, k, gr, gc, v, gs, hNM, hNW, hk, rfl, hC⟩ := hrel
      rw [← hNM]
      have HNM : Hid _ := hNM
      have HNW : Hid _ := hNW
      have hBM : Below w.heap.size w wM := HB.out.drew.trans (hNW.bel.mono HB.out.size)
      have hBw : Below w.heap.size w wr := hBM.trans (hC.bel.mono hBM.size)
      clear hNM hNW hBM
      by_cases hlt : k < bs.length
      · have i1 : (k : Int) < bs.length := by omega
        obtain ⟨bb, o, dv, rfl, e1, e2, e3, e4⟩ := (BnS.below HH.out hBw) k bs[k] (List.getElem?_eq_getElem hlt)
        have hdl := hd bs[k] (List.getElem_mem hlt)
        clear hBw
        have htk : padB (bs.take (k + 1)) = padB (bs.take k) ++ [((bs[k]).1, padN 16384 (bs[k]).2)] := by rw [List.take_succ_eq_append_getElem hlt, padB_snoc]
        generalize bs[k] = t at *
        have hbL : Below wr.heap.size wr (wr.alloc (.cells #[.int .i64 t.1, dv] 82)).drew := ((Below.refl _ _).alloc (Nat.le_refl _) _).drew
        have hv2 : (wr.alloc (.cells #[.int .i64 t.1, dv] 82)).drew.heap[wr.heap.size]? = some (.cells [.int .i64 t.1, dv].toArray 82 (0, 0)) := heap_alloc_new wr _
        have hfu := full_any dv t.2 16384 (by omega) hdl (wr.alloc (.cells #[.int .i64 t.1, dv] 82)).drew (Sl.below e3 hbL)
        have hN := hC.siz
        have hz1 : (wr.alloc (.cells #[.int .i64 t.1, dv] 82)).drew.heap.size = wr.heap.size + 1 := by simp
        have hne : wr.heap.size ≠ wM.heap.size := by omega
        have cN : (wr.alloc (.cells #[.int .i64 t.1, dv] 82)).cell? ⟨wM.heap.size, 0, none⟩ = some v := cell_of _ _ 0 _ 130 _ ((Below.heap_alloc wr _ _ (by omega)).trans hC.blk) rfl
        have s1 : (wr.alloc (.cells #[.int .i64 t.1, dv] 82)).drew.cell? ⟨wr.heap.size, 0, none⟩ = some (.int .i64 t.1) ∧ (wr.alloc (.cells #[.int .i64 t.1, dv] 82)).drew.cell? ⟨wr.heap.size, 1, none⟩ = some dv := ⟨cell_of _ _ 0 _ 82 _ hv2 rfl, cell_of _ _ 1 _ 82 _ hv2 rfl⟩
        obtain ⟨vp, vc, hvf⟩ := own_form hC.banks.row
        subst hvf
        have hlk : (padB (bs.take k)).length = k := by simp [padB]; omega
        rw [hlk] at hC cN
        have hend : ∀ w2 : World, Below (wr.alloc (.cells #[.int .i64 t.1, dv] 82)).drew.heap.size (wr.alloc (.cells #[.int .i64 t.1, dv] 82)).drew w2 → B5 w2 (wr.heap.size + 1) (padN 16384 t.2) → w2.heap.size = wr.heap.size + 1 + 1 →
            w2.cell? ⟨wM.heap.size, 0, none⟩ = some (.slice vp k vc) ∧ (w2.cell? ⟨wr.heap.size, 0, none⟩ = some (.int .i64 t.1) ∧ w2.cell? ⟨wr.heap.size, 1, none⟩ = some dv) ∧
            ((w2.alloc (.cells #[.int .i64 t.1, .slice (some ⟨wr.heap.size + 1, 0, none⟩) 16384 16384] 82)).cell? ⟨wM.heap.size, 0, none⟩ = some (.slice vp k vc)) ∧
            ((w2.alloc (.cells #[.int .i64 t.1, .slice (some ⟨wr.heap.size + 1, 0, none⟩) 16384 16384] 82)).cell? ⟨wr.heap.size, 0, none⟩ = some (.int .i64 t.1) ∧ (w2.alloc (.cells #[.int .i64 t.1, .slice (some ⟨wr.heap.size + 1, 0, none⟩) 16384 16384] 82)).cell? ⟨wr.heap.size, 1, none⟩ = some dv) ∧
            (w2.alloc (.cells #[.int .i64 t.1, .slice (some ⟨wr.heap.size + 1, 0, none⟩) 16384 16384] 82)).ownsRow (wM.heap.size + 1) 82 2 (.slice vp k vc) k (bcs (padB (bs.take k)) gs) ∧
            Cs (w2.alloc (.cells #[.int .i64 t.1, .slice (some ⟨wr.heap.size + 1, 0, none⟩) 16384 16384] 82)) (.slice (some ⟨w2.heap.size, 0, none⟩) 1 1) 2 1 (bc (t.1, padN 16384 t.2) (wr.heap.size + 1, 16384)) ∧
            wM.heap.size + 1 ≤ (w2.alloc (.cells #[.int .i64 t.1, .slice (some ⟨wr.heap.size + 1, 0, none⟩) 16384 16384] 82)).heap.size ∧
            (∀ v' w4, w4.ownsRow (wM.heap.size + 1) 82 2 v' (k + 1) (bcs (padB (bs.take k)) gs ++ bc (t.1, padN 16384 t.2) (wr.heap.size + 1, 16384)) → Grew (w2.alloc (.cells #[.int .i64 t.1, .slice (some ⟨wr.heap.size + 1, 0, none⟩) 16384 16384] 82)) w4 (.slice vp k vc) v' →
              (w4.cell? ⟨wr.heap.size, 0, none⟩ = some (.int .i64 t.1) ∧ w4.cell? ⟨wr.heap.size, 1, none⟩ = some dv) ∧ w4.cell? ⟨wM.heap.size, 0, none⟩ = some (.slice vp k vc) ∧ w4.frozen? ⟨wM.heap.size, 0, none⟩ = false ∧
              CR wM (w4.setCell ⟨wM.heap.size, 0, none⟩ v') v' (.slice (some ⟨gr, 0, none⟩) 16384 16384) (.slice (some ⟨gc, 0, none⟩) 3072 3072) ms0 (.slice none 0 0) (padB (bs.take (k + 1))) (gs ++ [(wr.heap.size + 1, 16384)])) := by
          intro w2 hb2 h52 hz2
          have kp : ∀ j, j < wr.heap.size + 1 → w2.heap[j]? = (wr.alloc (.cells #[.int .i64 t.1, dv] 82)).drew.heap[j]? := fun j hj => hb2.block j (by omega)
          have kw : ∀ j, j < wr.heap.size → w2.heap[j]? = wr.heap[j]? := fun j hj => (kp j (by omega)).trans (Below.heap_alloc wr _ j hj)
          have b2 := (kw wM.heap.size (by omega)).trans hC.blk
          have v2 := (kp wr.heap.size (by omega)).trans hv2
          have al : ∀ j, j < w2.heap.size → (w2.alloc (.cells #[.int .i64 t.1, .slice (some ⟨wr.heap.size + 1, 0, none⟩) 16384 16384] 82)).heap[j]? = w2.heap[j]? := fun j hj => Below.heap_alloc w2 _ j hj
          have b3 := (al wM.heap.size (by omega)).trans b2
          have v3 := (al wr.heap.size (by omega)).trans v2
          have hln : (padN 16384 t.2).length = 16384 := padN_len _ _ hdl
          refine ⟨cell_of _ _ 0 _ 130 _ b2 rfl, ⟨cell_of _ _ 0 _ 82 _ v2 rfl, cell_of _ _ 1 _ 82 _ v2 rfl⟩, cell_of _ _ 0 _ 130 _ b3 rfl, ⟨cell_of _ _ 0 _ 82 _ v3 rfl, cell_of _ _ 1 _ 82 _ v3 rfl⟩, ?_, ?_, by simp; omega, ?_⟩
          · have := hC.banks.row
            rw [hlk] at this
            exact own_kept this fun g e hg => (al g (by omega)).trans (kw g hg)
          · refine .inr ⟨⟨w2.heap.size, 0, none⟩, 1, rfl, rfl, ?_, by intro x hx; simp [bc] at hx; rcases hx with rfl | rfl <;> rfl⟩
            intro j x hj
            have hn : (w2.alloc (.cells #[.int .i64 t.1, .slice (some ⟨wr.heap.size + 1, 0, none⟩) 16384 16384] 82)).heap[w2.heap.size]? = some (.cells (bc (t.1, padN 16384 t.2) (wr.heap.size + 1, 16384)).toArray 82 (0, 0)) := by
              simp only [bc, hln]; exact heap_alloc_new w2 _
            have e : (⟨w2.heap.size, 0, none⟩ : Addr).add j = ⟨w2.heap.size, j, none⟩ := by rw [Addr.add_lit]; simp
            rw [e]
            exact cell_of _ _ _ _ 82 x hn hj
          · intro v' w4 ho hg
            have nv : ∀ j, j ≤ wM.heap.size ∨ j = wr.heap.size → some j ≠ (Value.slice vp k vc).ownBlock := by
              intro j hj e
              rcases hj with hj | hj
              · have := (hC.banks.row.lt j e.symm).1; omega
              · have := (hC.banks.row.lt j e.symm).2; omega
            have b4 := (hg.block wM.heap.size (by simp; omega) (nv _ (.inl (Nat.le_refl _)))).trans b3
            have v4 := (hg.block wr.heap.size (by simp; omega) (nv _ (.inr rfl))).trans v3
            refine ⟨⟨cell_of _ _ 0 _ 82 _ v4 rfl, cell_of _ _ 1 _ 82 _ v4 rfl⟩, cell_of _ _ 0 _ 130 _ b4 rfl, frozen_of _ _ 0 _ 130 b4, ?_⟩
            rw [htk]
            exact hC.step (t.1, padN 16384 t.2) (wr.heap.size + 1) _ _ hb2 hz1.symm h52 hln hg (by rw [hlk]; exact ho)
        obtain ⟨dp, dc, rfl, _⟩ := e3.ex
        rw [hz1] at hfu
        have hk1 : (k + 1) * 32 ≤ room := by unfold room; omega
        have hk2 : k + 1 ≤ maxLen := by unfold maxLen; omega
        have HE : Hid _ := hend
        have HZ : Hid _ := hz1
        clear hend hC e3 hv2 hbL htk hlk hz1
        go_wp2_with fail
        obtain ⟨s1a, s1b⟩ := s1
        go_region_law
          (first
            | (refine step_append_row rfl (.tmp 24) (.tmp 31) 83 82 (.agg #[.int .i64 0, .slice none 0 0]) 2 32 Tryz.underlying83 info37 rfl (by decide) rfl (wM.heap.size + 1) (.slice vp k vc) k (bcs (padB (bs.take k)) gs) (by simp [Act.eval]) hown (.slice (some ⟨w2.heap.size, 0, none⟩) 1 1) 1 (bc (t.1, padN 16384 t.2) (wr.heap.size + 1, 16384)) (by simp [Act.eval]) hcs hk1 hk2 hwz ?_; intro v' w4 ho hg; obtain ⟨g9, cap9, rfl⟩ := own_pos ho (Nat.succ_pos k); obtain ⟨s4, cN4, zN4, hCR⟩ := hE2 (.slice (some ⟨g9, 0, none⟩) (k + 1) cap9) w4 ho hg; clear hE2 ho hg hown hcs s2a s2b cN2 cN3)
            | (refine step_full rfl (.tmp 28) (.const (.int .i64 16384)) rfl (.slice dp t.2.length dc) (.int .i64 16384) (by simp [Act.eval]) (by simp [Act.eval]) hfu ?_; rintro e w2 ⟨rfl, h52, hb2, hz2⟩; refine ⟨_, rfl, ?_⟩; obtain ⟨cN2, ⟨s2a, s2b⟩, cN3, s3, hown, hcs, hwz, hE2⟩ := HE.out w2 (by rw [HZ.out]; exact hb2) h52 hz2; clear hfu HE h52 hb2 hz2 s3 s1a s1b))
        all_goals
          have HC : Hid _ := hCR
          clear hCR
          go_wp2
          go_roundw
          case rel =>
            first
              | exact ⟨wM, k + 1, gr, gc, _, _, by rw [HNM.out], HNW.out, by omega, by go_num, HC.out⟩
              | (refine ⟨wM, k + 1, gr, gc, _, _, ?_, HNW.out, by omega, ?_, HC.out⟩; exact HNM.out; go_num)
          case measure => simp [intOf]; omega
      · obtain rfl : k = bs.length := by omega
        rw [List.take_length] at hC
        have hfin := new_end (w := w) HB.out HNW.out hBw hC
        have HF : Hid _ := hfin
        clear hfin hC hBw
        go_wp2
        go_ret2
        exact ⟨_, rfl, HF.out.1, HF.out.2⟩
end Go.Proofs.YtgponcjjnjpfkaaGreat.M
/-! born: the kit. -/
namespace Go.Proofs.YtgponcjjnjpfkaaGreat.L
open Go.RowKit
open Go.Proofs
open P
set_option linter.unusedVariables false
set_option linter.unusedSimpArgs false
set_option maxHeartbeats 4000000
set_option maxRecDepth 100000
/-- A kind, brought to 1 to 4. -/
def nk (t : Int × Int) : Int × Int := (1 + (t.1.tmod 4 + 4).tmod 4, t.2)
def nks (k : Nat) (l : List (Int × Int)) : List (Int × Int) := (l.take k).map nk ++ l.drop k
theorem nks_0 (l : List (Int × Int)) : nks 0 l = l := by simp [nks]
theorem nks_all (l : List (Int × Int)) : nks l.length l = l.map nk := by simp [nks]
theorem nks_len (k : Nat) (l : List (Int × Int)) : (nks k l).length = l.length := by simp [nks]; omega
theorem nks_get (k : Nat) (l : List (Int × Int)) (h : k < l.length) : (nks k l)[k]? = some l[k] := by
  rw [nks, List.getElem?_append_right (by simp; omega)]
  simp only [List.length_map, List.length_take, List.getElem?_drop]
  rw [show k + (k - min k l.length) = k by omega]
  exact List.getElem?_eq_getElem h
theorem nks_set (k : Nat) (l : List (Int × Int)) (h : k < l.length) : (nks k l).set k (nk l[k]) = nks (k + 1) l := by
  unfold nks
  rw [List.set_append_right _ _ (by simp; omega), List.take_succ_eq_append_getElem h, List.map_append, List.append_assoc]
  congr 1
  simp only [List.length_map, List.length_take]
  rw [show k - min k l.length = 0 by omega, List.drop_eq_getElem_cons h]
  rfl
theorem ls_of {α : Type} {e : α → List Value} {s : Nat} {W : World} {p : Option Addr} {l : List α} {c : Nat} (h : S.Sl e s W p l) (hp : p = none → c = 0) (hl : l.length ≤ c) : S.Ls e s W (.slice p l.length c) l := by
  cases p with
  | none =>
    have : l = [] := by
      cases l with
      | nil => rfl
      | cons a l => obtain ⟨b, o, e, _⟩ := h 0 a rfl; cases e
    subst this
    rw [hp rfl]
    exact .inl ⟨rfl, rfl⟩
  | some x => exact .inr ⟨x, c, rfl, hl, h⟩
theorem enK_at : ∀ (l : List (Int × Int)) (k : Nat) (z : Int) (h : k < l.length), (S.en S.eK l).set (k * 2) (.int .i64 z) = S.en S.eK (l.set k (z, l[k].2))
  | a :: l, 0, z, _ => by simp [S.en_cons, S.eK]
  | a :: l, k + 1, z, h => by
    have ih := enK_at l k z (by simpa using h)
    rw [List.set_cons_succ, S.en_cons, S.en_cons, List.getElem_cons_succ, ← ih, show (k + 1) * 2 = k * 2 + 2 by omega]
    rw [List.set_append_right _ _ (by rw [S.hK]; omega), S.hK]
    congr 1
theorem own_apart {W : World} {B B' : Nat} {v v' : Value} {l : List Int} {m : List (Int × Int)} (h : S.RowU W B v l) (h' : S.RowK W B' v' m) (g : Nat) (e : v.ownBlock = some g) (e' : v'.ownBlock = some g) : False := by
  rcases h.2 with ⟨rfl, _⟩ | ⟨a, _, _, rfl, _, ha, _⟩
  · simp [Value.ownBlock] at e
  · rcases h'.2 with ⟨rfl, _⟩ | ⟨b, _, _, rfl, _, hb, _⟩
    · simp [Value.ownBlock] at e'
    · simp [Value.ownBlock] at e e'
      subst e; subst e'
      rw [ha] at hb
      injection hb with hb
      injection hb with _ hb
      cases hb
/-- A world of the law: both sides, all apart. -/
structure WW (W : World) (B g bd br bm bx bq bz : Nat) (F G : Nat → Prop) (ev qv : Value) (D : List Int) (R : List (Int × Int)) (m : M.MS) : Prop where
  blk : W.heap[g]? = some (.cells [.pointer (some ⟨bd, 0, none⟩), .pointer (some ⟨br, 0, none⟩), .pointer (some ⟨bm, 0, none⟩), .pointer (some ⟨bx, 0, none⟩), .pointer (some ⟨bq, 0, none⟩), .pointer (some ⟨bz, 0, none⟩)].toArray 37 (0, 0))
  p : PS W bd br bm F D R m
  x : S.EV W B bx ev D
  y : S.QV W B bq qv R
  z : M.IsR W G bz m
  ng : ¬ F g ∧ ¬ G g
  nx : ¬ F bx ∧ ¬ G bx
  nq : ¬ F bq ∧ ¬ G bq
  nev : ∀ k, ev.ownBlock = some k → ¬ F k ∧ ¬ G k
  nqv : ∀ k, qv.ownBlock = some k → ¬ F k ∧ ¬ G k
  nd : ¬ G bd ∧ ¬ G br
  fg : ∀ k, F k → ¬ G k
  lo : B ≤ g ∧ B ≤ bd ∧ B ≤ br
  lf : ∀ k, F k → B ≤ k
  lg : ∀ k, G k → B ≤ k
def bkB : List (Int × List UInt8) := [(0, [1, 2, 3]), (9, [4])]
def mB : M.MS := { M.m0 with banks := M.nbk bkB }
def BornR (w w' : World) (e : Ending) (D : List Int) (R : List (Int × Int)) : Prop := ∃ g bd br bm bx bq bz F G ev qv, e = .returned (.pointer (some ⟨g, 0, none⟩)) ∧ WW w' w.heap.size g bd br bm bx bq bz F G ev qv D R mB ∧ Below w.heap.size w w'
theorem mayBk : M.mayB (-1) bkB = true := by decide
theorem inOB : M.inO mB 16 = M.padB bkB := by rfl
theorem fl0 (n : Nat) : M.fl n [] 0 = List.replicate n 0 := by simp [M.fl]
theorem isR_B {W : World} {F : Nat → Prop} {b : Nat} (hw : M.Wf mB) (h : M.HasR W F b (M.padB bkB) M.ms0) : M.IsR W F b mB := by
  refine ⟨hw, ?_⟩
  rw [inOB]
  obtain ⟨u, gr, gc, gs, tv, h⟩ := h
  have r1 := h.ram
  have r2 := h.scr
  rw [show M.ms0.ram = List.replicate 16384 0 from fl0 16384] at r1
  rw [show M.ms0.scr = List.replicate 3072 0 from fl0 3072] at r2
  exact ⟨u, gr, gc, gs, tv, ⟨h.blk, h.banks, r1, r2, hw.ram, hw.scr, h.tones, h.nr, h.nc, h.rc, h.fb, h.fu, h.fg, h.fr, h.fc, h.ft⟩⟩
theorem bnsB (w : World) : M.BnS (((w.alloc (.cells #[.int .u8 1, .int .u8 2, .int .u8 3] 5)).alloc (.cells #[.int .u8 4] 5)).alloc (.cells #[.int .i64 0, .slice (some ⟨w.heap.size, 0, none⟩) 3 3, .int .i64 9, .slice (some ⟨w.heap.size + 1, 0, none⟩) 1 1] 82)) (some ⟨w.heap.size + 2, 0, none⟩) bkB := by
  have s1 : (w.alloc (.cells #[.int .u8 1, .int .u8 2, .int .u8 3] 5)).heap.size = w.heap.size + 1 := by simp
  have h1 := (Below.heap_alloc (w.alloc (.cells #[.int .u8 1, .int .u8 2, .int .u8 3] 5)) (.cells #[.int .u8 4] 5) w.heap.size (by omega)).trans (heap_alloc_new w _)
  have h2 := heap_alloc2_new w (.cells #[.int .u8 1, .int .u8 2, .int .u8 3] 5) (.cells #[.int .u8 4] 5)
  generalize hW : (w.alloc (.cells #[.int .u8 1, .int .u8 2, .int .u8 3] 5)).alloc (.cells #[.int .u8 4] 5) = W at h1 h2 ⊢
  have s2 : W.heap.size = w.heap.size + 2 := by rw [← hW]; simp
  have h3 := heap_alloc_new W (.cells #[.int .i64 0, .slice (some ⟨w.heap.size, 0, none⟩) 3 3, .int .i64 9, .slice (some ⟨w.heap.size + 1, 0, none⟩) 1 1] 82)
  rw [s2] at h3
  have h1' := (Below.heap_alloc W (.cells #[.int .i64 0, .slice (some ⟨w.heap.size, 0, none⟩) 3 3, .int .i64 9, .slice (some ⟨w.heap.size + 1, 0, none⟩) 1 1] 82) w.heap.size (by omega)).trans h1
  have h2' := (Below.heap_alloc W (.cells #[.int .i64 0, .slice (some ⟨w.heap.size, 0, none⟩) 3 3, .int .i64 9, .slice (some ⟨w.heap.size + 1, 0, none⟩) 1 1] 82) (w.heap.size + 1) (by omega)).trans h2
  generalize W.alloc (.cells #[.int .i64 0, .slice (some ⟨w.heap.size, 0, none⟩) 3 3, .int .i64 9, .slice (some ⟨w.heap.size + 1, 0, none⟩) 1 1] 82) = W3 at h3 h1' h2' ⊢
  have sl : ∀ (b : Nat) (l : List UInt8), W3.heap[b]? = some (.cells (M.bv l).toArray 5 (0, 0)) → M.Sl W3 (.slice (some ⟨b, 0, none⟩) l.length l.length) l := fun b l h => .inr ⟨_, _, rfl, Nat.le_refl _, fun j x hj => by
    have e : (⟨b, 0, none⟩ : Addr).add j = ⟨b, j, none⟩ := by rw [Addr.add_lit]; simp
    rw [e]
    exact M.cell_of W3 _ _ _ 5 _ h ((M.bv_get _ _ _).2 ⟨x, hj, rfl⟩)⟩
  intro i t ht
  match i, ht with
  | 0, ht =>
    simp [bkB] at ht; subst ht
    exact ⟨_, 0, _, rfl, M.cell_of W3 _ _ _ 82 _ h3 rfl, M.cell_of W3 _ _ _ 82 _ h3 rfl, sl _ [1, 2, 3] h1', by decide⟩
  | 1, ht =>
    simp [bkB] at ht; subst ht
    exact ⟨_, 0, _, rfl, M.cell_of W3 _ _ _ 82 _ h3 rfl, M.cell_of W3 _ _ _ 82 _ h3 rfl, sl _ [4] h2', by decide⟩
  | i + 2, ht => simp [bkB] at ht
/-- All that born has made, at its end. -/
theorem born_fin {w wr w7 w8 w9 w10 : World} {nA : Nat} {p0 p1 : Option Addr} {c0 c1 bd br bm bz : Nat} {D : List Int} {R : List (Int × Int)}
    (hB : Below w.heap.size w wr) (hU : S.RowU wr w.heap.size (.slice p0 D.length c0) D) (hK : S.RowK wr nA (.slice p1 R.length c1) R) (hA : w.heap.size ≤ nA) (hDl : D.length ≤ 256) (hRl : R.length ≤ 128)
    (b7 : Below wr.heap.size wr w7) (b8 : Below w7.heap.size w7 w8) (hD : S.HasD w7 bd D) (hR : S.HasR w7 br R) (hs : wr.heap.size ≤ bd ∧ wr.heap.size ≤ br) (hdr : bd ≠ br)
    (hM : M.HasM w9 (fun k => w8.heap.size ≤ k) bm mB) (b9 : Below w8.heap.size w8 w9) (hZ : M.HasR w10 (fun k => w9.heap.size ≤ k) bz (M.padB bkB) M.ms0) (b10 : Below w9.heap.size w9 w10) :
    BornR w (((w10.alloc (.cells #[.slice p0 D.length c0] 89)).alloc (.cells #[.slice p1 R.length c1] 91)).alloc (.cells #[.pointer (some ⟨bd, 0, none⟩), .pointer (some ⟨br, 0, none⟩), .pointer (some ⟨bm, 0, none⟩), .pointer (some ⟨w10.heap.size, 0, none⟩), .pointer (some ⟨w10.heap.size + 1, 0, none⟩), .pointer (some ⟨bz, 0, none⟩)] 37)) (.returned (.pointer (some ⟨w10.heap.size + 2, 0, none⟩))) D R := by
  have bb : ∀ {a b c : World}, Below a.heap.size a b → Below b.heap.size b c → Below a.heap.size a c := fun h k => h.trans ⟨k.os, k.tape, k.output, k.size, fun i hi => k.block i (Nat.lt_of_lt_of_le hi h.size)⟩
  have a1 := (bel_alloc w10 (.cells #[.slice p0 D.length c0] 89))
  have a2 := a1.alloc a1.size (.cells #[.slice p1 R.length c1] 91)
  have a3 := a2.alloc a2.size (.cells #[.pointer (some ⟨bd, 0, none⟩), .pointer (some ⟨br, 0, none⟩), .pointer (some ⟨bm, 0, none⟩), .pointer (some ⟨w10.heap.size, 0, none⟩), .pointer (some ⟨w10.heap.size + 1, 0, none⟩), .pointer (some ⟨bz, 0, none⟩)] 37)
  have z1 : (w10.alloc (.cells #[.slice p0 D.length c0] 89)).heap.size = w10.heap.size + 1 := by simp
  have q1 := heap_alloc_new w10 (.cells #[.slice p0 D.length c0] 89)
  generalize hV1 : w10.alloc (.cells #[.slice p0 D.length c0] 89) = V1 at *
  have q2 := heap_alloc_new V1 (.cells #[.slice p1 R.length c1] 91)
  have q1a := (Below.heap_alloc V1 (.cells #[.slice p1 R.length c1] 91) w10.heap.size (by omega)).trans q1
  have z2 : (V1.alloc (.cells #[.slice p1 R.length c1] 91)).heap.size = w10.heap.size + 2 := by simp; omega
  rw [z1] at q2
  generalize V1.alloc (.cells #[.slice p1 R.length c1] 91) = V2 at *
  have q3 := heap_alloc_new V2 (.cells #[.pointer (some ⟨bd, 0, none⟩), .pointer (some ⟨br, 0, none⟩), .pointer (some ⟨bm, 0, none⟩), .pointer (some ⟨w10.heap.size, 0, none⟩), .pointer (some ⟨w10.heap.size + 1, 0, none⟩), .pointer (some ⟨bz, 0, none⟩)] 37)
  have q1b := (Below.heap_alloc V2 (.cells #[.pointer (some ⟨bd, 0, none⟩), .pointer (some ⟨br, 0, none⟩), .pointer (some ⟨bm, 0, none⟩), .pointer (some ⟨w10.heap.size, 0, none⟩), .pointer (some ⟨w10.heap.size + 1, 0, none⟩), .pointer (some ⟨bz, 0, none⟩)] 37) w10.heap.size (by omega)).trans q1a
  have q2b := (Below.heap_alloc V2 (.cells #[.pointer (some ⟨bd, 0, none⟩), .pointer (some ⟨br, 0, none⟩), .pointer (some ⟨bm, 0, none⟩), .pointer (some ⟨w10.heap.size, 0, none⟩), .pointer (some ⟨w10.heap.size + 1, 0, none⟩), .pointer (some ⟨bz, 0, none⟩)] 37) (w10.heap.size + 1) (by omega)).trans q2
  rw [z2] at q3
  generalize V2.alloc (.cells #[.pointer (some ⟨bd, 0, none⟩), .pointer (some ⟨br, 0, none⟩), .pointer (some ⟨bm, 0, none⟩), .pointer (some ⟨w10.heap.size, 0, none⟩), .pointer (some ⟨w10.heap.size + 1, 0, none⟩), .pointer (some ⟨bz, 0, none⟩)] 37) = V3 at *
  have c7 : Below w7.heap.size w7 V3 := bb (bb (bb b8 b9) b10) a3
  have c0' : Below wr.heap.size wr V3 := bb b7 c7
  have c9 : Below w9.heap.size w9 V3 := bb b10 a3
  have n1 := hB.size; have n7 := b7.size; have n8 := b8.size; have n9 := b9.size; have n10 := b10.size
  have ld := S.lt_of hD.1
  have lr := S.lt_of hR.1
  have hU' : S.RowU V3 w.heap.size (.slice p0 D.length c0) D := S.own_kept hU fun g _ hg => c0'.block g hg
  have hK' : S.RowK V3 w.heap.size (.slice p1 R.length c1) R := S.own_mono (S.own_kept hK fun g _ hg => c0'.block g hg) hA
  refine ⟨w10.heap.size + 2, bd, br, bm, w10.heap.size, w10.heap.size + 1, bz, fun k => w8.heap.size ≤ k ∧ k < w9.heap.size, fun k => w9.heap.size ≤ k ∧ k < w10.heap.size, _, _, rfl,
    ⟨q3, ⟨hD.below c7, hR.below c7, (hM.mono fun i hi g => ⟨g, hi⟩).kept fun i hi _ => c9.block i hi, hdr, by omega, by omega⟩, ⟨q1b, hU', by omega, hDl⟩, ⟨q2b, hK', by omega, hRl⟩,
      (((isR_B hM.wf hZ).mono fun i hi g => ⟨g, hi⟩).below a3), by omega, by omega, by omega, ?_, ?_, by omega, fun k a b => by omega, by omega, fun k a => by omega, fun k a => by omega⟩,
    hB.trans ⟨c0'.os, c0'.tape, c0'.output, c0'.size, fun i hi => c0'.block i (Nat.lt_of_lt_of_le hi n1)⟩⟩
  · intro k e
    have := (hU.lt k e).2
    omega
  · intro k e
    have := (hK.lt k e).2
    omega
theorem tm4 (t : Int) : -4 < t.tmod 4 ∧ t.tmod 4 < 4 := by
  cases t with
  | ofNat n => simp only [Int.ofNat_eq_natCast]; rw [show ((n : Int).tmod 4) = ((n % 4 : Nat) : Int) from rfl]; omega
  | negSucc n => rw [show (Int.negSucc n).tmod 4 = -(((n + 1) % 4 : Nat) : Int) from rfl]; omega
end Go.Proofs.YtgponcjjnjpfkaaGreat.L
/-! born. -/
namespace Go.Proofs.YtgponcjjnjpfkaaGreat.L
open Go.RowKit
open Go.Proofs
open P
set_option linter.unusedVariables false
set_option linter.unusedSimpArgs false
set_option maxHeartbeats 4000000
set_option maxRecDepth 100000
theorem born_any (p q : Option Addr) (c d : Nat) (data : List Int) (ret : List (Int × Int)) (hc : data.length ≤ c) (hd : ret.length ≤ d) (hpc : p = none → c = 0) (hpd : q = none → d = 0) (hr : data.length ≤ S.room) (hr2 : ret.length ≤ S.room) (w : World) (h1 : S.Sl S.eU 1 w p data) (h2 : S.Sl S.eK 2 w q ret) :
    Calls Tryz.prog 11 #[.slice p data.length c, .slice q ret.length d] w fun e w' => BornR w w' e (data.take 256) ((ret.take 128).map nk) := by
  have H1 := S.hid h1
  have H2 := S.hid h2
  clear h1 h2
  unfold S.room at hr hr2
  go_enter Tryz.func11, Tryz.ntmps11
  go_upto_region 1 with fail
  go_cut [0] (fun s0 wc => S.RowU wc w.heap.size s0 (data.take 256) ∧ Below w.heap.size w wc)
  case first =>
    have hr0 := S.own_empty w 26 1
    have hb0 : Below w.heap.size w (w.alloc (.cells #[] 26)) := bel_alloc w _
    have fin : ∀ n, (data.take 256).length = n → ∀ v' w', w'.ownsRow w.heap.size 26 1 v' n (S.en S.eU (data.take 256)) → S.Grew (w.alloc (.cells #[] 26)) w' (.slice (some ⟨w.heap.size, 0, none⟩) 0 0) v' → S.RowU w' w.heap.size v' (data.take 256) ∧ Below w.heap.size w w' := fun n e v' w' a b => ⟨by subst e; exact a, b.belowAll (fun g e => (hr0.lt g e).1) hb0 (Nat.le_refl _)⟩
    have hcs : S.Cs (w.alloc (.cells #[] 26)) (.slice p (data.take 256).length c) 1 (data.take 256).length (S.en S.eU (data.take 256)) := ((ls_of (H1.out.take 256) hpc (by rw [List.length_take]; omega)).below hb0).cs S.hU (by omega) S.oneU
    have FI := S.hid fin
    have HR := S.hid hr0
    have HC := S.hid hcs
    have HB := S.hid hb0
    clear fin hr0 hcs hb0
    by_cases a : 256 < data.length
    · have d1 : decide ((256 : Int) < (data.length : Int)) = true := decide_eq_true (by omega)
      have hcc : 256 ≤ c := by omega
      have hl : (data.take 256).length = 256 := by rw [List.length_take]; omega
      rw [hl] at HC
      have HL := S.hid hl
      clear hl
      go_wp2_with (first | (at_builtin; refine S.wpList_append_row _ rfl _ _ 27 26 _ 1 2 Tryz.underlying27 S.info32 rfl (by decide) rfl w.heap.size _ 0 [] rfl HR.out _ 256 (S.en S.eU (data.take 256)) rfl HC.out (by unfold S.room; omega) (by unfold maxLen; omega) HB.out.size ?_))
      intro v' w' hr hg
      have hq := FI.out _ HL.out v' w' hr hg
      go_wp2
      go_meet
      case rel => exact hq
    · have d1 : decide ((256 : Int) < (data.length : Int)) = false := decide_eq_false (by omega)
      have hl : (data.take 256).length = data.length := by rw [List.length_take]; omega
      rw [hl] at HC
      have HL := S.hid hl
      clear hl
      go_wp2_with (first | (at_builtin; refine S.wpList_append_row _ rfl _ _ 27 26 _ 1 2 Tryz.underlying27 S.info32 rfl (by decide) rfl w.heap.size _ 0 [] rfl HR.out _ data.length (S.en S.eU (data.take 256)) rfl HC.out (by unfold S.room; omega) (by unfold maxLen; omega) HB.out.size ?_))
      intro v' w' hr hg
      have hq := FI.out _ HL.out v' w' hr hg
      go_wp2
      go_meet
      case rel => exact hq
  case rest =>
    obtain ⟨wA, rfl⟩ : ∃ wA, wA = wc := ⟨_, rfl⟩
    obtain ⟨hU, hB⟩ := hcut
    have HU := S.hid hU
    have HB0 := S.hid hB
    have H2b := S.hid (H2.out.below hB)
    clear hU hB H1 H2
    go_upto_region 2 with fail
    go_cut [1] (fun s1 w2 => S.RowK w2 wA.heap.size s1 (ret.take 128) ∧ Below wA.heap.size wA w2)
    case first =>
      have hr0 := S.own_empty wA 44 2
      have hb0 : Below wA.heap.size wA (wA.alloc (.cells #[] 44)) := bel_alloc wA _
      have fin : ∀ n, (ret.take 128).length = n → ∀ v' w', w'.ownsRow wA.heap.size 44 2 v' n (S.en S.eK (ret.take 128)) → S.Grew (wA.alloc (.cells #[] 44)) w' (.slice (some ⟨wA.heap.size, 0, none⟩) 0 0) v' → S.RowK w' wA.heap.size v' (ret.take 128) ∧ Below wA.heap.size wA w' := fun n e v' w' a b => ⟨by subst e; exact a, b.belowAll (fun g e => (hr0.lt g e).1) hb0 (Nat.le_refl _)⟩
      have hcs : S.Cs (wA.alloc (.cells #[] 44)) (.slice q (ret.take 128).length d) 2 (ret.take 128).length (S.en S.eK (ret.take 128)) := ((ls_of (H2b.out.take 128) hpd (by rw [List.length_take]; omega)).below hb0).cs S.hK (by omega) S.oneK
      have FI := S.hid fin
      have HR := S.hid hr0
      have HC := S.hid hcs
      have HB := S.hid hb0
      clear fin hr0 hcs hb0
      by_cases a : 128 < ret.length
      · have d1 : decide ((128 : Int) < (ret.length : Int)) = true := decide_eq_true (by omega)
        have hcc : 128 ≤ d := by omega
        have hl : (ret.take 128).length = 128 := by rw [List.length_take]; omega
        rw [hl] at HC
        have HL := S.hid hl
        clear hl
        go_wp2_with (first | (at_builtin; refine S.wpList_append_row _ rfl _ _ 38 44 _ 2 16 Tryz.underlying38 S.info43 rfl (by decide) rfl wA.heap.size _ 0 [] rfl HR.out _ 128 (S.en S.eK (ret.take 128)) rfl HC.out (by unfold S.room; omega) (by unfold maxLen; omega) HB.out.size ?_))
        intro v' w' hr hg
        have hq := FI.out _ HL.out v' w' hr hg
        go_wp2
        go_meet
        case rel => exact hq
      · have d1 : decide ((128 : Int) < (ret.length : Int)) = false := decide_eq_false (by omega)
        have hl : (ret.take 128).length = ret.length := by rw [List.length_take]; omega
        rw [hl] at HC
        have HL := S.hid hl
        clear hl
        go_wp2_with (first | (at_builtin; refine S.wpList_append_row _ rfl _ _ 38 44 _ 2 16 Tryz.underlying38 S.info43 rfl (by decide) rfl wA.heap.size _ 0 [] rfl HR.out _ ret.length (S.en S.eK (ret.take 128)) rfl HC.out (by unfold S.room; omega) (by unfold maxLen; omega) HB.out.size ?_))
        intro v' w' hr hg
        have hq := FI.out _ HL.out v' w' hr hg
        go_wp2
        go_meet
        case rel => exact hq
    case rest =>
      obtain ⟨w2, rfl⟩ : ∃ w2, w2 = wc := ⟨_, rfl⟩
      obtain ⟨hK, hB2⟩ := hcut
      clear H2b
      have hrl : (ret.take 128).length ≤ 128 := by rw [List.length_take]; omega
      generalize hRe : ret.take 128 = R at *
      have HRE := S.hid hRe
      clear hRe
      have hBA : Below w.heap.size w w2 := HB0.out.trans ⟨hB2.os, hB2.tape, hB2.output, hB2.size, fun k hk => hB2.block k (Nat.lt_of_lt_of_le hk HB0.out.size)⟩
      have hU2 : S.RowU w2 w.heap.size u0 (data.take 256) := S.own_kept HU.out fun g _ hg => hB2.block g hg
      have hwA : w.heap.size ≤ wA.heap.size := HB0.out.size
      have HBA := S.hid hBA
      have HU2 := S.hid hU2
      have HK := S.hid hK
      obtain ⟨p1, c1, rfl⟩ := S.ex_slice hK
      clear HU HB0 hB2 hBA hU2 hK
      go_wp2
      go_loopw [5] (fun i wr => ∃ k : Nat, k ≤ R.length ∧ i = .int .i64 (k : Int) ∧ S.RowK wr wA.heap.size (.slice p1 R.length c1) (nks k R) ∧ S.Tc (fun b => ∃ g, p1 = some ⟨g, 0, none⟩ ∧ b = g) w2 wr) (fun i _ => R.length - (intOf i).toNat)
      case atStart => exact ⟨0, by omega, rfl, by rw [nks_0]; exact HK.out, S.Tc.refl _ _⟩
      case round =>
        obtain ⟨k, hk, rfl, hK, ht⟩ := hrel
        by_cases hlt : k < R.length
        · have hi : (k : Int) < (R.length : Int) := by omega
          have hK' := hK
          have hln := nks_len k R
          obtain ⟨g, cap, e1, hg, hcap⟩ := S.rowK_pos hK (by omega)
          rw [hln] at e1
          simp only [Value.slice.injEq, true_and] at e1
          obtain ⟨rfl, rfl⟩ := e1
          have hget := S.rowK_get (g := g) (cap := c1) (l := nks k R) (by rw [hln]; exact hK) k R[k] (nks_get k R hlt)
          have gc := hget.1
          obtain ⟨b1, b2⟩ := tm4 (R[k]).1
          have HN := S.hid (nks_set k R hlt)
          obtain ⟨t, ht1⟩ : ∃ t, R[k] = t := ⟨_, rfl⟩
          have HN2 : Hid ((nks k R).set k (nk t) = nks (k + 1) R) := by rw [← ht1]; exact HN
          have HG := S.hid (nks_get k R hlt)
          rw [ht1] at gc b1 b2 HG
          clear hget HN
          have a1 : IntKind.i64.wrap (t.1.tmod 4) = t.1.tmod 4 := S.i64_id _ (by omega) (by omega)
          have a2 : IntKind.i64.wrap (t.1.tmod 4 + 4) = t.1.tmod 4 + 4 := S.i64_id _ (by omega) (by omega)
          obtain ⟨b3, b4⟩ := tm4 (t.1.tmod 4 + 4)
          have a3 : IntKind.i64.wrap ((t.1.tmod 4 + 4).tmod 4) = (t.1.tmod 4 + 4).tmod 4 := S.i64_id _ (by omega) (by omega)
          have a4 : IntKind.i64.wrap (1 + (t.1.tmod 4 + 4).tmod 4) = 1 + (t.1.tmod 4 + 4).tmod 4 := S.i64_id _ (by omega) (by omega)
          have a5 : IntKind.i64.wrap ((k : Int) + 1) = ((k + 1 : Nat) : Int) := S.i64_id _ (by omega) (by omega)
          have hfz : wr.frozen? ⟨g, k * 2, none⟩ = false := by
            rcases hK.2 with ⟨e, _⟩ | ⟨g', cap', cur, e, _, hcur, _⟩
            · cases e
            · simp only [Value.slice.injEq, Option.some.injEq, Addr.mk.injEq, true_and, and_true] at e
              obtain ⟨rfl, _⟩ := e
              simp [World.frozen?, hcur]
          have hnew : S.RowK (wr.setCell ⟨g, k * 2, none⟩ (.int .i64 (1 + (t.1.tmod 4 + 4).tmod 4))) wA.heap.size (.slice (some ⟨g, 0, none⟩) R.length c1) (nks (k + 1) R) := by
            have hk2 : k < (nks k R).length := by rw [hln]; exact hlt
            have hK2 : wr.ownsRow wA.heap.size 44 2 (.slice (some ⟨g, 0, none⟩) R.length c1) R.length (S.en S.eK (nks k R)) := by have := hK; unfold S.RowK at this; rw [hln] at this; exact this
            have := S.own_set hK2 (k * 2) (by rw [S.en_len S.hK]; omega) (.int .i64 (1 + (t.1.tmod 4 + 4).tmod 4))
            rw [enK_at _ _ _ hk2] at this
            have e2 : (nks k R)[k].2 = t.2 := by
              have := HG.out
              rw [List.getElem?_eq_getElem hk2] at this
              exact congrArg Prod.snd (Option.some.inj this)
            rw [e2] at this
            unfold S.RowK
            rw [nks_len, ← HN2.out]
            exact this
          have htn : S.Tc (fun b => ∃ g_1, some (⟨g, 0, none⟩ : Addr) = some ⟨g_1, 0, none⟩ ∧ b = g_1) w2 (wr.setCell ⟨g, k * 2, none⟩ (.int .i64 (1 + (t.1.tmod 4 + 4).tmod 4))) := ht.setCell g _ ⟨g, rfl, rfl⟩ _
          have HX := S.hid (And.intro hnew htn)
          clear hnew htn hK hK' ht HN2 HG ht1 b1 b2 b3 b4 hcap hln
          go_wp2
          refine ⟨⟨k + 1, by omega, by go_num, HX.out.1, HX.out.2⟩, ?_⟩
          simp [intOf]; omega
        · obtain rfl : k = R.length := by omega
          have hi : ¬ ((R.length : Nat) : Int) < (R.length : Int) := by omega
          rw [nks_all] at hK
          have hKl : (R.map nk).length = R.length := by simp
          have hU3 : S.RowU wr w.heap.size u0 (data.take 256) := S.own_kept HU2.out fun g e hg => ht.block g hg (by
            rintro ⟨g', e', rfl⟩
            subst e'
            exact own_apart HU2.out HK.out _ e (by simp [Value.ownBlock]))
          have hB3 : Below w.heap.size w wr := HBA.out.trans ⟨ht.os, ht.tape, ht.output, ht.size, fun k hk => ht.block k (Nat.lt_of_lt_of_le hk HBA.out.size) (by
            rintro ⟨g', e', rfl⟩
            subst e'
            have := (HK.out.lt k (by simp [Value.ownBlock])).1
            omega)⟩
          have hDl : (data.take 256).length ≤ 256 := by rw [List.length_take]; omega
          have hR1 : (R.map nk).length ≤ 128 := by omega
          have hok : S.mayS (data.take 256) (R.map nk) = true := by
            unfold S.mayS
            rw [decide_eq_true hDl, decide_eq_true hR1, S.okR_yes _ (fun j a hj => ?_)]
            · rfl
            · rw [List.getElem?_map] at hj
              cases e : R[j]? with
              | none => rw [e] at hj; cases hj
              | some b =>
                rw [e] at hj
                cases hj
                have := tm4 (b.1.tmod 4 + 4)
                have h2 := tm4 b.1
                have h3 : 0 ≤ (b.1.tmod 4 + 4).tmod 4 := Int.tmod_nonneg 4 (by omega)
                exact S.okK_t (by simp only [nk]; omega) (by simp only [nk]; omega)
          generalize hDe : data.take 256 = D at *
          generalize hR1e : R.map nk = R1 at *
          have HDE := S.hid hDe
          have HR1E := S.hid hR1e
          clear hDe hR1e
          have HU3 := S.hid hU3
          have HB3 := S.hid hB3
          have HK3 := S.hid hK
          have HOK := S.hid hok
          have hrl1 : R.length = R1.length := hKl.symm
          rw [hrl1] at HK3 ⊢
          have hi2 : ¬ ((R1.length : Nat) : Int) < (R1.length : Int) := by omega
          obtain ⟨p0, c0, rfl⟩ := S.ex_slice hU3
          have hr3 := S.own_empty wr 26 1
          have hb3 := bel_alloc wr (.cells #[] 26)
          have cs3 := (hU3.ls.below hb3).cs S.hU (by omega) S.oneU
          have HZ := S.hid hwA
          clear HBA HU2 HK hU3 hB3 hK hok ht hKl hrl1 hi hlt hk hwA hrl hc hd hpc hpd hr hr2
          go_wp2_with (first | (at_builtin; refine S.wpList_append_row _ rfl _ _ 27 26 _ 1 2 Tryz.underlying27 S.info32 rfl (by decide) rfl wr.heap.size _ 0 [] rfl hr3 _ D.length (S.en S.eU D) rfl cs3 (by unfold S.room; omega) (by unfold maxLen; omega) hb3.size ?_))
          intro v3 w4 h4 g4
          have b4 : Below wr.heap.size wr w4 := g4.belowAll (fun g e => (hr3.lt g e).1) hb3 (Nat.le_refl _)
          have hv3 : S.RowU w4 wr.heap.size v3 D := by simpa [S.RowU] using h4
          have hK4 : S.RowK w4 wA.heap.size (.slice p1 R1.length c1) R1 := S.own_kept HK3.out fun g _ hg => b4.block g hg
          have hr5 := S.own_empty w4 44 2
          have hb5 := bel_alloc w4 (.cells #[] 44)
          have cs5 := (hK4.ls.below hb5).cs S.hK (by omega) S.oneK
          have HV3 := S.hid hv3
          have HB4 := S.hid b4
          clear hr3 hb3 cs3 h4 g4 b4 hv3 hK4
          go_wp2_with (first | (at_builtin; refine S.wpList_append_row _ rfl _ _ 38 44 _ 2 16 Tryz.underlying38 S.info43 rfl (by decide) rfl w4.heap.size _ 0 [] rfl hr5 _ R1.length (S.en S.eK R1) rfl cs5 (by unfold S.room; omega) (by unfold maxLen; omega) hb5.size ?_))
          intro v4 w6 h6 g6
          have b6 : Below w4.heap.size w4 w6 := g6.belowAll (fun g e => (hr5.lt g e).1) hb5 (Nat.le_refl _)
          have hv4 : S.RowK w6 w4.heap.size v4 R1 := by simpa [S.RowK] using h6
          have hv3 : S.RowU w6 wr.heap.size v3 D := S.own_kept HV3.out fun g _ hg => b6.block g hg
          obtain ⟨p3, c3, rfl, -, sl3⟩ := hv3.ls.ex
          obtain ⟨p4, c4, rfl, -, sl4⟩ := hv4.ls.ex
          have hst := S.stacks_any p3 p4 c3 c4 D R1 (by unfold S.room; omega) (by unfold S.room; omega) w6 sl3 sl4
          have b46 : Below wr.heap.size wr w6 := HB4.out.trans ⟨b6.os, b6.tape, b6.output, b6.size, fun k hk => b6.block k (Nat.lt_of_lt_of_le hk HB4.out.size)⟩
          have HB6 := S.hid b46
          clear hr5 hb5 cs5 h6 g6 b6 hv3 hv4 sl3 sl4 b46 HV3 HB4
          go_wp2_with fail
          refine hst.mono ?_
          rintro e w7 ⟨b7, ⟨_, bd, br, rfl, hD7, hR7, l1, l2, hdr⟩ | ⟨cc, _⟩⟩
          rotate_left
          · exfalso; rw [HOK.out] at cc; cases cc
          have b67 : Below wr.heap.size wr w7 := HB6.out.trans ⟨b7.os, b7.tape, b7.output, b7.size, fun k hk => b7.block k (Nat.lt_of_lt_of_le hk HB6.out.size)⟩
          have hs7 : wr.heap.size ≤ bd ∧ wr.heap.size ≤ br := ⟨Nat.le_trans HB6.out.size l1, Nat.le_trans HB6.out.size l2⟩
          obtain ⟨w8, hw8⟩ : ∃ w8, ((w7.alloc (.cells #[.int .u8 1, .int .u8 2, .int .u8 3] 5)).alloc (.cells #[.int .u8 4] 5)).alloc (.cells #[.int .i64 0, .slice (some ⟨w7.heap.size, 0, none⟩) 3 3, .int .i64 9, .slice (some ⟨w7.heap.size + 1, 0, none⟩) 1 1] 82) = w8 := ⟨_, rfl⟩
          have b78 : Below w7.heap.size w7 w8 := by rw [← hw8]; exact (((Below.refl _ w7).alloc (Nat.le_refl _) _).alloc (by simp) _).alloc (by simp; omega) _
          have hbn : M.BnS w8 (some ⟨w7.heap.size + 2, 0, none⟩) bkB := by rw [← hw8]; exact bnsB w7
          have hnw : Calls Tryz.prog 43 #[.slice (some ⟨w7.heap.size + 2, 0, none⟩) 2 2] w8 fun e w' => ∃ b, e = .returned (.tuple #[.pointer (some ⟨b, 0, none⟩), .int .i64 0]) ∧ M.HasM w' (fun k => w8.heap.size ≤ k) b mB ∧ Below w8.heap.size w8 w' := M.new_yes (some ⟨w7.heap.size + 2, 0, none⟩) 2 bkB (by decide) w8 hbn mayBk
          have HN7 := S.hid (And.intro hD7 hR7)
          have HB7 := S.hid (And.intro b67 b78)
          have HL7 := S.hid (And.intro hs7 hdr)
          have HBN := S.hid hbn
          clear hst b7 hD7 hR7 l1 l2 hdr b67 hs7 b78 hbn HB6 HOK
          go_wp2_with fail
          refine hnw.mono ?_
          rintro e w9 ⟨bm, rfl, hM9, b9⟩
          have hrn : Calls Tryz.prog 44 #[.slice (some ⟨w7.heap.size + 2, 0, none⟩) 2 2] w9 fun e w' => ∃ b, e = .returned (.tuple #[.pointer (some ⟨b, 0, none⟩), .int .i64 0]) ∧ M.HasR w' (fun k => w9.heap.size ≤ k) b (M.padB bkB) M.ms0 ∧ Below w9.heap.size w9 w' := M.rnew_yes (some ⟨w7.heap.size + 2, 0, none⟩) 2 bkB (by decide) w9 (HBN.out.below b9) mayBk (by decide)
          have HM9 := S.hid hM9
          have HB9 := S.hid b9
          clear hnw hM9 b9 hw8
          go_wp2_with fail
          refine hrn.mono ?_
          rintro e w10 ⟨bz, rfl, hZ10, b10⟩
          have fin := born_fin (w := w) HB3.out HU3.out HK3.out HZ.out hDl hR1 HB7.out.1 HB7.out.2 HN7.out.1 HN7.out.2 HL7.out.1 HL7.out.2 HM9.out HB9.out hZ10 b10
          have FI := S.hid fin
          clear fin hZ10 b10 hrn HM9 HB9 HBN HN7 HB7 HL7 HB3 HU3 HK3 HZ
          go_wp2
          go_ret
          rw [HDE.out, HRE.out, HR1E.out]
          exact FI.out
end Go.Proofs.YtgponcjjnjpfkaaGreat.L
/-! Of, Plain; entries of what is no primitive. -/
namespace Go.Proofs.YtgponcjjnjpfkaaGreat.P
open Go.RowKit
open Go.Proofs
set_option linter.unusedVariables false
set_option linter.unusedSimpArgs false
set_option maxHeartbeats 1000000
set_option maxRecDepth 100000
def zR : Array Value := #[.int .i64 0, .string { data := #[] }, .int .i64 0, .int .i64 0, .int .i64 0, .bool false]
theorem field0 (W : World) (op : Int) (name : ByteArray) (i o c : Int) (b : Bool) (k bl s : Int) (f : Value) : (Instr.field 94 (.agg #[.int .i64 op, .string name, .int .i64 i, .int .i64 o, .int .i64 c, .bool b, .int .i64 k, .int .i64 bl, .int .i64 s, f]) 0).run Tryz.prog W = .ok (rowV op name i o c b) W := by
  simp [Instr.field, run_underlying Tryz.underlying94, Value.cells, Tryz.sizeOf59, rowV, go_sem, asAgg, part]
theorem field4 (W : World) (op : Int) (name : ByteArray) (i o c : Int) (b : Bool) (k bl s : Int) (f : Value) (hf : f.oneCell' = true) : (Instr.field 94 (.agg #[.int .i64 op, .string name, .int .i64 i, .int .i64 o, .int .i64 c, .bool b, .int .i64 k, .int .i64 bl, .int .i64 s, f]) 4).run Tryz.prog W = .ok f W := by
  simp [Instr.field, run_underlying Tryz.underlying94, Value.cells, Tryz.sizeOf92, go_sem, asAgg, part]
theorem of_yes (op : Int) (name : ByteArray) (i o c : Int) (b : Bool) (k bl s : Int) (f : Value) (h0 : 1 ≤ op) (h1 : op < 64)
    (hE : ∀ w, Calls Tryz.prog 45 #[.int .i64 op] w fun e w' => e = .returned (entV op name i o c b k bl s f) ∧ Below w.heap.size w w') (w : World) :
    Calls Tryz.prog 26 #[.int .i64 op] w fun e w' => e = .returned (.tuple #[rowV op name i o c b, .int .i64 0]) ∧ Below w.heap.size w w' := by
  have e1 : decide (op < 1) = false := decide_eq_false (by omega)
  have e2 : decide (64 ≤ op) = false := decide_eq_false (by omega)
  obtain ⟨wA, hA⟩ : ∃ wA, w.alloc (.cells #[.int .i64 0, .string { data := #[] }, .int .i64 0, .int .i64 0, .int .i64 0, .bool false] 59) = wA := ⟨_, rfl⟩
  have hb : Below w.heap.size w wA := by rw [← hA]; exact (Below.refl _ w).alloc (Nat.le_refl _) _
  have hz : wA.heap[w.heap.size]? = some (.cells zR 59 (0, 0)) := by rw [← hA]; exact heap_alloc_new w _
  have hfd := field0
  unfold rowV at hfd
  go_enter Tryz.func26, Tryz.ntmps26
  go_wp2_with fail
  refine (hE _).mono ?_
  rintro e w1 ⟨rfl, h1⟩
  have hz1 : w1.heap[w.heap.size]? = some (.cells zR 59 (0, 0)) := (h1.block _ (S.lt_of hz)).trans hz
  have hb1 : Below w.heap.size w w1 := hb.trans ⟨h1.os, h1.tape, h1.output, h1.size, fun k hk => h1.block k (Nat.lt_of_lt_of_le hk hb.size)⟩
  have hfin := setRow_heap w1 w.heap.size _ #[.int .i64 op, .string name, .int .i64 i, .int .i64 o, .int .i64 c, .bool b] _ _ hz1
  have hbf := Below.setRow hb1 w.heap.size (Nat.le_refl _) #[.int .i64 op, .string name, .int .i64 i, .int .i64 o, .int .i64 c, .bool b]
  unfold entV
  go_wp2_with (refine wpList_store_row rfl 59 _ _ rfl w.heap.size _ rfl rfl 59 zR hz1 (by exact sizeR) (by rfl) (by simp [Value.oneCell']) ?_)
  refine bodyPost_ret (v := .tuple #[rowV op name i o c b, .int .i64 0]) ?_ rfl ⟨rfl, hbf⟩
  rw [results_cell_tmp rfl]
  simp [asAddr, run_loadVar_row _ w.heap.size _ 59 _ _ _ hfin Tryz.underlying59 rfl sizeR, rowV]
theorem of_no (op : Int) (h : op < 1 ∨ 64 ≤ op) (w : World) :
    Calls Tryz.prog 26 #[.int .i64 op] w fun e w' => e = .returned (.tuple #[rowV 0 ⟨#[]⟩ 0 0 0 false, .int .i64 60]) ∧ Below w.heap.size w w' := by
  by_cases a : op < 1
  · have e1 : decide (op < 1) = true := decide_eq_true a
    go_enter Tryz.func26, Tryz.ntmps26
    go_wp2
    refine bodyPost_ret (v := .tuple #[rowV 0 ⟨#[]⟩ 0 0 0 false, .int .i64 60]) (by simp [results, Tryz.results26, go_sem, rowV]) rfl ⟨rfl, bel_alloc w _⟩
  · have e1 : decide (op < 1) = false := decide_eq_false a
    have e2 : decide (64 ≤ op) = true := decide_eq_true (by omega)
    go_enter Tryz.func26, Tryz.ntmps26
    go_wp2
    refine bodyPost_ret (v := .tuple #[rowV 0 ⟨#[]⟩ 0 0 0 false, .int .i64 60]) (by simp [results, Tryz.results26, go_sem, rowV]) rfl ⟨rfl, bel_alloc w _⟩
theorem neF (W : World) (f : Fn) (a b : Array Value) : (binOp .neq 92 (.func f a b) .nilFunc).run Tryz.prog W = .ok (.bool true) W := by
  have h : ∀ d : Nat, (Op.equalIn (d + 1) 92 (.func f a b) .nilFunc).run Tryz.prog W = .ok false W := fun d => by
    simp [Op.equalIn, run_underlying Tryz.underlying92]
  have h2 : (Op.equal 92 (.func f a b) .nilFunc).run Tryz.prog W = .ok false W := h 9999
  simp [binOp, h2]
theorem neN (W : World) : (binOp .neq 92 .nilFunc .nilFunc).run Tryz.prog W = .ok (.bool false) W := by
  have h : ∀ d : Nat, (Op.equalIn (d + 1) 92 .nilFunc .nilFunc).run Tryz.prog W = .ok true W := fun d => by
    simp [Op.equalIn, run_underlying Tryz.underlying92]
  have h2 : (Op.equal 92 .nilFunc .nilFunc).run Tryz.prog W = .ok true W := h 9999
  simp [binOp, h2]
theorem plain_yes (op : Int) (op' : Int) (name : ByteArray) (i o c : Int) (b : Bool) (k bl s : Int) (g : Nat)
    (hE : ∀ w, Calls Tryz.prog 45 #[.int .i64 op] w fun e w' => e = .returned (entV op' name i o c b k bl s (.func (.func g) #[] #[])) ∧ Below w.heap.size w w') (w : World) :
    Calls Tryz.prog 27 #[.int .i64 op] w fun e w' => e = .returned (.bool true) ∧ Below w.heap.size w w' := by
  have hfd := fun W => field4 W op' name i o c b k bl s (.func (.func g) #[] #[]) rfl
  have hq := neF
  go_enter Tryz.func27, Tryz.ntmps27
  go_wp2_with fail
  refine (hE _).mono ?_
  rintro e w1 ⟨rfl, h1⟩
  unfold entV
  go_wp2
  go_ret
  exact ⟨rfl, h1⟩
theorem plain_no (op : Int) (op' : Int) (name : ByteArray) (i o c : Int) (b : Bool) (k bl s : Int)
    (hE : ∀ w, Calls Tryz.prog 45 #[.int .i64 op] w fun e w' => e = .returned (entV op' name i o c b k bl s .nilFunc) ∧ Below w.heap.size w w') (w : World) :
    Calls Tryz.prog 27 #[.int .i64 op] w fun e w' => e = .returned (.bool false) ∧ Below w.heap.size w w' := by
  have hfd := fun W => field4 W op' name i o c b k bl s .nilFunc rfl
  have hq := neN
  go_enter Tryz.func27, Tryz.ntmps27
  go_wp2_with fail
  refine (hE _).mono ?_
  rintro e w1 ⟨rfl, h1⟩
  unfold entV
  go_wp2
  go_ret
  exact ⟨rfl, h1⟩
/-- Do of what is not plain. -/
theorem do_code (op : Int) (op' : Int) (name : ByteArray) (i o c : Int) (b : Bool) (k bl s : Int)
    (hE : ∀ w, Calls Tryz.prog 45 #[.int .i64 op] w fun e w' => e = .returned (entV op' name i o c b k bl s .nilFunc) ∧ Below w.heap.size w w') (d r m : Option Addr) (w : World) :
    Calls Tryz.prog 12 #[.int .i64 op, .pointer d, .pointer r, .pointer m] w fun e w' => e = .returned (.int .i64 6) ∧ Below w.heap.size w w' := by
  have qN := eqN
  go_enter Tryz.func12, Tryz.ntmps12
  go_wp2_with fail
  refine (hE _).mono ?_
  rintro e w1 ⟨rfl, h1⟩
  unfold entV
  obtain ⟨w2, hw2, hB2, h2⟩ := ent_block w1 op' name i o c b k bl s .nilFunc
  have hb : Below w.heap.size w w2 := h1.trans ⟨h2.os, h2.tape, h2.output, h2.size, fun k hk => h2.block k (Nat.lt_of_lt_of_le hk h1.size)⟩
  have c9 := S.cell_of w2 w1.heap.size 9 _ 94 _ hB2 rfl
  go_wp2_with (refine wpList_store_row rfl 94 _ _ rfl w1.heap.size _ rfl rfl 94 zE (heap_alloc_new w1 _) (by exact sizeE) (by rfl) (by simp [Value.oneCell']) ?_)
  go_ret
  exact ⟨rfl, hb⟩
/-- Do without a stack or a memory. -/
theorem do_none (op : Int) (op' : Int) (name : ByteArray) (i o c : Int) (b : Bool) (k bl s : Int) (g : Nat)
    (hE : ∀ w, Calls Tryz.prog 45 #[.int .i64 op] w fun e w' => e = .returned (entV op' name i o c b k bl s (.func (.func g) #[] #[])) ∧ Below w.heap.size w w') (d r m : Option Addr) (hn : d = none ∨ r = none ∨ m = none) (w : World) :
    Calls Tryz.prog 12 #[.int .i64 op, .pointer d, .pointer r, .pointer m] w fun e w' => e = .returned (.int .i64 6) ∧ Below w.heap.size w w' := by
  have qF := eqF
  go_enter Tryz.func12, Tryz.ntmps12
  go_wp2_with fail
  refine (hE _).mono ?_
  rintro e w1 ⟨rfl, h1⟩
  unfold entV
  obtain ⟨w2, hw2, hB2, h2⟩ := ent_block w1 op' name i o c b k bl s (.func (.func g) #[] #[])
  have hb : Below w.heap.size w w2 := h1.trans ⟨h2.os, h2.tape, h2.output, h2.size, fun k hk => h2.block k (Nat.lt_of_lt_of_le hk h1.size)⟩
  have c9 := S.cell_of w2 w1.heap.size 9 _ 94 _ hB2 rfl
  have HB := S.hid hb
  clear hb h1 h2 hB2
  rcases d with _ | d
  · go_wp2_with (refine wpList_store_row rfl 94 _ _ rfl w1.heap.size _ rfl rfl 94 zE (heap_alloc_new w1 _) (by exact sizeE) (by rfl) (by simp [Value.oneCell']) ?_)
    go_ret
    exact ⟨rfl, HB.out⟩
  rcases r with _ | r
  · go_wp2_with (refine wpList_store_row rfl 94 _ _ rfl w1.heap.size _ rfl rfl 94 zE (heap_alloc_new w1 _) (by exact sizeE) (by rfl) (by simp [Value.oneCell']) ?_)
    go_ret
    exact ⟨rfl, HB.out⟩
  rcases m with _ | m
  · go_wp2_with (refine wpList_store_row rfl 94 _ _ rfl w1.heap.size _ rfl rfl 94 zE (heap_alloc_new w1 _) (by exact sizeE) (by rfl) (by simp [Value.oneCell']) ?_)
    go_ret
    exact ⟨rfl, HB.out⟩
  · rcases hn with hn | hn | hn <;> cases hn
theorem ofc_none (op : Int) (h : op < 1) (w : World) : Calls Tryz.prog 66 #[.int .i64 op] w fun e w' => e = .returned (entV 0 ⟨#[]⟩ 0 0 0 false 0 0 0 .nilFunc) ∧ Below w.heap.size w w' := by
  have e1 : (op == 1) = false := by simpa using (show op ≠ 1 by omega)
  have e2 : (op == 2) = false := by simpa using (show op ≠ 2 by omega)
  have e3 : (op == 3) = false := by simpa using (show op ≠ 3 by omega)
  have e4 : (op == 4) = false := by simpa using (show op ≠ 4 by omega)
  have e5 : (op == 5) = false := by simpa using (show op ≠ 5 by omega)
  have e6 : (op == 6) = false := by simpa using (show op ≠ 6 by omega)
  have e7 : (op == 7) = false := by simpa using (show op ≠ 7 by omega)
  have e8 : (op == 8) = false := by simpa using (show op ≠ 8 by omega)
  have e9 : (op == 9) = false := by simpa using (show op ≠ 9 by omega)
  have e10 : (op == 10) = false := by simpa using (show op ≠ 10 by omega)
  have e11 : (op == 11) = false := by simpa using (show op ≠ 11 by omega)
  obtain ⟨wA, hA, hb, hz⟩ := mk w
  have hm : Made w wA wA := ⟨hb, hz⟩
  go_enter Tryz.func66, Tryz.ntmps66
  go_wp2_with (refine wpList_store_row rfl 94 _ _ rfl w.heap.size _ rfl rfl 94 zE hz (by exact sizeE) (by rfl) (by simp [Value.oneCell']) ?_)
  exact hm.done rfl rfl rfl
theorem ofd_none (op : Int) (h : 64 ≤ op) (w : World) : Calls Tryz.prog 72 #[.int .i64 op] w fun e w' => e = .returned (entV 0 ⟨#[]⟩ 0 0 0 false 0 0 0 .nilFunc) ∧ Below w.heap.size w w' := by
  have e60 : (op == 60) = false := by simpa using (show op ≠ 60 by omega)
  have e61 : (op == 61) = false := by simpa using (show op ≠ 61 by omega)
  have e62 : (op == 62) = false := by simpa using (show op ≠ 62 by omega)
  have e63 : (op == 63) = false := by simpa using (show op ≠ 63 by omega)
  obtain ⟨wA, hA, hb, hz⟩ := mk w
  have hm : Made w wA wA := ⟨hb, hz⟩
  go_enter Tryz.func72, Tryz.ntmps72
  go_wp2_with (refine wpList_store_row rfl 94 _ _ rfl w.heap.size _ rfl rfl 94 zE hz (by exact sizeE) (by rfl) (by simp [Value.oneCell']) ?_)
  exact hm.done rfl rfl rfl
theorem ent_none (op : Int) (h : op < 1 ∨ 64 ≤ op) (w : World) : Calls Tryz.prog 45 #[.int .i64 op] w fun e w' => e = .returned (entV 0 ⟨#[]⟩ 0 0 0 false 0 0 0 .nilFunc) ∧ Below w.heap.size w w' := by
  obtain ⟨wA, hA, hb, hz⟩ := mk w
  by_cases a : op < 1
  · have e1 : decide (op ≤ 11) = true := decide_eq_true (by omega)
    go_enter Tryz.func45, Tryz.ntmps45
    go_wp2_with fail
    refine (ofc_none op a _).mono ?_
    rintro e w1 ⟨rfl, h1⟩
    have hm := Made.of hb hz h1
    unfold entV
    go_wp2_with (refine wpList_store_row rfl 94 _ _ rfl w.heap.size _ rfl rfl 94 zE hm.blk (by exact sizeE) (by rfl) (by simp [Value.oneCell']) ?_)
    exact hm.done rfl rfl rfl
  · have a2 : 64 ≤ op := by omega
    have f11 : decide (op ≤ 11) = false := decide_eq_false (by omega)
    have f20 : decide (op ≤ 20) = false := decide_eq_false (by omega)
    have f35 : decide (op ≤ 35) = false := decide_eq_false (by omega)
    have f49 : decide (op ≤ 49) = false := decide_eq_false (by omega)
    have f54 : decide (op ≤ 54) = false := decide_eq_false (by omega)
    have f59 : decide (op ≤ 59) = false := decide_eq_false (by omega)
    go_enter Tryz.func45, Tryz.ntmps45
    go_wp2_with fail
    refine (ofd_none op a2 _).mono ?_
    rintro e w1 ⟨rfl, h1⟩
    have hm := Made.of hb hz h1
    unfold entV
    go_wp2_with (refine wpList_store_row rfl 94 _ _ rfl w.heap.size _ rfl rfl 94 zE hm.blk (by exact sizeE) (by rfl) (by simp [Value.oneCell']) ?_)
    exact hm.done rfl rfl rfl
end Go.Proofs.YtgponcjjnjpfkaaGreat.P
/-! The rows by their number; All. -/
namespace Go.Proofs.YtgponcjjnjpfkaaGreat.P
open Go.RowKit Go.Shelf
open Go.Proofs
set_option linter.unusedVariables false
set_option linter.unusedSimpArgs false
set_option maxHeartbeats 2000000
set_option maxRecDepth 100000
attribute [local go_sem] Oper.semAt_some
def nm (x : Nat) : ByteArray := match x with
  | 9 => ⟨#[110, 111, 112]⟩
  | 10 => ⟨#[121, 105, 101, 108, 100]⟩
  | 11 => ⟨#[104, 97, 108, 116]⟩
  | 12 => ⟨#[100, 117, 112]⟩
  | 13 => ⟨#[100, 114, 111, 112]⟩
  | 14 => ⟨#[115, 119, 97, 112]⟩
  | 15 => ⟨#[111, 118, 101, 114]⟩
  | 16 => ⟨#[114, 111, 116]⟩
  | 17 => ⟨#[110, 105, 112]⟩
  | 18 => ⟨#[116, 117, 99, 107]⟩
  | 19 => ⟨#[50, 100, 117, 112]⟩
  | 20 => ⟨#[50, 100, 114, 111, 112]⟩
  | 21 => ⟨#[43]⟩
  | 22 => ⟨#[45]⟩
  | 23 => ⟨#[42]⟩
  | 24 => ⟨#[47]⟩
  | 25 => ⟨#[109, 111, 100]⟩
  | 26 => ⟨#[117, 47]⟩
  | 27 => ⟨#[117, 109, 111, 100]⟩
  | 28 => ⟨#[110, 101, 103, 97, 116, 101]⟩
  | 29 => ⟨#[97, 98, 115]⟩
  | 30 => ⟨#[109, 105, 110]⟩
  | 31 => ⟨#[109, 97, 120]⟩
  | 32 => ⟨#[49, 43]⟩
  | 33 => ⟨#[49, 45]⟩
  | 34 => ⟨#[50, 42]⟩
  | 35 => ⟨#[50, 47]⟩
  | 36 => ⟨#[97, 110, 100]⟩
  | 37 => ⟨#[111, 114]⟩
  | 38 => ⟨#[120, 111, 114]⟩
  | 39 => ⟨#[105, 110, 118, 101, 114, 116]⟩
  | 40 => ⟨#[108, 115, 104, 105, 102, 116]⟩
  | 41 => ⟨#[114, 115, 104, 105, 102, 116]⟩
  | 42 => ⟨#[61]⟩
  | 43 => ⟨#[60, 62]⟩
  | 44 => ⟨#[60]⟩
  | 45 => ⟨#[62]⟩
  | 46 => ⟨#[117, 60]⟩
  | 47 => ⟨#[117, 62]⟩
  | 48 => ⟨#[48, 61]⟩
  | 49 => ⟨#[48, 60]⟩
  | 50 => ⟨#[64]⟩
  | 51 => ⟨#[33]⟩
  | 52 => ⟨#[99, 64]⟩
  | 53 => ⟨#[99, 33]⟩
  | 54 => ⟨#[43, 33]⟩
  | 55 => ⟨#[62, 114]⟩
  | 56 => ⟨#[114, 62]⟩
  | 57 => ⟨#[114, 64]⟩
  | 58 => ⟨#[105]⟩
  | 59 => ⟨#[106]⟩
  | 60 => ⟨#[112, 108, 111, 116]⟩
  | 61 => ⟨#[112, 97, 100]⟩
  | 62 => ⟨#[116, 111, 110, 101]⟩
  | 63 => ⟨#[98, 97, 110, 107]⟩
  | _ => ⟨#[]⟩
def ri (x : Nat) : Int := match x with
  | 5 => 1
  | 6 => 2
  | 12 => 1
  | 13 => 1
  | 14 => 2
  | 15 => 2
  | 16 => 3
  | 17 => 2
  | 18 => 2
  | 19 => 2
  | 20 => 2
  | 21 => 2
  | 22 => 2
  | 23 => 2
  | 24 => 2
  | 25 => 2
  | 26 => 2
  | 27 => 2
  | 28 => 1
  | 29 => 1
  | 30 => 2
  | 31 => 2
  | 32 => 1
  | 33 => 1
  | 34 => 1
  | 35 => 1
  | 36 => 2
  | 37 => 2
  | 38 => 2
  | 39 => 1
  | 40 => 2
  | 41 => 2
  | 42 => 2
  | 43 => 2
  | 44 => 2
  | 45 => 2
  | 46 => 2
  | 47 => 2
  | 48 => 1
  | 49 => 1
  | 50 => 1
  | 51 => 2
  | 52 => 1
  | 53 => 2
  | 54 => 2
  | 55 => 1
  | 60 => 3
  | 62 => 2
  | 63 => 1
  | _ => 0
def ro (x : Nat) : Int := match x with
  | 2 => 1
  | 3 => 1
  | 12 => 2
  | 14 => 2
  | 15 => 3
  | 16 => 3
  | 17 => 1
  | 18 => 3
  | 19 => 4
  | 21 => 1
  | 22 => 1
  | 23 => 1
  | 24 => 1
  | 25 => 1
  | 26 => 1
  | 27 => 1
  | 28 => 1
  | 29 => 1
  | 30 => 1
  | 31 => 1
  | 32 => 1
  | 33 => 1
  | 34 => 1
  | 35 => 1
  | 36 => 1
  | 37 => 1
  | 38 => 1
  | 39 => 1
  | 40 => 1
  | 41 => 1
  | 42 => 1
  | 43 => 1
  | 44 => 1
  | 45 => 1
  | 46 => 1
  | 47 => 1
  | 48 => 1
  | 49 => 1
  | 50 => 1
  | 52 => 1
  | 56 => 1
  | 57 => 1
  | 58 => 1
  | 59 => 1
  | 61 => 1
  | _ => 0
def rc (x : Nat) : Int := match x with
  | 1 => 2
  | 2 => 2
  | 3 => 2
  | 4 => 2
  | 5 => 2
  | 6 => 3
  | 7 => 3
  | 8 => 2
  | 19 => 2
  | 23 => 3
  | 24 => 4
  | 25 => 4
  | 26 => 4
  | 27 => 4
  | 50 => 2
  | 51 => 2
  | 52 => 2
  | 53 => 2
  | 54 => 3
  | 60 => 3
  | 62 => 2
  | _ => 1
def rb (x : Nat) : Bool := match x with
  | 3 => true
  | 4 => true
  | 5 => true
  | 7 => true
  | _ => false
def rowN (x : Nat) : Value := rowV (x : Int) (nm x) (ri x) (ro x) (rc x) (rb x)
theorem num_cases (x : Nat) (h1 : 1 ≤ x) (h2 : x < 64) : x = 1 ∨ x = 2 ∨ x = 3 ∨ x = 4 ∨ x = 5 ∨ x = 6 ∨ x = 7 ∨ x = 8 ∨ x = 9 ∨ x = 10 ∨ x = 11 ∨ x = 12 ∨ x = 13 ∨ x = 14 ∨ x = 15 ∨ x = 16 ∨ x = 17 ∨ x = 18 ∨ x = 19 ∨ x = 20 ∨ x = 21 ∨ x = 22 ∨ x = 23 ∨ x = 24 ∨ x = 25 ∨ x = 26 ∨ x = 27 ∨ x = 28 ∨ x = 29 ∨ x = 30 ∨ x = 31 ∨ x = 32 ∨ x = 33 ∨ x = 34 ∨ x = 35 ∨ x = 36 ∨ x = 37 ∨ x = 38 ∨ x = 39 ∨ x = 40 ∨ x = 41 ∨ x = 42 ∨ x = 43 ∨ x = 44 ∨ x = 45 ∨ x = 46 ∨ x = 47 ∨ x = 48 ∨ x = 49 ∨ x = 50 ∨ x = 51 ∨ x = 52 ∨ x = 53 ∨ x = 54 ∨ x = 55 ∨ x = 56 ∨ x = 57 ∨ x = 58 ∨ x = 59 ∨ x = 60 ∨ x = 61 ∨ x = 62 ∨ x = 63 := by omega
theorem ent_at (x : Nat) (h1 : 1 ≤ x) (h2 : x < 64) : ∃ (k bl s : Int) (f : Value), f.oneCell' = true ∧ (f = .nilFunc ∨ ∃ g, f = .func (.func g) #[] #[]) ∧ ∀ w, Calls Tryz.prog 45 #[.int .i64 (x : Int)] w fun e w' => e = .returned (entV (x : Int) (nm x) (ri x) (ro x) (rc x) (rb x) k bl s f) ∧ Below w.heap.size w w' := by
  rcases num_cases x h1 h2 with rfl | rfl | rfl | rfl | rfl | rfl | rfl | rfl | rfl | rfl | rfl | rfl | rfl | rfl | rfl | rfl | rfl | rfl | rfl | rfl | rfl | rfl | rfl | rfl | rfl | rfl | rfl | rfl | rfl | rfl | rfl | rfl | rfl | rfl | rfl | rfl | rfl | rfl | rfl | rfl | rfl | rfl | rfl | rfl | rfl | rfl | rfl | rfl | rfl | rfl | rfl | rfl | rfl | rfl | rfl | rfl | rfl | rfl | rfl | rfl | rfl | rfl | rfl
  · exact ⟨_, _, _, _, rfl, .inl rfl, ent_1⟩
  · exact ⟨_, _, _, _, rfl, .inl rfl, ent_2⟩
  · exact ⟨_, _, _, _, rfl, .inl rfl, ent_3⟩
  · exact ⟨_, _, _, _, rfl, .inl rfl, ent_4⟩
  · exact ⟨_, _, _, _, rfl, .inl rfl, ent_5⟩
  · exact ⟨_, _, _, _, rfl, .inr ⟨_, rfl⟩, ent_6⟩
  · exact ⟨_, _, _, _, rfl, .inl rfl, ent_7⟩
  · exact ⟨_, _, _, _, rfl, .inl rfl, ent_8⟩
  · exact ⟨_, _, _, _, rfl, .inr ⟨_, rfl⟩, ent_9⟩
  · exact ⟨_, _, _, _, rfl, .inl rfl, ent_10⟩
  · exact ⟨_, _, _, _, rfl, .inl rfl, ent_11⟩
  · exact ⟨_, _, _, _, rfl, .inr ⟨_, rfl⟩, ent_12⟩
  · exact ⟨_, _, _, _, rfl, .inr ⟨_, rfl⟩, ent_13⟩
  · exact ⟨_, _, _, _, rfl, .inr ⟨_, rfl⟩, ent_14⟩
  · exact ⟨_, _, _, _, rfl, .inr ⟨_, rfl⟩, ent_15⟩
  · exact ⟨_, _, _, _, rfl, .inr ⟨_, rfl⟩, ent_16⟩
  · exact ⟨_, _, _, _, rfl, .inr ⟨_, rfl⟩, ent_17⟩
  · exact ⟨_, _, _, _, rfl, .inr ⟨_, rfl⟩, ent_18⟩
  · exact ⟨_, _, _, _, rfl, .inr ⟨_, rfl⟩, ent_19⟩
  · exact ⟨_, _, _, _, rfl, .inr ⟨_, rfl⟩, ent_20⟩
  · exact ⟨_, _, _, _, rfl, .inr ⟨_, rfl⟩, ent_21⟩
  · exact ⟨_, _, _, _, rfl, .inr ⟨_, rfl⟩, ent_22⟩
  · exact ⟨_, _, _, _, rfl, .inr ⟨_, rfl⟩, ent_23⟩
  · exact ⟨_, _, _, _, rfl, .inr ⟨_, rfl⟩, ent_24⟩
  · exact ⟨_, _, _, _, rfl, .inr ⟨_, rfl⟩, ent_25⟩
  · exact ⟨_, _, _, _, rfl, .inr ⟨_, rfl⟩, ent_26⟩
  · exact ⟨_, _, _, _, rfl, .inr ⟨_, rfl⟩, ent_27⟩
  · exact ⟨_, _, _, _, rfl, .inr ⟨_, rfl⟩, ent_28⟩
  · exact ⟨_, _, _, _, rfl, .inr ⟨_, rfl⟩, ent_29⟩
  · exact ⟨_, _, _, _, rfl, .inr ⟨_, rfl⟩, ent_30⟩
  · exact ⟨_, _, _, _, rfl, .inr ⟨_, rfl⟩, ent_31⟩
  · exact ⟨_, _, _, _, rfl, .inr ⟨_, rfl⟩, ent_32⟩
  · exact ⟨_, _, _, _, rfl, .inr ⟨_, rfl⟩, ent_33⟩
  · exact ⟨_, _, _, _, rfl, .inr ⟨_, rfl⟩, ent_34⟩
  · exact ⟨_, _, _, _, rfl, .inr ⟨_, rfl⟩, ent_35⟩
  · exact ⟨_, _, _, _, rfl, .inr ⟨_, rfl⟩, ent_36⟩
  · exact ⟨_, _, _, _, rfl, .inr ⟨_, rfl⟩, ent_37⟩
  · exact ⟨_, _, _, _, rfl, .inr ⟨_, rfl⟩, ent_38⟩
  · exact ⟨_, _, _, _, rfl, .inr ⟨_, rfl⟩, ent_39⟩
  · exact ⟨_, _, _, _, rfl, .inr ⟨_, rfl⟩, ent_40⟩
  · exact ⟨_, _, _, _, rfl, .inr ⟨_, rfl⟩, ent_41⟩
  · exact ⟨_, _, _, _, rfl, .inr ⟨_, rfl⟩, ent_42⟩
  · exact ⟨_, _, _, _, rfl, .inr ⟨_, rfl⟩, ent_43⟩
  · exact ⟨_, _, _, _, rfl, .inr ⟨_, rfl⟩, ent_44⟩
  · exact ⟨_, _, _, _, rfl, .inr ⟨_, rfl⟩, ent_45⟩
  · exact ⟨_, _, _, _, rfl, .inr ⟨_, rfl⟩, ent_46⟩
  · exact ⟨_, _, _, _, rfl, .inr ⟨_, rfl⟩, ent_47⟩
  · exact ⟨_, _, _, _, rfl, .inr ⟨_, rfl⟩, ent_48⟩
  · exact ⟨_, _, _, _, rfl, .inr ⟨_, rfl⟩, ent_49⟩
  · exact ⟨_, _, _, _, rfl, .inr ⟨_, rfl⟩, ent_50⟩
  · exact ⟨_, _, _, _, rfl, .inr ⟨_, rfl⟩, ent_51⟩
  · exact ⟨_, _, _, _, rfl, .inr ⟨_, rfl⟩, ent_52⟩
  · exact ⟨_, _, _, _, rfl, .inr ⟨_, rfl⟩, ent_53⟩
  · exact ⟨_, _, _, _, rfl, .inr ⟨_, rfl⟩, ent_54⟩
  · exact ⟨_, _, _, _, rfl, .inr ⟨_, rfl⟩, ent_55⟩
  · exact ⟨_, _, _, _, rfl, .inr ⟨_, rfl⟩, ent_56⟩
  · exact ⟨_, _, _, _, rfl, .inr ⟨_, rfl⟩, ent_57⟩
  · exact ⟨_, _, _, _, rfl, .inr ⟨_, rfl⟩, ent_58⟩
  · exact ⟨_, _, _, _, rfl, .inr ⟨_, rfl⟩, ent_59⟩
  · exact ⟨_, _, _, _, rfl, .inr ⟨_, rfl⟩, ent_60⟩
  · exact ⟨_, _, _, _, rfl, .inr ⟨_, rfl⟩, ent_61⟩
  · exact ⟨_, _, _, _, rfl, .inr ⟨_, rfl⟩, ent_62⟩
  · exact ⟨_, _, _, _, rfl, .inr ⟨_, rfl⟩, ent_63⟩
theorem of_at (x : Nat) (h1 : 1 ≤ x) (h2 : x < 64) (w : World) : Calls Tryz.prog 26 #[.int .i64 (x : Int)] w fun e w' => e = .returned (.tuple #[rowN x, .int .i64 0]) ∧ Below w.heap.size w w' := by
  obtain ⟨k, bl, s, f, _, _, hE⟩ := ent_at x h1 h2
  exact of_yes _ _ _ _ _ _ _ _ _ _ (by omega) (by omega) hE w
def allN : List Nat := List.range' 1 63
theorem grown_of {W W' : World} (b : Below W.heap.size W W') : W.grownBy W' none := ⟨b.os, b.tape, b.output, b.size, fun k hk _ => b.block k hk⟩
theorem range_snoc (k : Nat) : List.range' 1 k ++ [1 + k] = List.range' 1 (k + 1) := by rw [List.range'_1_concat]
theorem range_pre (k : Nat) (h : k ≤ 63) : List.range' 1 k <+: allN := by
  refine ⟨List.range' (1 + k) (63 - k), ?_⟩
  rw [allN, List.range'_append_1, show k + (63 - k) = 63 by omega]
theorem all_stops (n n₀ : Nat) (hn : 1 ≤ n) (w : World) :
    SeqStopsK Fence.wide n Tryz.prog 54 #[] (fun x : Nat => #[rowV (x : Int) (nm x) (ri x) (ro x) (rc x) (rb x)]) (Below n₀) (fun xs => xs = allN) (fun pre => pre <+: allN) 63 w := fun l J Jx W hW hJ hJx hY h0 => by
  refine callsIn_of_wp Tryz.func54 rfl trivial ?_ rfl
  simp only [Tryz.ntmps54, List.size_toArray, List.length_cons, List.length_nil, Nat.reduceAdd, Nat.reduceSub, Array.replicate_succ, Array.replicate_zero, List.push_toArray, List.append_toArray, List.nil_append, List.cons_append]
  have hfd := field0
  unfold rowV at hfd
  gi_wp2
  gi_loopw [2] (fun i wr => ∃ k : Nat, k ≤ 63 ∧ i = .int .i64 ((1 + k : Nat) : Int) ∧ J (List.range' 1 k) wr) (fun i _ => 64 - (intOf i).toNat)
  case atStart => exact ⟨0, by omega, rfl, h0⟩
  case round =>
    obtain ⟨k, hk, rfl, hJs⟩ := hrel
    by_cases hlt : k < 63
    · obtain ⟨kk, bl, s, f, hf, _, hE⟩ := ent_at (1 + k) (by omega) (by omega)
      have hYk : ∀ W1, J (List.range' 1 k) W1 → _ := fun W1 h => hY (List.range' 1 k) (1 + k) W1 h (by simp; omega)
      have hpre := range_pre (k + 1) (by omega)
      rw [← range_snoc] at hpre
      have hi0 : ((1 + k : Nat) : Int) < 64 := by omega
      have hn1 : IntKind.i64.wrap (((1 + k : Nat) : Int) + 1) = ((1 + (k + 1) : Nat) : Int) := by rw [S.i64_id _ (by omega) (by omega)]; omega
      have hms : (64 - (((1 + (k + 1) : Nat) : Int)).toNat) < 64 - (((1 + k : Nat) : Int)).toNat := by omega
      generalize hz : ((1 + k : Nat) : Int) = z at *
      generalize hz2 : ((1 + (k + 1) : Nat) : Int) = z2 at *

      generalize nm (1 + k) = a1 at *
      generalize ri (1 + k) = a2 at *
      generalize ro (1 + k) = a3 at *
      generalize rc (1 + k) = a4 at *
      generalize rb (1 + k) = a5 at *
      have HZ := S.hid (And.intro hz hz2)
      have HM := S.hid hms
      clear hz hz2 hms
      gi_wp2_with (refine ⟨trivial, ?_⟩; gi_at_call 45; refine (callsIn_wide.2 (hE _)).mono ?_; rintro e w1 ⟨rfl, hB⟩; unfold entV; obtain ⟨fn, tmps, assign, body, hy, hR⟩ := hYk w1 (hJ _ _ _ none hJs (grown_of hB) (fun r e => by cases e)); unfold rowV at hy)
      refine hR.mono ?_
      rintro e W3 (⟨rfl, hJ3, hk3⟩ | ⟨rfl, hJx3⟩)
      · gi_wp2
        rw [range_snoc] at hJ3
        refine ⟨⟨k + 1, by omega, by rw [HZ.out.2], hJ3⟩, ?_⟩
        have := HM.out
        simpa [intOf] using this
      · gi_wp2
        refine bodyPost_ret (results_none rfl _ _ _) rfl ?_
        exact ⟨⟨_, rfl⟩, .inr ⟨_, hpre, hJx3⟩⟩
    · obtain rfl : k = 63 := by omega
      gi_wp2
      go_end0
      exact ⟨⟨_, rfl⟩, .inl ⟨_, rfl, hJs⟩⟩
end Go.Proofs.YtgponcjjnjpfkaaGreat.P
/-! Named. -/
namespace Go.Proofs.YtgponcjjnjpfkaaGreat.P
open Go.RowKit Go.Shelf
open Go.Proofs
set_option linter.unusedVariables false
set_option linter.unusedSimpArgs false
set_option maxHeartbeats 2000000
set_option maxRecDepth 100000
attribute [local go_sem] Oper.semAt_some
theorem all_any (w : World) : Calls Tryz.prog 23 #[] w fun e w' => e = .returned (.func (.func 54) #[] #[]) ∧ w' = w := by
  go_enter Tryz.func23, Tryz.ntmps23
  go_wp2
  go_ret
  exact ⟨rfl, rfl⟩
theorem blk_kept {W W' : World} {row : Option Nat} {b : Nat} {c : Array Value} {t : TypeId} {x : Nat × Nat} (h : W.heap[b]? = some (.cells c t x)) (hg : W.grownBy W' row) (hr : ∀ r, row = some r → ∃ o : Obj, W.heap[r]? = some o ∧ o.isCells = false) : W'.heap[b]? = some (.cells c t x) := by
  refine (hg.block b (S.lt_of h) ?_).trans h
  intro e
  obtain ⟨o, ho, hc⟩ := hr b e.symm
  rw [h] at ho
  cases ho
  cases hc
def rowC (x : Nat) : Array Value := #[.int .i64 (x : Int), .string (nm x), .int .i64 (ri x), .int .i64 (ro x), .int .i64 (rc x), .bool (rb x)]
/-- Named's three blocks. -/
def NB (W : World) (B : Nat) (name : ByteArray) (c : Array Value) (b : Bool) : Prop := W.heap[B]? = some (.cells #[.string name] 9 (0, 0)) ∧ W.heap[B + 1]? = some (.cells c 59 (0, 0)) ∧ W.heap[B + 2]? = some (.cells #[.bool b] 4 (0, 0))
theorem NB.kept {W W' : World} {row : Option Nat} {B : Nat} {name : ByteArray} {c : Array Value} {b : Bool} (h : NB W B name c b) (hg : W.grownBy W' row) (hr : ∀ r, row = some r → ∃ o : Obj, W.heap[r]? = some o ∧ o.isCells = false) : NB W' B name c b :=
  ⟨blk_kept h.1 hg hr, blk_kept h.2.1 hg hr, blk_kept h.2.2 hg hr⟩
theorem ko {W W' : World} (h : KeepsOthers W W') (p : Addr) (v : Value) : KeepsOthers W (W'.setCell p v) := h.trans (KeepsOthers.setCell _ _ _)
theorem named_yes (name : ByteArray) (hne : name.toList.isEmpty = false) (w : World) :
    Calls Tryz.prog 29 #[.string name] w fun e w' => ((∃ x, x ∈ allN ∧ (nm x).toList = name.toList ∧ e = .returned (.tuple #[rowN x, .bool true])) ∨ ((∀ x ∈ allN, (nm x).toList ≠ name.toList) ∧ e = .returned (.tuple #[rowV 0 ⟨#[]⟩ 0 0 0 false, .bool false]))) ∧ Below w.heap.size w w' := by
  refine (callsIn_wide (n := 9)).1 ?_
  refine callsIn_of_wp_marks Tryz.func29 rfl trivial ?_ rfl
  simp only [Tryz.ntmps29, List.size_toArray, List.length_cons, List.length_nil, Nat.reduceAdd, Nat.reduceSub, Array.replicate_succ, Array.replicate_zero, List.push_toArray, List.append_toArray, List.nil_append, List.cons_append]
  gi_wp2_with (refine ⟨trivial, ?_⟩; gi_at_call 23; refine (callsIn_wide.2 (all_any _)).mono ?_; rintro e w' ⟨rfl, rfl⟩)
  obtain ⟨w0, hw0⟩ : ∃ w0, ((w.alloc (.cells #[.string name] 9)).alloc (.cells #[.int .i64 0, .string { data := #[] }, .int .i64 0, .int .i64 0, .int .i64 0, .bool false] 59)).alloc (.cells #[.bool false] 4) = w0 := ⟨_, rfl⟩
  have hB0 : Below w.heap.size w w0 := by rw [← hw0]; exact (((Below.refl _ w).alloc (Nat.le_refl _) _).alloc (by simp) _).alloc (by simp; omega) _
  have hsz : w0.heap.size = w.heap.size + 3 := by rw [← hw0]; simp
  have hN0 : NB w0 w.heap.size name zR false := by
    rw [← hw0]
    have z1 : (w.alloc (.cells #[.string name] 9)).heap.size = w.heap.size + 1 := by simp
    have z2 : ((w.alloc (.cells #[.string name] 9)).alloc (.cells #[.int .i64 0, .string { data := #[] }, .int .i64 0, .int .i64 0, .int .i64 0, .bool false] 59)).heap.size = w.heap.size + 2 := by simp
    refine ⟨?_, ?_, ?_⟩
    · exact (Below.heap_alloc _ _ _ (by omega)).trans ((Below.heap_alloc _ _ _ (by omega)).trans (heap_alloc_new w _))
    · exact (Below.heap_alloc _ _ _ (by omega)).trans (heap_alloc2_new w _ _)
    · have := heap_alloc_new ((w.alloc (.cells #[.string name] 9)).alloc (.cells #[.int .i64 0, .string { data := #[] }, .int .i64 0, .int .i64 0, .int .i64 0, .bool false] 59)) (.cells #[.bool false] 4)
      rw [z2] at this; exact this
  rw [hw0]
  refine wpIn_rangeFunc_ownH rfl (by omega) (gf := 54) (lb := #[]) rfl trivial Tryz.call54 (all_stops 8 w.heap.size (by omega) w0) belowK_t (belowK_b (by omega)) (Below.refl _ _) (fun _ => rfl)
    (fun pre W => ((∀ y ∈ pre, (nm y).toList ≠ name.toList) ∧ NB W w.heap.size name zR false) ∧ Below w.heap.size w W)
    (fun c pre W => (c = .ret ∧ (∃ y, y ∈ pre ∧ (nm y).toList = name.toList ∧ NB W w.heap.size name (rowC y) true)) ∧ Below w.heap.size w W)
    (OwnFrom.and (Own.from (fun s A B row hs hg hr => ⟨hs.1, hs.2.kept hg hr⟩) _) (ownFrom_below (Nat.le_refl _) (by omega)))
    (fun c => OwnFrom.and (Own.from (fun s A B row hs hg hr => ⟨hs.1, by obtain ⟨y, h1, h2, h3⟩ := hs.2; exact ⟨y, h1, h2, h3.kept hg hr⟩⟩) _) (ownFrom_below (Nat.le_refl _) (by omega)))
    ⟨⟨by simp, hN0⟩, hB0⟩
    (fun x a' W => ∃ Bx, w0.heap.size ≤ Bx ∧ W.heap[Bx]? = some (.cells #[.int .i64 (x : Int), .string (nm x), .int .i64 (ri x), .int .i64 (ro x), .int .i64 (rc x), .bool (rb x)] 59 (0, 0)) ∧ a' = { tmps := #[.string name, .pointer (some ⟨w.heap.size, 0, none⟩), .pointer (some ⟨w.heap.size + 1, 0, none⟩), .pointer (some ⟨w.heap.size + 1 + 1, 0, none⟩), .pointer (some ⟨Bx, 0, none⟩), .string name, .bool false, undef, .func (.func 54) #[] #[], .agg #[.int .i64 (x : Int), .string (nm x), .int .i64 (ri x), .int .i64 (ro x), .int .i64 (rc x), .bool (rb x)], undef, undef, undef, undef, undef, undef], defers := [] })
    (fun x a' s A B row hs hg hr => by obtain ⟨Bx, h1, h2, h3⟩ := hs; exact ⟨Bx, h1, blk_kept h2 hg (fun r e => (hr r e).2), h3⟩) ?assign ?body ?done ?stop
  case assign =>
    rintro l pre x W K ⟨⟨hp, hN⟩, hB⟩ hK
    have hs : w0.heap.size ≤ W.heap.size := by have := S.lt_of hN.2.2; omega
    unfold rowV
    gi_wp2
    exact hK _ _ ((KeepsOthers.alloc _ _).from _) ((Below.refl _ W).alloc (by omega) _) ⟨⟨hp, hN.kept (World.grownBy_alloc W _ none) (fun r e => by cases e)⟩, hB.alloc hB.size _⟩ ⟨W.heap.size, hs, heap_alloc_new W _, rfl⟩
  case body =>
    rintro l pre x a' W hl ⟨r, hr⟩ ⟨⟨hp, hN⟩, hB⟩ ⟨Bx, hBx, hX, rfl⟩ hlt
    have cN := S.cell_of W w.heap.size 0 [.string name] 9 _ hN.1 rfl
    have c0 := S.cell_of W Bx 0 [.int .i64 (x : Int), .string (nm x), .int .i64 (ri x), .int .i64 (ro x), .int .i64 (rc x), .bool (rb x)] 59 _ hX rfl
    have c1 := S.cell_of W Bx 1 [.int .i64 (x : Int), .string (nm x), .int .i64 (ri x), .int .i64 (ro x), .int .i64 (rc x), .bool (rb x)] 59 _ hX rfl
    have c2 := S.cell_of W Bx 2 [.int .i64 (x : Int), .string (nm x), .int .i64 (ri x), .int .i64 (ro x), .int .i64 (rc x), .bool (rb x)] 59 _ hX rfl
    have c3 := S.cell_of W Bx 3 [.int .i64 (x : Int), .string (nm x), .int .i64 (ri x), .int .i64 (ro x), .int .i64 (rc x), .bool (rb x)] 59 _ hX rfl
    have c4 := S.cell_of W Bx 4 [.int .i64 (x : Int), .string (nm x), .int .i64 (ri x), .int .i64 (ro x), .int .i64 (rc x), .bool (rb x)] 59 _ hX rfl
    have c5 := S.cell_of W Bx 5 [.int .i64 (x : Int), .string (nm x), .int .i64 (ri x), .int .i64 (ro x), .int .i64 (rc x), .bool (rb x)] 59 _ hX rfl
    have d0 := S.cell_of W (w.heap.size + 1) 0 [.int .i64 0, .string { data := #[] }, .int .i64 0, .int .i64 0, .int .i64 0, .bool false] 59 _ hN.2.1 rfl
    have d1 := S.cell_of W (w.heap.size + 1) 1 [.int .i64 0, .string { data := #[] }, .int .i64 0, .int .i64 0, .int .i64 0, .bool false] 59 _ hN.2.1 rfl
    have d2 := S.cell_of W (w.heap.size + 1) 2 [.int .i64 0, .string { data := #[] }, .int .i64 0, .int .i64 0, .int .i64 0, .bool false] 59 _ hN.2.1 rfl
    have d3 := S.cell_of W (w.heap.size + 1) 3 [.int .i64 0, .string { data := #[] }, .int .i64 0, .int .i64 0, .int .i64 0, .bool false] 59 _ hN.2.1 rfl
    have d4 := S.cell_of W (w.heap.size + 1) 4 [.int .i64 0, .string { data := #[] }, .int .i64 0, .int .i64 0, .int .i64 0, .bool false] 59 _ hN.2.1 rfl
    have d5 := S.cell_of W (w.heap.size + 1) 5 [.int .i64 0, .string { data := #[] }, .int .i64 0, .int .i64 0, .int .i64 0, .bool false] 59 _ hN.2.1 rfl
    have e0 := S.cell_of W (w.heap.size + 2) 0 [.bool false] 4 _ hN.2.2 rfl
    have f1 : ∀ i, W.frozen? ⟨w.heap.size + 1, i, none⟩ = false := fun i => S.frozen_of W (w.heap.size + 1) i [.int .i64 0, .string { data := #[] }, .int .i64 0, .int .i64 0, .int .i64 0, .bool false] 59 hN.2.1
    have f2 := S.frozen_of W (w.heap.size + 2) 0 [.bool false] 4 hN.2.2
    have hne1 : w.heap.size + 1 ≠ w.heap.size + 2 := by omega
    by_cases hx : ((nm x).toList == name.toList) = true
    · gi_wp2
      have q := S.setCell_heap _ (w.heap.size + 1) 5 _ 59 (.bool (rb x)) (S.setCell_heap _ (w.heap.size + 1) 4 _ 59 (.int .i64 (rc x)) (S.setCell_heap _ (w.heap.size + 1) 3 _ 59 (.int .i64 (ro x)) (S.setCell_heap _ (w.heap.size + 1) 2 _ 59 (.int .i64 (ri x)) (S.setCell_heap _ (w.heap.size + 1) 1 _ 59 (.string (nm x)) (S.setCell_heap W (w.heap.size + 1) 0 [.int .i64 0, .string { data := #[] }, .int .i64 0, .int .i64 0, .int .i64 0, .bool false] 59 (.int .i64 (x : Int)) hN.2.1)))))
      have t1 : ∀ (V : World) (i : Nat) (v : Value) (k : Nat), k ≠ w.heap.size + 1 → (V.setCell ⟨w.heap.size + 1, i, none⟩ v).heap[k]? = V.heap[k]? := fun V i v k h => S.setCell_other V _ _ _ _ h
      refine ⟨(ko (ko (ko (ko (ko (ko (ko (KeepsOthers.refl _) _ _) _ _) _ _) _ _) _ _) _ _) _ _).from _, ⟨rfl, x, by simp, eq_of_beq hx, ?_, ?_, ?_⟩, ?_⟩
      · rw [S.setCell_other _ _ _ _ _ (by omega), t1 _ _ _ _ (by omega), t1 _ _ _ _ (by omega), t1 _ _ _ _ (by omega), t1 _ _ _ _ (by omega), t1 _ _ _ _ (by omega), t1 _ _ _ _ (by omega)]; exact hN.1
      · rw [S.setCell_other _ _ _ _ _ (by omega)]; exact q
      · refine S.setCell_heap _ (w.heap.size + 2) 0 [.bool false] 4 _ ?_
        rw [t1 _ _ _ _ (by omega), t1 _ _ _ _ (by omega), t1 _ _ _ _ (by omega), t1 _ _ _ _ (by omega), t1 _ _ _ _ (by omega), t1 _ _ _ _ (by omega)]; exact hN.2.2
      · have t2 : ∀ (V : World), Below w.heap.size w V → ∀ (b i : Nat) (v : Value), w.heap.size ≤ b → Below w.heap.size w (V.setCell ⟨b, i, none⟩ v) := fun V h b i v hb => h.setCell (p := ⟨b, i, none⟩) hb v
        exact t2 _ (t2 _ (t2 _ (t2 _ (t2 _ (t2 _ (t2 _ hB _ _ _ (by omega)) _ _ _ (by omega)) _ _ _ (by omega)) _ _ _ (by omega)) _ _ _ (by omega)) _ _ _ (by omega)) _ _ _ (by omega)
    · have hx' : ((nm x).toList == name.toList) = false := by simpa using hx
      gi_wp2
      refine ⟨KeepsFrom.refl _ _, Below.refl _ _, ⟨fun y hy => ?_, hN⟩, hB⟩
      rcases List.mem_append.1 hy with hy | hy
      · exact hp y hy
      · simp at hy; subst hy; exact fun e => hx (by rw [e]; simp)
  case done =>
    rintro D ys W hD rfl ⟨⟨hne, hN⟩, hB⟩ hK
    have e0 := S.cell_of W (w.heap.size + 2) 0 [.bool false] 4 _ hN.2.2 rfl
    have f2 := S.frozen_of W (w.heap.size + 2) 0 [.bool false] 4 hN.2.2
    have d0 := S.cell_of W (w.heap.size + 1) 0 [.int .i64 0, .string { data := #[] }, .int .i64 0, .int .i64 0, .int .i64 0, .bool false] 59 _ hN.2.1 rfl
    have d1 := S.cell_of W (w.heap.size + 1) 1 [.int .i64 0, .string { data := #[] }, .int .i64 0, .int .i64 0, .int .i64 0, .bool false] 59 _ hN.2.1 rfl
    have d2 := S.cell_of W (w.heap.size + 1) 2 [.int .i64 0, .string { data := #[] }, .int .i64 0, .int .i64 0, .int .i64 0, .bool false] 59 _ hN.2.1 rfl
    have d3 := S.cell_of W (w.heap.size + 1) 3 [.int .i64 0, .string { data := #[] }, .int .i64 0, .int .i64 0, .int .i64 0, .bool false] 59 _ hN.2.1 rfl
    have d4 := S.cell_of W (w.heap.size + 1) 4 [.int .i64 0, .string { data := #[] }, .int .i64 0, .int .i64 0, .int .i64 0, .bool false] 59 _ hN.2.1 rfl
    have d5 := S.cell_of W (w.heap.size + 1) 5 [.int .i64 0, .string { data := #[] }, .int .i64 0, .int .i64 0, .int .i64 0, .bool false] 59 _ hN.2.1 rfl
    have f1 : ∀ i, W.frozen? ⟨w.heap.size + 1, i, none⟩ = false := fun i => S.frozen_of W (w.heap.size + 1) i [.int .i64 0, .string { data := #[] }, .int .i64 0, .int .i64 0, .int .i64 0, .bool false] 59 hN.2.1
    gi_wp2
    have q := S.setCell_heap _ (w.heap.size + 1) 5 _ 59 (.bool false) (S.setCell_heap _ (w.heap.size + 1) 4 _ 59 (.int .i64 0) (S.setCell_heap _ (w.heap.size + 1) 3 _ 59 (.int .i64 0) (S.setCell_heap _ (w.heap.size + 1) 2 _ 59 (.int .i64 0) (S.setCell_heap _ (w.heap.size + 1) 1 _ 59 (.string { data := #[] }) (S.setCell_heap W (w.heap.size + 1) 0 [.int .i64 0, .string { data := #[] }, .int .i64 0, .int .i64 0, .int .i64 0, .bool false] 59 (.int .i64 0) hN.2.1)))))
    have t1 : ∀ (V : World) (i : Nat) (v : Value) (k : Nat), k ≠ w.heap.size + 1 → (V.setCell ⟨w.heap.size + 1, i, none⟩ v).heap[k]? = V.heap[k]? := fun V i v k h => S.setCell_other V _ _ _ _ h
    have hk7 := ko (ko (ko (ko (ko (ko (ko (KeepsOthers.refl W) ⟨w.heap.size + 1, 0, none⟩ (.int .i64 0)) ⟨w.heap.size + 1, 1, none⟩ (.string { data := #[] })) ⟨w.heap.size + 1, 2, none⟩ (.int .i64 0)) ⟨w.heap.size + 1, 3, none⟩ (.int .i64 0)) ⟨w.heap.size + 1, 4, none⟩ (.int .i64 0)) ⟨w.heap.size + 1, 5, none⟩ (.bool false)) ⟨w.heap.size + 2, 0, none⟩ (.bool false)
    have HKK := hk7.same D _ hK rfl
    have HNB : NB (((((((W.setCell ⟨w.heap.size + 1, 0, none⟩ (.int .i64 0)).setCell ⟨w.heap.size + 1, 1, none⟩ (.string { data := #[] })).setCell ⟨w.heap.size + 1, 2, none⟩ (.int .i64 0)).setCell ⟨w.heap.size + 1, 3, none⟩ (.int .i64 0)).setCell ⟨w.heap.size + 1, 4, none⟩ (.int .i64 0)).setCell ⟨w.heap.size + 1, 5, none⟩ (.bool false)).setCell ⟨w.heap.size + 2, 0, none⟩ (.bool false)) w.heap.size name #[.int .i64 0, .string { data := #[] }, .int .i64 0, .int .i64 0, .int .i64 0, .bool false] false := by
      refine ⟨?_, ?_, ?_⟩
      · rw [S.setCell_other _ _ _ _ _ (by omega), t1 _ _ _ _ (by omega), t1 _ _ _ _ (by omega), t1 _ _ _ _ (by omega), t1 _ _ _ _ (by omega), t1 _ _ _ _ (by omega), t1 _ _ _ _ (by omega)]; exact hN.1
      · rw [S.setCell_other _ _ _ _ _ (by omega)]; exact q
      · refine S.setCell_heap _ (w.heap.size + 2) 0 [.bool false] 4 _ ?_
        rw [t1 _ _ _ _ (by omega), t1 _ _ _ _ (by omega), t1 _ _ _ _ (by omega), t1 _ _ _ _ (by omega), t1 _ _ _ _ (by omega), t1 _ _ _ _ (by omega)]; exact hN.2.2
    have t2 : ∀ (V : World), Below w.heap.size w V → ∀ (b i : Nat) (v : Value), w.heap.size ≤ b → Below w.heap.size w (V.setCell ⟨b, i, none⟩ v) := fun V h b i v hb => h.setCell (p := ⟨b, i, none⟩) hb v
    have HBB := t2 _ (t2 _ (t2 _ (t2 _ (t2 _ (t2 _ (t2 _ hB (w.heap.size + 1) 0 (.int .i64 0) (by omega)) (w.heap.size + 1) 1 (.string { data := #[] }) (by omega)) (w.heap.size + 1) 2 (.int .i64 0) (by omega)) (w.heap.size + 1) 3 (.int .i64 0) (by omega)) (w.heap.size + 1) 4 (.int .i64 0) (by omega)) (w.heap.size + 1) 5 (.bool false) (by omega)) (w.heap.size + 2) 0 (.bool false) (by omega)
    have hN5 := NB.kept HNB (grownBy_putObj' _ D (.deferred none)) (fun r e => by cases e; exact ⟨_, HKK, rfl⟩)
    have g0 := S.cell_of _ (w.heap.size + 1) 0 [.int .i64 0, .string { data := #[] }, .int .i64 0, .int .i64 0, .int .i64 0, .bool false] 59 _ hN5.2.1 rfl
    have g1 := S.cell_of _ (w.heap.size + 1) 1 [.int .i64 0, .string { data := #[] }, .int .i64 0, .int .i64 0, .int .i64 0, .bool false] 59 _ hN5.2.1 rfl
    have g2 := S.cell_of _ (w.heap.size + 1) 2 [.int .i64 0, .string { data := #[] }, .int .i64 0, .int .i64 0, .int .i64 0, .bool false] 59 _ hN5.2.1 rfl
    have g3 := S.cell_of _ (w.heap.size + 1) 3 [.int .i64 0, .string { data := #[] }, .int .i64 0, .int .i64 0, .int .i64 0, .bool false] 59 _ hN5.2.1 rfl
    have g4 := S.cell_of _ (w.heap.size + 1) 4 [.int .i64 0, .string { data := #[] }, .int .i64 0, .int .i64 0, .int .i64 0, .bool false] 59 _ hN5.2.1 rfl
    have g5 := S.cell_of _ (w.heap.size + 1) 5 [.int .i64 0, .string { data := #[] }, .int .i64 0, .int .i64 0, .int .i64 0, .bool false] 59 _ hN5.2.1 rfl
    have g6 := S.cell_of _ (w.heap.size + 2) 0 [.bool false] 4 _ hN5.2.2 rfl
    refine ⟨by simp, .inl ⟨_, _, rfl, run_takeDeferred HKK, ?_⟩⟩
    refine ⟨.tuple #[.agg #[.int .i64 0, .string { data := #[] }, .int .i64 0, .int .i64 0, .int .i64 0, .bool false], .bool false], ?_, .inr ⟨hne, rfl⟩, HBB.trans (belowK_b (w := w) (Nat.le_refl _) _ D _ _ (by omega) HKK rfl rfl)⟩
    simp [results, Tryz.results29, go_sem, g0, g1, g2, g3, g4, g5, g6]
  case stop =>
    rintro D c pre W hD hpre ⟨⟨rfl, y, hy, hn, hN⟩, hB⟩ hK
    gi_wp2
    have HKK := hK
    have HNB := hN
    have HBB := hB
    have hN5 := NB.kept HNB (grownBy_putObj' _ D (.deferred none)) (fun r e => by cases e; exact ⟨_, HKK, rfl⟩)
    have g0 := S.cell_of _ (w.heap.size + 1) 0 [.int .i64 (y : Int), .string (nm y), .int .i64 (ri y), .int .i64 (ro y), .int .i64 (rc y), .bool (rb y)] 59 _ hN5.2.1 rfl
    have g1 := S.cell_of _ (w.heap.size + 1) 1 [.int .i64 (y : Int), .string (nm y), .int .i64 (ri y), .int .i64 (ro y), .int .i64 (rc y), .bool (rb y)] 59 _ hN5.2.1 rfl
    have g2 := S.cell_of _ (w.heap.size + 1) 2 [.int .i64 (y : Int), .string (nm y), .int .i64 (ri y), .int .i64 (ro y), .int .i64 (rc y), .bool (rb y)] 59 _ hN5.2.1 rfl
    have g3 := S.cell_of _ (w.heap.size + 1) 3 [.int .i64 (y : Int), .string (nm y), .int .i64 (ri y), .int .i64 (ro y), .int .i64 (rc y), .bool (rb y)] 59 _ hN5.2.1 rfl
    have g4 := S.cell_of _ (w.heap.size + 1) 4 [.int .i64 (y : Int), .string (nm y), .int .i64 (ri y), .int .i64 (ro y), .int .i64 (rc y), .bool (rb y)] 59 _ hN5.2.1 rfl
    have g5 := S.cell_of _ (w.heap.size + 1) 5 [.int .i64 (y : Int), .string (nm y), .int .i64 (ri y), .int .i64 (ro y), .int .i64 (rc y), .bool (rb y)] 59 _ hN5.2.1 rfl
    have g6 := S.cell_of _ (w.heap.size + 2) 0 [.bool true] 4 _ hN5.2.2 rfl
    refine ⟨by simp, .inl ⟨_, _, rfl, run_takeDeferred HKK, ?_⟩⟩
    refine ⟨.tuple #[.agg #[.int .i64 (y : Int), .string (nm y), .int .i64 (ri y), .int .i64 (ro y), .int .i64 (rc y), .bool (rb y)], .bool true], ?_, .inl ⟨y, hpre.subset hy, hn, rfl⟩, HBB.trans (belowK_b (w := w) (Nat.le_refl _) _ D _ _ (by omega) HKK rfl rfl)⟩
    simp [results, Tryz.results29, go_sem, g0, g1, g2, g3, g4, g5, g6]
theorem named_empty (name : ByteArray) (hne : name.toList.isEmpty = true) (w : World) :
    Calls Tryz.prog 29 #[.string name] w fun e w' => e = .returned (.tuple #[rowV 0 ⟨#[]⟩ 0 0 0 false, .bool false]) ∧ Below w.heap.size w w' := by
  go_enter Tryz.func29, Tryz.ntmps29
  go_wp2
  refine bodyPost_ret (v := .tuple #[rowV 0 ⟨#[]⟩ 0 0 0 false, .bool false]) (by simp [results, Tryz.results29, go_sem, rowV]) rfl ⟨rfl, (((Below.refl _ w).alloc (Nat.le_refl _) _).alloc (by simp) _).alloc (by simp; omega) _⟩
end Go.Proofs.YtgponcjjnjpfkaaGreat.P
/-! The program's side of a law's world; what Do leaves of it. -/
namespace Go.Proofs.YtgponcjjnjpfkaaGreat.L
open Go.RowKit
open Go.Proofs
open P
set_option linter.unusedVariables false
set_option linter.unusedSimpArgs false
set_option maxHeartbeats 2000000
set_option maxRecDepth 100000
structure WP (W : World) (B g bd br bm : Nat) (F : Nat → Prop) (D : List Int) (R : List (Int × Int)) (m : M.MS) : Prop where
  blk : ∃ x y z : Value, W.heap[g]? = some (.cells [.pointer (some ⟨bd, 0, none⟩), .pointer (some ⟨br, 0, none⟩), .pointer (some ⟨bm, 0, none⟩), x, y, z].toArray 37 (0, 0))
  p : PS W bd br bm F D R m
  ng : ¬ F g
  lo : B ≤ g ∧ B ≤ bd ∧ B ≤ br
  lf : ∀ k, F k → B ≤ k
def WPe (W : World) (B g bd br bm : Nat) (D : List Int) (R : List (Int × Int)) (m : M.MS) : Prop := ∃ F, WP W B g bd br bm F D R m
section
variable {W W' : World} {B g bd br bm : Nat} {F : Nat → Prop} {D D' : List Int} {R R' : List (Int × Int)} {m m' : M.MS}
theorem WP.gd (h : WP W B g bd br bm F D R m) : g ≠ bd ∧ g ≠ br := by
  obtain ⟨x, y, z, hb⟩ := h.blk
  constructor
  · rintro rfl
    have := h.p.d.1
    rw [hb] at this
    injection this with this
    injection this with _ this
    cases this
  · rintro rfl
    have := h.p.r.1
    rw [hb] at this
    injection this with this
    injection this with _ this
    cases this
theorem WPe.below (h : WPe W B g bd br bm D R m) (k : Below W.heap.size W W') : WPe W' B g bd br bm D R m := by
  obtain ⟨F, h⟩ := h
  obtain ⟨x, y, z, hb⟩ := h.blk
  exact ⟨F, ⟨x, y, z, (k.block _ (S.lt_of hb)).trans hb⟩, h.p.below k, h.ng, h.lo, h.lf⟩
theorem WPe.drew (h : WPe W B g bd br bm D R m) : WPe W.drew B g bd br bm D R m := by
  obtain ⟨F, h⟩ := h
  exact ⟨F, h.blk, ⟨h.p.d, h.p.r, h.p.m.kept fun i hi _ => rfl, h.p.dr, h.p.fd, h.p.fr⟩, h.ng, h.lo, h.lf⟩
theorem WP.step (h : WP W B g bd br bm F D R m) (hB : B ≤ W.heap.size) (k : PD W W' bd br bm F D' R' m') : WPe W' B g bd br bm D' R' m' ∧ Below B W W' := by
  obtain ⟨x, y, z, hb⟩ := h.blk
  have hg := h.gd
  refine ⟨⟨_, ⟨x, y, z, (k.t.block _ (S.lt_of hb) ?_).trans hb⟩, k.s, ?_, h.lo, ?_⟩, ?_⟩
  · rintro (e | e | e)
    · exact hg.1 e
    · exact hg.2 e
    · exact h.ng e
  · rintro (e | ⟨e, _⟩)
    · exact h.ng e
    · have := S.lt_of hb; omega
  · rintro i (e | ⟨e, _⟩)
    · exact h.lf i e
    · omega
  · refine ⟨k.t.os, k.t.tape, k.t.output, k.t.size, fun i hi => k.t.block i (by omega) ?_⟩
    rintro (e | e | e)
    · have := h.lo.2.1; omega
    · have := h.lo.2.2; omega
    · have := h.lf i e; omega
theorem WPe.cells (h : WPe W B g bd br bm D R m) : W.cell? ⟨g, 0, none⟩ = some (.pointer (some ⟨bd, 0, none⟩)) ∧ W.cell? ⟨g, 1, none⟩ = some (.pointer (some ⟨br, 0, none⟩)) ∧ W.cell? ⟨g, 2, none⟩ = some (.pointer (some ⟨bm, 0, none⟩)) := by
  obtain ⟨F, h⟩ := h
  obtain ⟨x, y, z, hb⟩ := h.blk
  exact ⟨S.cell_of W g 0 _ 37 _ hb rfl, S.cell_of W g 1 _ 37 _ hb rfl, S.cell_of W g 2 _ 37 _ hb rfl⟩
theorem WPe.d (h : WPe W B g bd br bm D R m) : S.HasD W bd D := by obtain ⟨F, h⟩ := h; exact h.p.d
theorem WPe.r (h : WPe W B g bd br bm D R m) : S.HasR W br R := by obtain ⟨F, h⟩ := h; exact h.p.r
theorem WPe.mem (h : WPe W B g bd br bm D R m) : ∃ F, M.HasM W F bm m := by obtain ⟨F, h⟩ := h; exact ⟨F, h.p.m⟩
theorem WW.e {bx bq bz : Nat} {G : Nat → Prop} {ev qv : Value} (h : WW W B g bd br bm bx bq bz F G ev qv D R m) : WPe W B g bd br bm D R m := ⟨F, ⟨_, _, _, h.blk⟩, h.p, h.ng.1, h.lo, h.lf⟩
end
def okD (D : List Int) : Bool := D.all fun x => decide (0 ≤ x) && decide (x < 65536)
theorem allC {D : List Int} (h : okD D = true) : ∀ x ∈ D, C.C x := by
  intro x hx
  have := List.all_eq_true.1 h x hx
  simp only [Bool.and_eq_true, decide_eq_true_eq] at this
  exact this
def xD (op : Int) (D : List Int) (R : List (Int × Int)) (m : M.MS) : List Int := if fl op D R = 0 then nD op D R m else D
def xR (op : Int) (D : List Int) (R : List (Int × Int)) : List (Int × Int) := if fl op D R = 0 then nR op D R else R
def xM (op : Int) (D : List Int) (R : List (Int × Int)) (m : M.MS) : M.MS := if fl op D R = 0 then nM op D m else m
theorem do_w (op : Int) (hp : plain op = true) (B g bd br bm : Nat) (D : List Int) (R : List (Int × Int)) (m : M.MS) (hD : ∀ x ∈ D, C.C x) (ht : m.tones.length ≤ 999000) (W : World) (h : WPe W B g bd br bm D R m) (hB : B ≤ W.heap.size) :
    Calls Tryz.prog 12 #[.int .i64 op, .pointer (some ⟨bd, 0, none⟩), .pointer (some ⟨br, 0, none⟩), .pointer (some ⟨bm, 0, none⟩)] W fun e W' => e = .returned (.int .i64 (fl op D R)) ∧ WPe W' B g bd br bm (xD op D R m) (xR op D R) (xM op D R m) ∧ Below B W W' := by
  obtain ⟨F, h⟩ := h
  refine (do_any op hp bd br bm F D R m hD ht W h.p).mono fun e W' ⟨h1, h2, h3⟩ => ⟨h1, ?_⟩
  by_cases c : fl op D R = 0
  · rw [xD, xR, xM, if_pos c, if_pos c, if_pos c]
    exact h.step hB (h3 c)
  · rw [xD, xR, xM, if_neg c, if_neg c, if_neg c]
    have := h2 c
    exact ⟨WPe.below ⟨F, h⟩ this, this.mono hB⟩
theorem same_row (a0 : Int) (a1 : ByteArray) (a2 a3 a4 : Int) (a5 : Bool) (w : World) : Calls Tryz.prog 25 #[rowV a0 a1 a2 a3 a4 a5, rowV a0 a1 a2 a3 a4 a5] w fun e w' => e = .returned (.bool true) ∧ Below w.heap.size w w' := by
  unfold rowV
  go_enter Tryz.func25, Tryz.ntmps25
  go_wp2
  go_ret
  exact ⟨rfl, ((Below.refl _ w).alloc (Nat.le_refl _) _).alloc (by simp) _⟩
theorem nm_2dup : ∀ x ∈ allN, (nm x == (⟨#[50, 100, 117, 112]⟩ : ByteArray)) = true → x = 19 := by decide +kernel
theorem nm_19 : 19 ∈ allN ∧ (nm 19 == (⟨#[50, 100, 117, 112]⟩ : ByteArray)) = true := by decide +kernel
theorem tl_eq {a b : ByteArray} : a.toList = b.toList ↔ (a == b) = true := by
  rw [beq_toListBytes]; simp
theorem tl_nil {a : ByteArray} (h : (a == ⟨#[]⟩) = false) : a.toList.isEmpty = false := by
  rw [beq_toListBytes] at h
  cases e : a.toList with
  | nil => rw [e] at h; revert h; rw [show (⟨#[]⟩ : ByteArray).toList = [] by unfold ByteArray.toList ByteArray.toList.loop; rfl]; decide
  | cons x l => rfl
theorem ne_2dup : (⟨#[50, 100, 117, 112]⟩ : ByteArray).toList.isEmpty = false := tl_nil (by decide +kernel)
theorem named_2dup (w : World) : Calls Tryz.prog 29 #[.string ⟨#[50, 100, 117, 112]⟩] w fun e w' => e = .returned (.tuple #[rowV 19 ⟨#[50, 100, 117, 112]⟩ 2 4 2 false, .bool true]) ∧ Below w.heap.size w w' := by
  refine (named_yes ⟨#[50, 100, 117, 112]⟩ ne_2dup w).mono fun e w' ⟨h, hb⟩ => ⟨?_, hb⟩
  rcases h with ⟨x, h1, h2, h3⟩ | ⟨h1, _⟩
  · have := nm_2dup x h1 (tl_eq.1 h2)
    subst this
    exact h3
  · exact absurd (tl_eq.2 nm_19.2) (h1 19 nm_19.1)
end Go.Proofs.YtgponcjjnjpfkaaGreat.L
/-! fixed. -/
namespace Go.Proofs.YtgponcjjnjpfkaaGreat.L
open Go.RowKit
open Go.Proofs
open P
set_option linter.unusedVariables false
set_option linter.unusedSimpArgs false
set_option maxHeartbeats 4000000
set_option maxRecDepth 100000
theorem bb {a b c : World} (h : Below a.heap.size a b) (k : Below b.heap.size b c) : Below a.heap.size a c := h.trans ⟨k.os, k.tape, k.output, k.size, fun i hi => k.block i (Nat.lt_of_lt_of_le hi h.size)⟩
/-- A row in a box. -/
def RX (W : World) (b : Nat) (op : Int) (name : ByteArray) (i o c : Int) (f : Bool) : Prop := W.heap[b]? = some (.cells [.int .i64 op, .string name, .int .i64 i, .int .i64 o, .int .i64 c, .bool f].toArray 59 (0, 0))
theorem RX.below {W W' : World} {B b : Nat} {op : Int} {name : ByteArray} {i o c : Int} {f : Bool} (h : RX W b op name i o c f) (k : Below B W W') (hb : b < B) : RX W' b op name i o c f := (k.block b hb).trans h
theorem of24 (w : World) : Calls Tryz.prog 26 #[.int .i64 24] w fun e w' => e = .returned (.tuple #[.agg #[.int .i64 24, .string ⟨#[47]⟩, .int .i64 2, .int .i64 1, .int .i64 4, .bool false], .int .i64 0]) ∧ Below w.heap.size w w' := of_yes 24 ⟨#[47]⟩ 2 1 4 false 0 0 0 _ (by decide) (by decide) ent_24 w
theorem of64 (w : World) : Calls Tryz.prog 26 #[.int .i64 64] w fun e w' => e = .returned (.tuple #[.agg #[.int .i64 0, .string ⟨#[]⟩, .int .i64 0, .int .i64 0, .int .i64 0, .bool false], .int .i64 60]) ∧ Below w.heap.size w w' := of_no 64 (by decide) w
theorem n2dup (w : World) : Calls Tryz.prog 29 #[.string ⟨#[50, 100, 117, 112]⟩] w fun e w' => e = .returned (.tuple #[.agg #[.int .i64 19, .string ⟨#[50, 100, 117, 112]⟩, .int .i64 2, .int .i64 4, .int .i64 2, .bool false], .bool true]) ∧ Below w.heap.size w w' := named_2dup w
theorem fixed_any (w : World) : Calls Tryz.prog 9 #[] w fun e w' => e = .returned (.bool true) ∧ Below w.heap.size w w' := by
  go_enter Tryz.func9, Tryz.ntmps9
  go_wp2_with fail
  refine (of24 w).mono ?_
  rintro e w1 ⟨rfl, h1⟩
  go_wp2_with fail
  refine (of64 _).mono ?_
  rintro e w2 ⟨rfl, h2⟩
  obtain ⟨bp, hbp⟩ : ∃ bp, w1.heap.size = bp := ⟨_, rfl⟩
  have a1 := bel_alloc w1 (.cells #[.int .i64 24, .string ⟨#[47]⟩, .int .i64 2, .int .i64 1, .int .i64 4, .bool false] 59)
  have r1 : RX w2 bp 24 ⟨#[47]⟩ 2 1 4 false := by rw [← hbp]; exact (h2.block _ (by simp)).trans (heap_alloc_new w1 _)
  have H2 := S.hid (bb h1 (bb a1 h2))
  rw [hbp]
  clear h1 a1 h2 hbp
  go_wp2_with fail
  refine (n2dup _).mono ?_
  rintro e w3 ⟨rfl, h3⟩
  have a2 := bel_alloc w2 (.cells #[.int .i64 0, .string ⟨#[]⟩, .int .i64 0, .int .i64 0, .int .i64 0, .bool false] 59)
  have b3 := bb a2 h3
  have r1 := r1.below b3 (S.lt_of r1)
  have H3 := S.hid (bb H2.out b3)
  clear a2 h3 b3 H2
  obtain ⟨bq, hbq⟩ : ∃ bq, w3.heap.size = bq := ⟨_, rfl⟩
  obtain ⟨w4, hw4⟩ : ∃ w4, (w3.alloc (.cells #[.int .i64 19, .string ⟨#[50, 100, 117, 112]⟩, .int .i64 2, .int .i64 4, .int .i64 2, .bool false] 59)).alloc (.cells #[.int .u16 1, .int .u16 2, .int .u16 3] 26) = w4 := ⟨_, rfl⟩
  have b4 : Below w3.heap.size w3 w4 := by rw [← hw4]; exact (bel_alloc w3 _).alloc (bel_alloc w3 _).size _
  have z4 : w4.heap.size = bq + 2 := by rw [← hw4, ← hbq]; simp
  have r2 : RX w4 bq 19 ⟨#[50, 100, 117, 112]⟩ 2 4 2 false := by rw [← hw4, ← hbq]; exact (Below.heap_alloc _ _ _ (by simp)).trans (heap_alloc_new w3 _)
  have s4 : S.Sl S.eU 1 w4 (some ⟨bq + 1, 0, none⟩) [1, 2, 3] := by rw [← hw4, ← hbq]; exact sl_block S.hU _ _ 26 _ (heap_alloc2_new w3 _ _)
  have hbo : Calls Tryz.prog 11 #[.slice (some ⟨bq + 1, 0, none⟩) 3 3, .slice none 0 0] w4 fun e w' => BornR w4 w' e [1, 2, 3] [] := born_any (some ⟨bq + 1, 0, none⟩) none 3 0 [1, 2, 3] [] (by decide) (by decide) (by intro e; cases e) (fun _ => rfl) (by decide) (by decide) w4 s4 (fun i a h => by simp at h)
  have r1 := r1.below b4 (S.lt_of r1)
  have RQ1 := S.hid (S.lt_of r1)
  have H4 := S.hid (bb H3.out b4)
  clear H3 b4 s4
  go_wp2_with fail
  refine hbo.mono ?_
  rintro e w5 ⟨g, bd, br, bm, bx, bq', bz, F, G, ev, qv, rfl, hW, b5⟩
  have r1 := r1.below b5 (S.lt_of r1)
  have r2 := r2.below b5 (S.lt_of r2)
  have hE := hW.e
  have H5 := S.hid (bb H4.out b5)
  have RP1 : bp < w4.heap.size := RQ1.out
  have RP2 : bq < w4.heap.size := by omega
  have HS4 := S.hid H4.out.size
  have l45 := b5.size
  clear hW b5 hbo H4 hw4
  have hdo := do_w 16 rfl w4.heap.size g bd br bm [1, 2, 3] [] mB (allC rfl) (by decide) w5.drew hE.drew l45
  rw [show fl 16 [1, 2, 3] [] = 0 from rfl, show xD 16 [1, 2, 3] [] mB = [2, 3, 1] from rfl, show xR 16 [1, 2, 3] [] = [] from rfl, show xM 16 [1, 2, 3] [] mB = mB from rfl] at hdo
  have s0 := hE.drew.cells
  clear hE
  go_wp2_with fail
  go_region_held (fun w' => w'.cell? ⟨g, 0, none⟩ = some (.pointer (some ⟨bd, 0, none⟩)) ∧ w'.cell? ⟨g, 1, none⟩ = some (.pointer (some ⟨br, 0, none⟩)) ∧ w'.cell? ⟨g, 2, none⟩ = some (.pointer (some ⟨bm, 0, none⟩)))
    (first | (with_reducible exact s0) | (with_reducible exact s1))
    (first | (go_at_call 12; refine hdo.mono ?_; rintro e w6 ⟨rfl, hE6, b6⟩; have s1 := hE6.cells))
  have b56 : Below w4.heap.size w5 w6 := ⟨b6.os, b6.tape, b6.output, b6.size, b6.block⟩
  have lp := S.lt_of r1
  have hdc := S.dcells bd [2, 3, 1] w6 hE6.d
  have HE6 := S.hid hE6
  have r1 := r1.below b56 RP1
  have r2 := r2.below b56 RP2
  have H6 : Below w.heap.size w w6 := H5.out.trans (b56.mono HS4.out)
  have H6 := S.hid H6
  have c0 := hE6.cells.1
  clear hdo s0 s1 b6 b56 hE6 lp
  go_wp2_with fail
  refine hdc.mono ?_
  rintro e w7 ⟨u, rfl, hu, b7⟩
  have r1 := r1.below b7 (S.lt_of r1)
  have r2 := r2.below b7 (S.lt_of r2)
  have H7 := S.hid (bb H6.out b7)
  obtain ⟨p7, c7, rfl, -, sl7⟩ := hu.ls.ex
  have e0 := S.cell_of w7 bp 0 _ 59 _ r1 rfl
  have e1 := S.cell_of w7 bp 1 _ 59 _ r1 rfl
  have e2 := S.cell_of w7 bp 2 _ 59 _ r1 rfl
  have e3 := S.cell_of w7 bp 3 _ 59 _ r1 rfl
  have e4 := S.cell_of w7 bp 4 _ 59 _ r1 rfl
  have e5 := S.cell_of w7 bp 5 _ 59 _ r1 rfl
  have hs1 := same_row 24 ⟨#[47]⟩ 2 1 4 false w7
  unfold rowV at hs1
  clear hdc hu b7 c0 H6
  go_wp2_with fail
  refine hs1.mono ?_
  rintro e w8 ⟨rfl, b8⟩
  have r2 := r2.below b8 (S.lt_of r2)
  have sl8 := sl7.below b8
  have H8 := S.hid (bb H7.out b8)
  have f0 := S.cell_of w8 bq 0 _ 59 _ r2 rfl
  have f1 := S.cell_of w8 bq 1 _ 59 _ r2 rfl
  have f2 := S.cell_of w8 bq 2 _ 59 _ r2 rfl
  have f3 := S.cell_of w8 bq 3 _ 59 _ r2 rfl
  have f4 := S.cell_of w8 bq 4 _ 59 _ r2 rfl
  have f5 := S.cell_of w8 bq 5 _ 59 _ r2 rfl
  have hs2 := same_row 19 ⟨#[50, 100, 117, 112]⟩ 2 4 2 false w8
  unfold rowV at hs2
  clear hs1 b8 H7 sl7
  go_wp2_with fail
  refine hs2.mono ?_
  rintro e w9 ⟨rfl, b9⟩
  have sl9 := sl8.below b9
  have H9 := S.hid (bb H8.out b9)
  have a9 := bel_alloc w9 (.cells #[.int .u16 2, .int .u16 3, .int .u16 1] 26)
  have hsm := S.sameU p7 (some ⟨w9.heap.size, 0, none⟩) c7 3 [2, 3, 1] (by decide) (w9.alloc (.cells #[.int .u16 2, .int .u16 3, .int .u16 1] 26)) (sl9.below a9) (sl_block S.hU _ _ 26 _ (heap_alloc_new w9 _))
  simp only [List.length_cons, List.length_nil, Nat.reduceAdd] at hsm
  have H9a := S.hid (bb H9.out a9)
  clear hs2 b9 H8 sl8 sl9 a9
  go_wp2_with fail
  refine hsm.mono ?_
  rintro e w10 ⟨rfl, q, rfl⟩
  go_wp2_with fail
  refine (plain_yes 16 16 _ _ _ _ _ _ _ _ _ ent_16 _).mono ?_
  rintro e w11 ⟨rfl, b11⟩
  go_wp2_with fail
  refine (plain_no 3 3 _ _ _ _ _ _ _ _ ent_3 _).mono ?_
  rintro e w12 ⟨rfl, b12⟩
  have b11' : Below (w9.alloc (.cells #[.int .u16 2, .int .u16 3, .int .u16 1] 26)).heap.size (w9.alloc (.cells #[.int .u16 2, .int .u16 3, .int .u16 1] 26)) w11 := ⟨b11.os, b11.tape, b11.output, b11.size, b11.block⟩
  have hlast := bb H9a.out (bb b11' b12)
  clear hsm b11 b12 b11'
  go_wp2
  go_ret
  exact ⟨rfl, hlast⟩
end Go.Proofs.YtgponcjjnjpfkaaGreat.L
