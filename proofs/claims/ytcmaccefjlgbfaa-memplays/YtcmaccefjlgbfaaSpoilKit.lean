import Derived.Test.YtcmaccefjlgbfaaApart
import Derived.Test.YtcmaccefjlgbfaaImageKit
import Derived.Test.YtcmaccefjlgbfaaBack
/-! spoil: all that an image has handed out is written over. -/
namespace Go.Proofs.Ytcmaccefjlgbfaa
open Go.RowKit
open Go.Proofs
set_option linter.unusedVariables false
set_option linter.unusedSimpArgs false
/-- What an image hands out: nothing of it shares a block. -/
structure Sp (W : World) (B : Nat) (u rv sv : Value) (bs : List (Int × List UInt8)) (ram scr : List UInt8) (gs : List (Nat × Nat)) : Prop where
  len : gs.length = bs.length
  row : W.ownsRow B 37 2 u bs.length (bcs bs gs)
  dat : ∀ (i : Nat) (t : Int × List UInt8) (g : Nat × Nat), bs[i]? = some t → gs[i]? = some g → Row W B (.slice (some ⟨g.1, 0, none⟩) t.2.length g.2) t.2
  nd : (gs.map Prod.fst).Nodup
  ram : Row W B rv ram
  scr : Row W B sv scr
  nr : ∀ y ∈ gs, rv.ownBlock ≠ some y.1
  nc : ∀ y ∈ gs, sv.ownBlock ≠ some y.1
  rc : ∀ g, rv.ownBlock = some g → sv.ownBlock ≠ some g
def dvs (bs : List (Int × List UInt8)) (gs : List (Nat × Nat)) : List Value := (bs.zip gs).map fun x => .slice (some ⟨x.2.1, 0, none⟩) x.1.2.length x.2.2
theorem dvs_len (bs : List (Int × List UInt8)) (gs : List (Nat × Nat)) (h : gs.length = bs.length) : (dvs bs gs).length = bs.length := by simp [dvs, h]
theorem dvs_get (bs : List (Int × List UInt8)) (gs : List (Nat × Nat)) (i : Nat) (t : Int × List UInt8) (g : Nat × Nat) (h1 : bs[i]? = some t) (h2 : gs[i]? = some g) : (dvs bs gs)[i]? = some (.slice (some ⟨g.1, 0, none⟩) t.2.length g.2) := by
  have : (bs.zip gs)[i]? = some (t, g) := List.getElem?_zip_eq_some.2 ⟨h1, h2⟩
  rw [dvs, List.getElem?_map, this]; rfl
def sv_ (bs : List (Int × List UInt8)) (gs : List (Nat × Nat)) (rv sv : Value) (i : Nat) : Value := (dvs bs gs ++ [rv, sv]).getD i (.slice none 0 0)
def sl_ (bs : List (Int × List UInt8)) (ram scr : List UInt8) (i : Nat) : List UInt8 := (bs.map Prod.snd ++ [ram, scr]).getD i []
theorem Sp.cases {W : World} {B : Nat} {u rv sv : Value} {bs : List (Int × List UInt8)} {ram scr : List UInt8} {gs : List (Nat × Nat)} (h : Sp W B u rv sv bs ram scr gs) (i : Nat) (hi : i < bs.length + 2) :
    (∃ t g, bs[i]? = some t ∧ gs[i]? = some g ∧ sv_ bs gs rv sv i = .slice (some ⟨g.1, 0, none⟩) t.2.length g.2 ∧ sl_ bs ram scr i = t.2) ∨ (i = bs.length ∧ sv_ bs gs rv sv i = rv ∧ sl_ bs ram scr i = ram) ∨ (i = bs.length + 1 ∧ sv_ bs gs rv sv i = sv ∧ sl_ bs ram scr i = scr) := by
  have hl := dvs_len bs gs h.len
  by_cases h1 : i < bs.length
  · left
    have hg : i < gs.length := by rw [h.len]; exact h1
    have e1 := List.getElem?_eq_getElem h1
    have e2 := List.getElem?_eq_getElem hg
    refine ⟨_, _, e1, e2, ?_, ?_⟩
    · rw [sv_, List.getD_eq_getElem?_getD, List.getElem?_append_left (by omega), dvs_get bs gs i _ _ e1 e2]; rfl
    · rw [sl_, List.getD_eq_getElem?_getD, List.getElem?_append_left (by simpa using h1), List.getElem?_map, e1]; rfl
  · right
    by_cases h2 : i = bs.length
    · left
      refine ⟨h2, ?_, ?_⟩
      · rw [sv_, List.getD_eq_getElem?_getD, List.getElem?_append_right (by omega), hl, h2]; simp
      · rw [sl_, List.getD_eq_getElem?_getD, List.getElem?_append_right (by simp; omega), h2]; simp
    · right
      have h3 : i = bs.length + 1 := by omega
      refine ⟨h3, ?_, ?_⟩
      · rw [sv_, List.getD_eq_getElem?_getD, List.getElem?_append_right (by omega), hl, h3]; simp
      · rw [sl_, List.getD_eq_getElem?_getD, List.getElem?_append_right (by simp; omega), h3]; simp
theorem Sp.p1 {w w5 : World} {B : Nat} {u rv sv : Value} {bs : List (Int × List UInt8)} {ram scr : List UInt8} {gs : List (Nat × Nat)} (h : Sp w B u rv sv bs ram scr gs) (hB : B ≤ w.heap.size) (hb : Below w.heap.size w w5) (bl cap : Nat)
    (ho : w5.ownsRow w.heap.size 35 1 (.slice (some ⟨bl, 0, none⟩) (bs.length + 2) cap) (bs.length + 2) (dvs bs gs ++ [rv, sv])) :
    P1 B bl (bs.length + 2) (sv_ bs gs rv sv) (fun i => (sl_ bs ram scr i).length) w5 w5 (sl_ bs ram scr) := by
  have hl := dvs_len bs gs h.len
  refine ⟨Below.refl _ _, Nat.le_trans hB hb.size, fun i hi => ?_, ?_, fun i hi => ?_, fun i hi => rfl, fun i j hi hj hij x hx => ?_⟩
  · have e : (dvs bs gs ++ [rv, sv])[i]? = some (sv_ bs gs rv sv i) := by
      have hlt : i < (dvs bs gs ++ [rv, sv]).length := by simp [hl]; omega
      rw [sv_, List.getD_eq_getElem?_getD, List.getElem?_eq_getElem hlt]; rfl
    have := World.ownsRow.cells ho (g := bl) rfl i _ e
    rw [Addr.add_lit] at this
    simpa using this
  · obtain ⟨cur, e⟩ := own_block ho bl rfl
    exact ⟨cur, e⟩
  · rcases h.cases i hi with ⟨t, g, e1, e2, e3, e4⟩ | ⟨_, e3, e4⟩ | ⟨_, e3, e4⟩
    · rw [e3, e4]; exact Row.below (h.dat i t g e1 e2) hb
    · rw [e3, e4]; exact Row.below h.ram hb
    · rw [e3, e4]; exact Row.below h.scr hb
  · intro hc
    rcases h.cases i hi with ⟨t, g, e1, e2, e3, _⟩ | ⟨q, e3, _⟩ | ⟨q, e3, _⟩ <;> rcases h.cases j hj with ⟨t', g', f1, f2, f3, _⟩ | ⟨q', f3, _⟩ | ⟨q', f3, _⟩ <;> rw [e3] at hx <;> rw [f3] at hc
    · simp [Value.ownBlock] at hx hc
      have a1 : (gs.map Prod.fst)[i]? = some x := by rw [List.getElem?_map, e2]; simp [hx]
      have a2 : (gs.map Prod.fst)[j]? = some x := by rw [List.getElem?_map, f2]; simp [hc]
      obtain ⟨i1, i2⟩ := List.getElem?_eq_some_iff.1 a1
      obtain ⟨j1, j2⟩ := List.getElem?_eq_some_iff.1 a2
      exact hij ((List.getElem_inj h.nd).1 (i2.trans j2.symm))
    · simp [Value.ownBlock] at hx; exact h.nr g (List.mem_of_getElem? e2) (by rw [hc, hx])
    · simp [Value.ownBlock] at hx; exact h.nc g (List.mem_of_getElem? e2) (by rw [hc, hx])
    · simp [Value.ownBlock] at hc; exact h.nr g' (List.mem_of_getElem? f2) (by rw [hx, hc])
    · omega
    · exact h.rc x hx hc
    · simp [Value.ownBlock] at hc; exact h.nc g' (List.mem_of_getElem? f2) (by rw [hx, hc])
    · exact h.rc x hc hx
    · omega
end Go.Proofs.Ytcmaccefjlgbfaa
/-! spoil: the walk. -/
namespace Go.Proofs.Ytcmaccefjlgbfaa
open Go.RowKit
open Go.Proofs
set_option linter.unusedVariables false
set_option linter.unusedSimpArgs false
theorem cs_row {W : World} (N : Nat) (vs : List Value) (h : W.heap[N]? = some (.cells vs.toArray 35 (0, 0))) (h1 : ∀ v ∈ vs, v.oneCell' = true) : Cs W (.slice (some ⟨N, 0, none⟩) vs.length vs.length) 1 vs.length vs := by
  refine .inr ⟨_, _, rfl, by simp, fun j v hj => ?_, h1⟩
  rw [Addr.add_lit, Nat.zero_add]
  exact cell_of W N j _ 35 v h hj
set_option maxHeartbeats 2000000
set_option maxRecDepth 100000
theorem spoil_any (B : Nat) (u rv sv : Value) (bs : List (Int × List UInt8)) (hl : bs.length ≤ 16) (ram scr : List UInt8) (gs : List (Nat × Nat)) (m : MS) (w : World) (h : Sp w B u rv sv bs ram scr gs) (hB : B ≤ w.heap.size)
    (hd : ∀ t ∈ bs, t.2.length ≤ 16384) (hr : ram.length ≤ 16384) (hs : scr.length ≤ 16384) :
    Calls Try.prog 58 #[.agg (imgC u rv sv m).toArray] w fun e w' => e = .returned (.bool true) ∧ Below B w w' := by
  obtain ⟨pu, cu, rfl⟩ := own_form h.row
  obtain ⟨rp, rc', rfl⟩ := own_form h.ram
  obtain ⟨sp, sc', rfl⟩ := own_form h.scr
  obtain ⟨w1, hw1⟩ : ∃ w1, w.alloc (.cells (imgC (.slice pu bs.length cu) (.slice rp ram.length rc') (.slice sp scr.length sc') m).toArray 48) = w1 := ⟨_, rfl⟩
  have hB1 : Below w.heap.size w w1 := by rw [← hw1]; exact (Below.refl _ w).alloc (Nat.le_refl _) _
  have hx : w1.heap[w.heap.size]? = some (.cells (imgC (.slice pu bs.length cu) (.slice rp ram.length rc') (.slice sp scr.length sc') m).toArray 48 (0, 0)) := by rw [← hw1]; exact heap_alloc_new w _
  have hz : w1.heap.size = w.heap.size + 1 := by rw [← hw1]; simp
  have c0 := cell_of w1 _ 0 _ 48 _ hx rfl
  have HH : Hid _ := h
  have HB1 : Hid _ := hB1
  have HX : Hid _ := hx
  have HZ : Hid _ := hz
  have HD : Hid _ := hd
  clear hB1 hx hz h hd
  unfold imgC at hw1 ⊢
  go_enter Try.func58, Try.ntmps58
  go_wp2_with fail
  go_loopw [3, 9] (fun v i wr => ∃ k : Nat, k ≤ bs.length ∧ i = .int .i64 (k : Int) ∧ wr.ownsRow w1.heap.size 35 1 v k ((dvs bs gs).take k) ∧ Below w1.heap.size w1 wr) (fun _ i _ => bs.length - (intOf i).toNat)
  case atStart => exact ⟨0, by omega, rfl, World.ownsRow_nil _ _ _ _, Below.refl _ _⟩
  case round =>
    obtain ⟨k, hk, rfl, hO, hBr⟩ := hrel
    clear hw1 c0
    have hz := HZ.out
    have hBw : Below w.heap.size w wr := HB1.out.trans (hBr.mono (by omega))
    obtain ⟨pl, cl, rfl⟩ := own_form hO
    by_cases hlt : k < bs.length
    · have i1 : (k : Int) < bs.length := by omega
      have hkg : k < gs.length := by rw [HH.out.len]; exact hlt
      obtain ⟨gu, e0⟩ : ∃ g, pu = some ⟨g, 0, none⟩ := by
        obtain ⟨g, c, e⟩ := own_pos HH.out.row (by omega)
        simp only [Value.slice.injEq] at e; exact ⟨g, e.1⟩
      subst e0
      have hrow := own_below HH.out.row hBw
      obtain ⟨k1, k2⟩ := bcs_get bs gs k bs[k] gs[k] (List.getElem?_eq_getElem hlt) (List.getElem?_eq_getElem hkg)
      have a1 := World.ownsRow.cells hrow (g := gu) rfl _ _ k1
      have a2 := World.ownsRow.cells hrow (g := gu) rfl _ _ k2
      rw [Addr.add_lit, Nat.zero_add] at a1 a2
      have htk : (dvs bs gs).take (k + 1) = (dvs bs gs).take k ++ [.slice (some ⟨(gs[k]).1, 0, none⟩) (bs[k]).2.length (gs[k]).2] := by
        have e := dvs_get bs gs k bs[k] gs[k] (List.getElem?_eq_getElem hlt) (List.getElem?_eq_getElem hkg)
        obtain ⟨q1, q2⟩ := List.getElem?_eq_some_iff.1 e
        rw [List.take_succ_eq_append_getElem q1, q2]
      generalize bs[k] = t at *
      generalize gs[k] = g at *
      obtain ⟨W1, hW1⟩ : ∃ W1, (wr.alloc (.cells #[.int .i64 t.1, .slice (some ⟨g.1, 0, none⟩) t.2.length g.2] 37)).alloc (.cells #[.slice (some ⟨g.1, 0, none⟩) t.2.length g.2] 35) = W1 := ⟨_, rfl⟩
      have hbW : Below wr.heap.size wr W1 := by rw [← hW1]; exact ((Below.refl _ wr).alloc (Nat.le_refl _) _).alloc (by simp) _
      have hown := own_below hO hbW
      have hcs : Cs W1 (.slice (some ⟨wr.heap.size + 1, 0, none⟩) 1 1) 1 1 [.slice (some ⟨g.1, 0, none⟩) t.2.length g.2] := by
        refine cs_row (wr.heap.size + 1) [_] ?_ (by simp [Value.oneCell'])
        rw [← hW1]
        have := heap_alloc_new (wr.alloc (.cells #[.int .i64 t.1, .slice (some ⟨g.1, 0, none⟩) t.2.length g.2] 37)) (.cells #[.slice (some ⟨g.1, 0, none⟩) t.2.length g.2] 35)
        simpa using this
      have hzW : w1.heap.size ≤ W1.heap.size := Nat.le_trans hBr.size hbW.size
      have hend : ∀ v' w4, Grew W1 w4 (.slice pl k cl) v' → w4.ownsRow w1.heap.size 35 1 v' (k + 1) ((dvs bs gs).take k ++ [.slice (some ⟨g.1, 0, none⟩) t.2.length g.2]) → w4.ownsRow w1.heap.size 35 1 v' (k + 1) ((dvs bs gs).take (k + 1)) ∧ Below w1.heap.size w1 w4 := by
        intro v' w4 hg ho
        exact ⟨by rw [htk]; exact ho, hg.belowAll (fun x e => (hown.lt x e).1) (hBr.trans (hbW.mono hBr.size)) (Nat.le_refl _)⟩
      have HE : Hid _ := hend
      clear hend hbW k1 k2 hrow htk hO hBw
      go_wp2_with (first | (at_builtin; refine wpList_append_row _ rfl _ _ 99 35 (.slice none 0 0) 1 24 Try.underlying99 info35 rfl (by decide) rfl w1.heap.size _ k _ rfl hown _ 1 _ rfl hcs (by unfold room; omega) (by unfold maxLen; omega) hzW ?_))
      intro v' w4 ho hg
      rw [← HZ.out] at ho
      obtain ⟨ho2, hb4⟩ := HE.out v' w4 hg ho
      have HO : Hid _ := ho2
      have HB4 : Hid _ := hb4
      clear ho hg ho2 hb4 HE hown hcs hW1 hzW hBr
      go_wp2
      go_roundw
      case rel =>
        first
          | exact ⟨k + 1, by omega, by go_num, HO.out, HB4.out⟩
          | ((repeat apply Exists.intro); refine ⟨⟨k + 1, by omega, ?_, HO.out, HB4.out⟩, rfl⟩; go_num)
      case measure => simp [intOf]; omega
    · obtain rfl : k = bs.length := by omega
      have hx2 := (hBr.block w.heap.size (by omega)).trans HX.out
      have c1 := cell_of wr _ 1 _ 48 _ hx2 rfl
      have c2 := cell_of wr _ 2 _ 48 _ hx2 rfl
      rw [List.take_of_length_le (by rw [dvs_len _ _ HH.out.len]; exact Nat.le_refl _)] at hO
      obtain ⟨W1, hW1⟩ : ∃ W1, wr.alloc (.cells #[.slice rp ram.length rc', .slice sp scr.length sc'] 35) = W1 := ⟨_, rfl⟩
      have hbW : Below wr.heap.size wr W1 := by rw [← hW1]; exact (Below.refl _ wr).alloc (Nat.le_refl _) _
      have hown := own_below hO hbW
      have hcs : Cs W1 (.slice (some ⟨wr.heap.size, 0, none⟩) 2 2) 1 2 [.slice rp ram.length rc', .slice sp scr.length sc'] := by
        refine cs_row wr.heap.size [_, _] ?_ (by simp [Value.oneCell'])
        rw [← hW1]; exact heap_alloc_new wr _
      have hzW : w1.heap.size ≤ W1.heap.size := Nat.le_trans hBr.size hbW.size
      have hend : ∀ v' w4, Grew W1 w4 (.slice pl bs.length cl) v' → w4.ownsRow w1.heap.size 35 1 v' (bs.length + 2) (dvs bs gs ++ [.slice rp ram.length rc', .slice sp scr.length sc']) → ∃ bl cap, v' = .slice (some ⟨bl, 0, none⟩) (bs.length + 2) cap ∧ Below w.heap.size w w4 ∧
          Calls Try.prog 57 #[.slice (some ⟨bl, 0, none⟩) (bs.length + 2) cap] w4 fun r w' => r = .returned (.bool true) ∧ Below B w w' := by
        intro v' w4 hg ho
        have hb4 : Below w.heap.size w w4 := HB1.out.trans ((hg.belowAll (fun x e => (hown.lt x e).1) (hBr.trans (hbW.mono hBr.size)) (Nat.le_refl _)).mono (by omega))
        obtain ⟨bl, cap, rfl⟩ := own_pos ho (by omega)
        refine ⟨bl, cap, rfl, hb4, ?_⟩
        have hp := HH.out.p1 hB hb4 bl cap (own_mono ho (by omega))
        refine (apart_any B bl (bs.length + 2) cap (by omega) _ _ _ w4 hp ?_).mono ?_
        · intro i hi
          have hle : (sl_ bs ram scr i).length ≤ 16384 := by
            rcases HH.out.cases i hi with ⟨t, g, e1, _, _, e4⟩ | ⟨_, _, e4⟩ | ⟨_, _, e4⟩
            · rw [e4]; exact HD.out t (List.mem_of_getElem? e1)
            · rw [e4]; exact hr
            · rw [e4]; exact hs
          show (sl_ bs ram scr i).length + 200 ≤ room
          unfold room; omega
        · rintro r w' ⟨rfl, hb⟩
          exact ⟨rfl, (hb4.mono hB).trans hb⟩
      have HE : Hid _ := hend
      clear hend hbW hO hBw hx2 hBr
      go_wp2_with (first | (at_builtin; refine wpList_append_row _ rfl _ _ 99 35 (.slice none 0 0) 1 24 Try.underlying99 info35 rfl (by decide) rfl w1.heap.size _ bs.length _ rfl hown _ 2 _ rfl hcs (by unfold room; omega) (by unfold maxLen; omega) hzW ?_))
      intro v' w4 ho hg
      rw [← HZ.out] at ho
      obtain ⟨bl, cap, rfl, hb4, hc⟩ := HE.out v' w4 hg ho
      clear ho hg HE hown hcs hW1 hzW hb4
      go_wp2_with fail
      refine hc.mono ?_
      rintro e w5 ⟨rfl, hb5⟩
      have HB5 : Hid _ := hb5
      clear hb5 hc
      go_wp2
      go_ret
      exact ⟨rfl, HB5.out⟩
end Go.Proofs.Ytcmaccefjlgbfaa
/-! An image and what back hands out may be spoiled. -/
namespace Go.Proofs.Ytcmaccefjlgbfaa
open Go.RowKit
open Go.Proofs
set_option linter.unusedVariables false
set_option linter.unusedSimpArgs false
theorem row_front {W : World} {B : Nat} {g c n : Nat} {l m : List UInt8} (h : Row W B (.slice (some ⟨g, 0, none⟩) n c) (l ++ m)) : Row W B (.slice (some ⟨g, 0, none⟩) l.length c) l := by
  refine ⟨by simp [bv], ?_⟩
  rcases h.2 with ⟨e, _⟩ | ⟨g', cap, cur, e, hB, hg, h1, h2, h3, h4⟩
  · cases e
  · simp only [Value.slice.injEq, Option.some.injEq, Addr.mk.injEq, and_true, true_and] at e
    obtain ⟨rfl, _, rfl⟩ := e
    refine .inr ⟨g, c, cur, rfl, hB, hg, by simp at h1; omega, h2, h3, ?_⟩
    have : cur.toList.take (l.length * 1) = (cur.toList.take ((l ++ m).length * 1)).take (l.length * 1) := by
      rw [List.take_take]; congr 1; simp
    rw [this, h4, bv_append, List.take_left' (by simp [bv_len])]
theorem BkO.sp {W : World} {B : Nat} {u rv sv : Value} {bs : List (Int × List UInt8)} {ram scr : List UInt8} {gs : List (Nat × Nat)} {N1 N2 : Nat} (h : BkO W B u rv sv bs ram scr gs N1 N2) : Sp W B u rv sv bs ram scr gs := by
  have hb := h.b1
  have hn := h.n12
  refine ⟨h.banks.len, h.banks.row, fun i t g a c => row_front (h.banks.dat i t g a c), h.banks.nd, Row.mono h.ram hb, Row.mono h.scr (Nat.le_trans hb hn), fun y hy e => ?_, fun y hy e => ?_, fun g e1 e2 => ?_⟩
  · have a := h.g1 y hy; have b := (h.ram.lt _ e).1; omega
  · have a := h.g1 y hy; have b := (h.scr.lt _ e).1; omega
  · have a := h.r1 g e1; have b := (h.scr.lt _ e2).1; omega
theorem ImO.sp {W : World} {B : Nat} {u rv sv : Value} {bs : List (Int × List UInt8)} {ram scr : List UInt8} {gs : List (Nat × Nat)} {N1 N2 : Nat} (h : ImO W B u rv sv bs ram scr gs N1 N2) : Sp W B u rv sv bs ram scr gs := by
  have hb := h.b1
  have hn := h.n12
  refine ⟨h.banks.len, h.banks.row, fun i t g a c => h.banks.dat i t g a c, h.banks.nd, Row.mono h.ram hb, Row.mono h.scr (Nat.le_trans hb hn), fun y hy e => ?_, fun y hy e => ?_, fun g e1 e2 => ?_⟩
  · have a := h.g1 y hy; have b := (h.ram.lt _ e).1; omega
  · have a := h.g1 y hy; have b := (h.scr.lt _ e).1; omega
  · have a := h.r1 g e1; have b := (h.scr.lt _ e2).1; omega
theorem Sp.below {W W' : World} {B : Nat} {u rv sv : Value} {bs : List (Int × List UInt8)} {ram scr : List UInt8} {gs : List (Nat × Nat)} (h : Sp W B u rv sv bs ram scr gs) (k : Below W.heap.size W W') : Sp W' B u rv sv bs ram scr gs :=
  ⟨h.len, own_below h.row k, fun i t g a c => Row.below (h.dat i t g a c) k, h.nd, Row.below h.ram k, Row.below h.scr k, h.nr, h.nc, h.rc⟩
end Go.Proofs.Ytcmaccefjlgbfaa
