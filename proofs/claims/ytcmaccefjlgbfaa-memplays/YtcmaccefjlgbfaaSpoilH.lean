import Derived.Test.YtcmaccefjlgbfaaSpoilKit
import Derived.Test.YtcmaccefjlgbfaaApartH
/-! spoil: the walk. -/
namespace Go.Proofs.Ytcmaccefjlgbfaa
open Go.RowKit
open Go.Proofs
set_option linter.unusedVariables false
set_option linter.unusedSimpArgs false
set_option maxHeartbeats 2000000
set_option maxRecDepth 100000
theorem spoil_hi (B H : Nat) (u rv sv : Value) (bs : List (Int × List UInt8)) (hl : bs.length ≤ 16) (ram scr : List UInt8) (gs : List (Nat × Nat)) (m : MS) (w : World) (h : Sp w B u rv sv bs ram scr gs) (hB : B ≤ w.heap.size)
    (hd : ∀ t ∈ bs, t.2.length ≤ 16384) (hr : ram.length ≤ 16384) (hs : scr.length ≤ 16384) (hH : H ≤ w.heap.size) (h1 : ∀ y ∈ gs, y.1 < H) (h2 : ∀ x, rv.ownBlock = some x → x < H) (h3 : ∀ x, sv.ownBlock = some x → x < H) :
    Calls Try.prog 58 #[.agg (imgC u rv sv m).toArray] w fun e w' => e = .returned (.bool true) ∧ Below B w w' ∧ Fr H w w' := by
  obtain ⟨pu, cu, rfl⟩ := own_form h.row
  obtain ⟨rp, rc', rfl⟩ := own_form h.ram
  obtain ⟨sp, sc', rfl⟩ := own_form h.scr
  obtain ⟨w1, hw1⟩ : ∃ w1, w.alloc (.cells (imgC (.slice pu bs.length cu) (.slice rp ram.length rc') (.slice sp scr.length sc') m).toArray 48) = w1 := ⟨_, rfl⟩
  have hB1 : Below w.heap.size w w1 := by rw [← hw1]; exact (Below.refl _ w).alloc (Nat.le_refl _) _
  have hx : w1.heap[w.heap.size]? = some (.cells (imgC (.slice pu bs.length cu) (.slice rp ram.length rc') (.slice sp scr.length sc') m).toArray 48 (0, 0)) := by rw [← hw1]; exact heap_alloc_new w _
  have hz : w1.heap.size = w.heap.size + 1 := by rw [← hw1]; simp
  have c0 := cell_of w1 _ 0 _ 48 _ hx rfl
  have HH : Hid _ := h
  have HO3 : Hid _ := And.intro h1 (And.intro h2 h3)
  clear h1 h2 h3
  have HB1 : Hid _ := hB1
  have HX : Hid _ := hx
  have HZ : Hid _ := hz
  have HD : Hid _ := hd
  clear hB1 hx hz h hd
  unfold imgC at hw1 ⊢
  go_enter Try.func58, Try.ntmps58
  go_wp2_with fail
  go_loopw [3, 9] (fun v i wr => ∃ k : Nat, k ≤ bs.length ∧ i = .int .i64 (k : Int) ∧ wr.ownsRow w1.heap.size 35 1 v k ((dvs bs gs).take k) ∧ Below w1.heap.size w1 wr) (fun _ i _ => bs.length - (intOf i).toNat)
  case atStart => exact ⟨0, by omega, rfl, World.ownsRow_nil _ _ _ _, Below.refl _ _⟩
  case round =>
    obtain ⟨k, hk, rfl, hO, hBr⟩ := hrel
    clear hw1 c0
    have hz := HZ.out
    have hBw : Below w.heap.size w wr := HB1.out.trans (hBr.mono (by omega))
    obtain ⟨pl, cl, rfl⟩ := own_form hO
    by_cases hlt : k < bs.length
    · have i1 : (k : Int) < bs.length := by omega
      have hkg : k < gs.length := by rw [HH.out.len]; exact hlt
      obtain ⟨gu, e0⟩ : ∃ g, pu = some ⟨g, 0, none⟩ := by
        obtain ⟨g, c, e⟩ := own_pos HH.out.row (by omega)
        simp only [Value.slice.injEq] at e; exact ⟨g, e.1⟩
      subst e0
      have hrow := own_below HH.out.row hBw
      obtain ⟨k1, k2⟩ := bcs_get bs gs k bs[k] gs[k] (List.getElem?_eq_getElem hlt) (List.getElem?_eq_getElem hkg)
      have a1 := World.ownsRow.cells hrow (g := gu) rfl _ _ k1
      have a2 := World.ownsRow.cells hrow (g := gu) rfl _ _ k2
      rw [Addr.add_lit, Nat.zero_add] at a1 a2
      have htk : (dvs bs gs).take (k + 1) = (dvs bs gs).take k ++ [.slice (some ⟨(gs[k]).1, 0, none⟩) (bs[k]).2.length (gs[k]).2] := by
        have e := dvs_get bs gs k bs[k] gs[k] (List.getElem?_eq_getElem hlt) (List.getElem?_eq_getElem hkg)
        obtain ⟨q1, q2⟩ := List.getElem?_eq_some_iff.1 e
        rw [List.take_succ_eq_append_getElem q1, q2]
      generalize bs[k] = t at *
      generalize gs[k] = g at *
      obtain ⟨W1, hW1⟩ : ∃ W1, (wr.alloc (.cells #[.int .i64 t.1, .slice (some ⟨g.1, 0, none⟩) t.2.length g.2] 37)).alloc (.cells #[.slice (some ⟨g.1, 0, none⟩) t.2.length g.2] 35) = W1 := ⟨_, rfl⟩
      have hbW : Below wr.heap.size wr W1 := by rw [← hW1]; exact ((Below.refl _ wr).alloc (Nat.le_refl _) _).alloc (by simp) _
      have hown := own_below hO hbW
      have hcs : Cs W1 (.slice (some ⟨wr.heap.size + 1, 0, none⟩) 1 1) 1 1 [.slice (some ⟨g.1, 0, none⟩) t.2.length g.2] := by
        refine cs_row (wr.heap.size + 1) [_] ?_ (by simp [Value.oneCell'])
        rw [← hW1]
        have := heap_alloc_new (wr.alloc (.cells #[.int .i64 t.1, .slice (some ⟨g.1, 0, none⟩) t.2.length g.2] 37)) (.cells #[.slice (some ⟨g.1, 0, none⟩) t.2.length g.2] 35)
        simpa using this
      have hzW : w1.heap.size ≤ W1.heap.size := Nat.le_trans hBr.size hbW.size
      have hend : ∀ v' w4, Grew W1 w4 (.slice pl k cl) v' → w4.ownsRow w1.heap.size 35 1 v' (k + 1) ((dvs bs gs).take k ++ [.slice (some ⟨g.1, 0, none⟩) t.2.length g.2]) → w4.ownsRow w1.heap.size 35 1 v' (k + 1) ((dvs bs gs).take (k + 1)) ∧ Below w1.heap.size w1 w4 := by
        intro v' w4 hg ho
        exact ⟨by rw [htk]; exact ho, hg.belowAll (fun x e => (hown.lt x e).1) (hBr.trans (hbW.mono hBr.size)) (Nat.le_refl _)⟩
      have HE : Hid _ := hend
      clear hend hbW k1 k2 hrow htk hO hBw
      go_wp2_with (first | (at_builtin; refine wpList_append_row _ rfl _ _ 99 35 (.slice none 0 0) 1 24 Try.underlying99 info35 rfl (by decide) rfl w1.heap.size _ k _ rfl hown _ 1 _ rfl hcs (by unfold room; omega) (by unfold maxLen; omega) hzW ?_))
      intro v' w4 ho hg
      rw [← HZ.out] at ho
      obtain ⟨ho2, hb4⟩ := HE.out v' w4 hg ho
      have HO : Hid _ := ho2
      have HB4 : Hid _ := hb4
      clear ho hg ho2 hb4 HE hown hcs hW1 hzW hBr
      go_wp2
      go_roundw
      case rel =>
        first
          | exact ⟨k + 1, by omega, by go_num, HO.out, HB4.out⟩
          | ((repeat apply Exists.intro); refine ⟨⟨k + 1, by omega, ?_, HO.out, HB4.out⟩, rfl⟩; go_num)
      case measure => simp [intOf]; omega
    · obtain rfl : k = bs.length := by omega
      have hx2 := (hBr.block w.heap.size (by omega)).trans HX.out
      have c1 := cell_of wr _ 1 _ 48 _ hx2 rfl
      have c2 := cell_of wr _ 2 _ 48 _ hx2 rfl
      rw [List.take_of_length_le (by rw [dvs_len _ _ HH.out.len]; exact Nat.le_refl _)] at hO
      obtain ⟨W1, hW1⟩ : ∃ W1, wr.alloc (.cells #[.slice rp ram.length rc', .slice sp scr.length sc'] 35) = W1 := ⟨_, rfl⟩
      have hbW : Below wr.heap.size wr W1 := by rw [← hW1]; exact (Below.refl _ wr).alloc (Nat.le_refl _) _
      have hown := own_below hO hbW
      have hcs : Cs W1 (.slice (some ⟨wr.heap.size, 0, none⟩) 2 2) 1 2 [.slice rp ram.length rc', .slice sp scr.length sc'] := by
        refine cs_row wr.heap.size [_, _] ?_ (by simp [Value.oneCell'])
        rw [← hW1]; exact heap_alloc_new wr _
      have hzW : w1.heap.size ≤ W1.heap.size := Nat.le_trans hBr.size hbW.size
      have hend : ∀ v' w4, Grew W1 w4 (.slice pl bs.length cl) v' → w4.ownsRow w1.heap.size 35 1 v' (bs.length + 2) (dvs bs gs ++ [.slice rp ram.length rc', .slice sp scr.length sc']) → ∃ bl cap, v' = .slice (some ⟨bl, 0, none⟩) (bs.length + 2) cap ∧ Below w.heap.size w w4 ∧
          Calls Try.prog 57 #[.slice (some ⟨bl, 0, none⟩) (bs.length + 2) cap] w4 fun r w' => r = .returned (.bool true) ∧ Below B w w' ∧ Fr H w w' := by
        intro v' w4 hg ho
        have hb4 : Below w.heap.size w w4 := HB1.out.trans ((hg.belowAll (fun x e => (hown.lt x e).1) (hBr.trans (hbW.mono hBr.size)) (Nat.le_refl _)).mono (by omega))
        obtain ⟨bl, cap, rfl⟩ := own_pos ho (by omega)
        refine ⟨bl, cap, rfl, hb4, ?_⟩
        have hp := HH.out.p1 hB hb4 bl cap (own_mono ho (by omega))
        have hph : P1h B H bl (bs.length + 2) _ _ w4 w4 _ := ⟨hp, ⟨Nat.le_refl _, fun _ _ _ => rfl⟩, fun i hi x hx => .inl (by
          rcases HH.out.cases i hi with ⟨t, g, _, e2, e3, _⟩ | ⟨_, e3, _⟩ | ⟨_, e3, _⟩ <;> rw [e3] at hx
          · simp [Value.ownBlock] at hx; have := HO3.out.1 g (List.mem_of_getElem? e2); omega
          · exact HO3.out.2.1 x hx
          · exact HO3.out.2.2 x hx)⟩
        refine (apart_hi B H bl (bs.length + 2) cap (by omega) _ _ _ w4 hph ?_).mono ?_
        · intro i hi
          have hle : (sl_ bs ram scr i).length ≤ 16384 := by
            rcases HH.out.cases i hi with ⟨t, g, e1, _, _, e4⟩ | ⟨_, _, e4⟩ | ⟨_, _, e4⟩
            · rw [e4]; exact HD.out t (List.mem_of_getElem? e1)
            · rw [e4]; exact hr
            · rw [e4]; exact hs
          show (sl_ bs ram scr i).length + 200 ≤ room
          unfold room; omega
        · rintro r w' ⟨rfl, hb, hf⟩
          exact ⟨rfl, (hb4.mono hB).trans hb, Nat.le_trans hb4.size hf.1, fun k k1 k2 => (hf.2 k k1 (Nat.lt_of_lt_of_le k2 hb4.size)).trans (hb4.block k k2)⟩
      have HE : Hid _ := hend
      clear hend hbW hO hBw hx2 hBr
      go_wp2_with (first | (at_builtin; refine wpList_append_row _ rfl _ _ 99 35 (.slice none 0 0) 1 24 Try.underlying99 info35 rfl (by decide) rfl w1.heap.size _ bs.length _ rfl hown _ 2 _ rfl hcs (by unfold room; omega) (by unfold maxLen; omega) hzW ?_))
      intro v' w4 ho hg
      rw [← HZ.out] at ho
      obtain ⟨bl, cap, rfl, hb4, hc⟩ := HE.out v' w4 hg ho
      clear ho hg HE hown hcs hW1 hzW hb4
      go_wp2_with fail
      refine hc.mono ?_
      rintro e w5 ⟨rfl, hb5⟩
      have HB5 : Hid _ := hb5
      clear hb5 hc
      go_wp2
      go_ret
      exact ⟨rfl, HB5.out⟩
end Go.Proofs.Ytcmaccefjlgbfaa
