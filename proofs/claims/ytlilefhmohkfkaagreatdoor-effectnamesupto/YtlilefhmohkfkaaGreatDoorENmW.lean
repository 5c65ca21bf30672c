import Derived.Test.YtlilefhmohkfkaaGreatDoorENmM
import Derived.Test.YtlilefhmohkfkaaGreatDoorYBank
import Derived.Deep.RegionHeld3
namespace Go.Proofs.YtlilefhmohkfkaaGreatDoor.E
open Go.RowKit
open Go.Proofs
open Go.Proofs.YtlilefhmohkfkaaGreatDoor.Y (Nd Df Ps ndc dfc hid NV DV D1 cells6 cells9 BV)
open R (lk numb)
set_option linter.unusedVariables false
set_option linter.unusedSimpArgs false
set_option maxHeartbeats 2000000
set_option maxRecDepth 100000
theorem conv_one (W : World) (b : Nat) (x : UInt8) (h : W.cell? ⟨b, 0, none⟩ = some (.int .u8 (x.toNat : Int))) : (convert 66 9 (.slice (some ⟨b, 0, none⟩) 1 1)).run Tryz.prog W = .ok (.string ⟨#[x]⟩) W := by
  have := run_convert_bytes_back (P := Tryz.prog) W 66 9 5 ⟨b, 0, none⟩ 1 [x] Tryz.underlying66 Tryz.underlying5 Tryz.underlying9 (fun j hj => by
    have hj0 : j = 0 := by simp at hj; exact hj
    subst hj0
    rw [Addr.add_lit]
    exact h)
  exact this
theorem bch2 {B : Nat} {a b c : World} (h : Below B a b) (hB : B <= b.heap.size) (k : Below b.heap.size b c) : Below B a c := h.trans (k.mono hB)
theorem digits_any : ∀ (f n : Nat), f <= 7 -> n < 10 ^ (f + 1) -> ∀ (W : World), Calls Tryz.prog 15 #[.int .i64 (n : Int)] W fun e w' => e = .returned (.string ⟨(digF f n).toArray⟩) /\ Below W.heap.size W w' := by
  intro f
  induction f with
  | zero =>
    intro n hf hn W
    have h10 : n < 10 := by simpa using hn
    have i1 : (n : Int) < 10 := by omega
    have hb : ((UInt8.ofNat (48 + n)).toNat : Int) = 48 + (n : Int) := by rw [b_nat n h10]; omega
    have hd : digF 0 n = [UInt8.ofNat (48 + n)] := by rw [digF, Nat.mod_eq_of_lt h10]
    rw [hd]
    generalize UInt8.ofNat (48 + n) = bx at *
    have hcv := conv_one (W.alloc (.cells #[.int .u8 (48 + (n : Int))] 5)) W.heap.size bx (by rw [hb]; exact S.cell_of _ _ 0 [Value.int .u8 (48 + (n : Int))] 5 _ (heap_alloc_new W _) rfl)
    have i2 : (0 : Int) <= n := by omega
    clear hd hb hn
    go_enter Tryz.func15, Tryz.ntmps15
    go_wp2
    go_ret
    exact ⟨rfl, (Below.refl _ _).alloc (Nat.le_refl _) _⟩
  | succ f ih =>
    intro n hf hn W
    by_cases h10 : n < 10
    · have i1 : (n : Int) < 10 := by omega
      have hb : ((UInt8.ofNat (48 + n)).toNat : Int) = 48 + (n : Int) := by rw [b_nat n h10]; omega
      have hd : digF (f + 1) n = [UInt8.ofNat (48 + n)] := by rw [digF, if_pos h10]
      rw [hd]
      generalize UInt8.ofNat (48 + n) = bx at *
      have hcv := conv_one (W.alloc (.cells #[.int .u8 (48 + (n : Int))] 5)) W.heap.size bx (by rw [hb]; exact S.cell_of _ _ 0 [Value.int .u8 (48 + (n : Int))] 5 _ (heap_alloc_new W _) rfl)
      have i2 : (0 : Int) <= n := by omega
      clear hd hb hn ih
      go_enter Tryz.func15, Tryz.ntmps15
      go_wp2
      go_ret
      exact ⟨rfl, (Below.refl _ _).alloc (Nat.le_refl _) _⟩
    · have i1 : ¬ (n : Int) < 10 := by omega
      have hd : digF (f + 1) n = digF f (n / 10) ++ [UInt8.ofNat (48 + n % 10)] := by rw [digF, if_neg h10]
      rw [hd]
      have hlq := ih (n / 10) (by omega) (by rw [Nat.pow_succ] at hn; omega)
      have hsz : (⟨(digF f (n / 10)).toArray⟩ : ByteArray).size <= 8 := by
        have := dig_len f (n / 10)
        show (digF f (n / 10)).toArray.size <= 8
        rw [List.size_toArray]; omega
      have hcat : (⟨(digF f (n / 10)).toArray⟩ : ByteArray) ++ ⟨#[UInt8.ofNat (48 + n % 10)]⟩ = ⟨(digF f (n / 10) ++ [UInt8.ofNat (48 + n % 10)]).toArray⟩ := by
        apply ByteArray.ext
        simp [ByteArray.data_append]
      rw [<- hcat]
      have hq : (n : Int).tdiv 10 = ((n / 10 : Nat) : Int) := by rw [Int.tdiv_eq_ediv_of_nonneg (by omega)]; omega
      have hr : (n : Int).tmod 10 = ((n % 10 : Nat) : Int) := by rw [Int.tmod_eq_emod_of_nonneg (by omega)]; omega
      have hb : ((UInt8.ofNat (48 + n % 10)).toNat : Int) = 48 + ((n % 10 : Nat) : Int) := by rw [b_nat _ (by omega)]; omega
      obtain ⟨r, hrr⟩ : ∃ r, n % 10 = r := ⟨_, rfl⟩
      obtain ⟨q, hqq⟩ : ∃ q, n / 10 = q := ⟨_, rfl⟩
      rw [hrr] at hr hb ⊢
      rw [hqq] at hq hlq hsz ⊢
      have r1 : r < 10 := by omega
      have q1 : q < 1000000000 := by
        have : 10 ^ (f + 1 + 1) <= 10 ^ 9 := Nat.pow_le_pow_right (by decide) (by omega)
        have := Nat.lt_of_lt_of_le hn this
        omega
      generalize UInt8.ofNat (48 + r) = bx at *
      have HLQ := hid hlq
      have HB := hid hb
      have n1 : (0 : Int) <= n := by omega
      have n2 : n < 1000000000 := Nat.lt_of_lt_of_le hn (by
        have : 10 ^ (f + 1 + 1) <= 10 ^ 9 := Nat.pow_le_pow_right (by decide) (by omega)
        exact this)
      generalize (⟨(digF f q).toArray⟩ : ByteArray) = ba at *
      clear hd hlq hcat hn ih hrr hqq hb h10
      go_enter Tryz.func15, Tryz.ntmps15
      go_upto_region 3 with fail
      refine wp_region_held_drew (S := fun _ => True) (by kernel_rfl) trivial (fun hHeld => ?_)
      have HBy0 := hid (show Below W.heap.size W W.drew from (Below.refl _ _).drew)
      generalize W.drew = y0 at *
      have w1 : IntKind.i64.wrap (q : Int) = q := by rw [IntWalk.i64_left, Y.w_in _ (by omega)]
      have w2 : IntKind.i64.wrap (48 + (r : Int)) = 48 + r := by rw [IntWalk.i64_left, Y.w_in _ (by omega)]
      have w3 : IntKind.u8.wrap (48 + (r : Int)) = 48 + r := IntWalk.u8_in _ (by omega)
      refine wpAnyH_take (i := 0) (v := ?_) rfl (by kernel_rfl) (by kernel_rfl) (by kernel_rfl) (fun c a w h => h) (Or.inl ⟨by rfl, ?_⟩) hHeld ?_
      rotate_left
      · (intro w hSw; (try dsimp only at hSw); go_simp; try with_reducible rfl)
      simp only [Act.put, List.getElem_toArray, List.getElem_cons_zero, List.getElem_cons_succ, List.setIfInBounds_toArray, List.set_cons_zero, List.set_cons_succ]
      refine wpAnyH_take (i := 1) (v := ?_) rfl (by kernel_rfl) (by kernel_rfl) (by kernel_rfl) (fun c a w h => h) (Or.inl ⟨by rfl, ?_⟩) hHeld ?_
      rotate_left
      · (intro w hSw; (try dsimp only at hSw); go_simp; try with_reducible rfl)
      simp only [Act.put, List.getElem_toArray, List.getElem_cons_zero, List.getElem_cons_succ, List.setIfInBounds_toArray, List.set_cons_zero, List.set_cons_succ]
      refine wpAnyH_take (i := 3) (v := ?_) rfl (by kernel_rfl) (by kernel_rfl) (by kernel_rfl) (fun c a w h => h) (Or.inl ⟨by rfl, ?_⟩) hHeld ?_
      rotate_left
      · (intro w hSw; (try dsimp only at hSw); go_simp; try with_reducible rfl)
      simp only [Act.put, List.getElem_toArray, List.getElem_cons_zero, List.getElem_cons_succ, List.setIfInBounds_toArray, List.set_cons_zero, List.set_cons_succ]
      refine wpAnyH_take (i := 4) (v := ?_) rfl (by kernel_rfl) (by kernel_rfl) (by kernel_rfl) (fun c a w h => h) (Or.inl ⟨by rfl, ?_⟩) hHeld ?_
      rotate_left
      · (intro w hSw; (try dsimp only at hSw); go_simp; try with_reducible rfl)
      simp only [Act.put, List.getElem_toArray, List.getElem_cons_zero, List.getElem_cons_succ, List.setIfInBounds_toArray, List.set_cons_zero, List.set_cons_succ]
      refine wpAnyH_take (i := 5) (v := ?_) rfl (by kernel_rfl) (by kernel_rfl) (by kernel_rfl) (fun c a w h => h) (Or.inl ⟨by rfl, ?_⟩) hHeld ?_
      rotate_left
      · (intro w hSw; (try dsimp only at hSw); go_simp; try with_reducible rfl)
      simp only [Act.put, List.getElem_toArray, List.getElem_cons_zero, List.getElem_cons_succ, List.setIfInBounds_toArray, List.set_cons_zero, List.set_cons_succ]
      refine wpAnyH_take (i := 6) (v := ?_) rfl (by kernel_rfl) (by kernel_rfl) (by kernel_rfl) (fun c a w h => h) (Or.inl ⟨by rfl, ?_⟩) hHeld ?_
      rotate_left
      · (intro w hSw; (try dsimp only at hSw); go_simp; try with_reducible rfl)
      simp only [Act.put, List.getElem_toArray, List.getElem_cons_zero, List.getElem_cons_succ, List.setIfInBounds_toArray, List.set_cons_zero, List.set_cons_succ]
      clear w1 w2 w3
      refine wpAnyH_ready (rs := [2, 7]) (by kernel_rfl) (by simp) ?_
      refine AllReadyH.cons rfl (fun K hK => ?_) ?_
      · go_simp
        refine (HLQ.out y0).mono ?_
        rintro e y1 ⟨rfl, kk⟩
        have HBy1 := hid (bch2 HBy0.out HBy0.out.size kk)
        have HKy1 := hid kk
        refine hK.out _ _ trivial (fun hHeld => ?_)
        clear hK K kk
        try simp only [Act.put, List.getElem_toArray, List.getElem_cons_zero, List.getElem_cons_succ, List.setIfInBounds_toArray, List.set_cons_zero, List.set_cons_succ]
        refine wpAnyH_ready (rs := [7]) (by kernel_rfl) (by simp) ?_
        refine AllReadyH.cons rfl (fun K hK => ?_) AllReadyH.nil
        go_simp
        have kk : Below y1.heap.size y1 (y1.alloc (.cells #[.int .u8 (48 + (r : Int))] 5)) := (Below.refl _ _).alloc (Nat.le_refl _) _
        have hz : (y1.alloc (.cells #[.int .u8 (48 + (r : Int))] 5)).heap[y1.heap.size]? = some (.cells [Value.int .u8 (48 + (r : Int))].toArray 5 (0, 0)) := heap_alloc_new y1 _
        generalize y1.alloc (.cells #[.int .u8 (48 + (r : Int))] 5) = y2 at *
        obtain ⟨b, hbn⟩ : ∃ b, y1.heap.size = b := ⟨_, rfl⟩
        have hz2 : y2.heap[b]? = some (.cells [Value.int .u8 (48 + (r : Int))].toArray 5 (0, 0)) := by rw [<- hbn]; exact hz
        have HZy2 := hid hz2
        have HBy2 := hid (bch2 HBy1.out HBy1.out.size kk)
        rw [hbn]
        refine hK.out _ _ trivial (fun hHeld => ?_)
        clear hK K kk hz hz2 hbn
        try simp only [Act.put, List.getElem_toArray, List.getElem_cons_zero, List.getElem_cons_succ, List.setIfInBounds_toArray, List.set_cons_zero, List.set_cons_succ]
        refine wpAnyH_ready (rs := [8]) (by kernel_rfl) (by simp) ?_
        refine AllReadyH.cons rfl (fun K hK => ?_) AllReadyH.nil
        have hcv := conv_one y2 b bx (by rw [HB.out]; exact S.cell_of _ _ 0 _ 5 _ HZy2.out rfl)
        go_simp
        refine hK.out _ _ trivial (fun hHeld => ?_)
        clear hK K hcv
        try simp only [Act.put, List.getElem_toArray, List.getElem_cons_zero, List.getElem_cons_succ, List.setIfInBounds_toArray, List.set_cons_zero, List.set_cons_succ]
        have hcl : ¬ 9223372036854775807 < ba.size + 1 := by omega
        refine wpAnyH_take (i := 9) (v := ?_) rfl (by kernel_rfl) (by kernel_rfl) (by kernel_rfl) (fun c a w h => h) (Or.inl ⟨by rfl, ?_⟩) hHeld ?_
        rotate_left
        · (intro w hSw; (try dsimp only at hSw); go_simp; try with_reducible rfl)
        simp only [Act.put, List.getElem_toArray, List.getElem_cons_zero, List.getElem_cons_succ, List.setIfInBounds_toArray, List.set_cons_zero, List.set_cons_succ]
        refine wpAnyH_take (i := 10) (v := ?_) rfl (by kernel_rfl) (by kernel_rfl) (by kernel_rfl) (fun c a w h => h) (Or.inl ⟨by rfl, ?_⟩) hHeld ?_
        rotate_left
        · (intro w hSw; (try dsimp only at hSw); go_simp; try with_reducible rfl)
        simp only [Act.put, List.getElem_toArray, List.getElem_cons_zero, List.getElem_cons_succ, List.setIfInBounds_toArray, List.set_cons_zero, List.set_cons_succ]
        refine wpAnyH_done (by kernel_rfl) ?_ _
        clear hHeld
        try simp only [Act.put, List.setIfInBounds_toArray, List.set_cons_zero, List.set_cons_succ]
        go_wp2
        go_ret
        exact ⟨rfl, HBy2.out⟩
      refine AllReadyH.cons rfl (fun K hK => ?_) AllReadyH.nil
      go_simp
      have kk : Below y0.heap.size y0 (y0.alloc (.cells #[.int .u8 (48 + (r : Int))] 5)) := (Below.refl _ _).alloc (Nat.le_refl _) _
      have hz : (y0.alloc (.cells #[.int .u8 (48 + (r : Int))] 5)).heap[y0.heap.size]? = some (.cells [Value.int .u8 (48 + (r : Int))].toArray 5 (0, 0)) := heap_alloc_new y0 _
      generalize y0.alloc (.cells #[.int .u8 (48 + (r : Int))] 5) = y1 at *
      obtain ⟨b, hbn⟩ : ∃ b, y0.heap.size = b := ⟨_, rfl⟩
      have hz2 : y1.heap[b]? = some (.cells [Value.int .u8 (48 + (r : Int))].toArray 5 (0, 0)) := by rw [<- hbn]; exact hz
      have HZy1 := hid hz2
      have HBy1 := hid (bch2 HBy0.out HBy0.out.size kk)
      rw [hbn]
      refine hK.out _ _ trivial (fun hHeld => ?_)
      clear hK K kk hz hz2 hbn
      try simp only [Act.put, List.getElem_toArray, List.getElem_cons_zero, List.getElem_cons_succ, List.setIfInBounds_toArray, List.set_cons_zero, List.set_cons_succ]
      refine wpAnyH_ready (rs := [2, 8]) (by kernel_rfl) (by simp) ?_
      refine AllReadyH.cons rfl (fun K hK => ?_) ?_
      · go_simp
        refine (HLQ.out y1).mono ?_
        rintro e y2 ⟨rfl, kk⟩
        have HBy2 := hid (bch2 HBy1.out HBy1.out.size kk)
        have HKy2 := hid kk
        refine hK.out _ _ trivial (fun hHeld => ?_)
        clear hK K kk
        try simp only [Act.put, List.getElem_toArray, List.getElem_cons_zero, List.getElem_cons_succ, List.setIfInBounds_toArray, List.set_cons_zero, List.set_cons_succ]
        have HZy2 := hid ((HKy2.out.block _ (S.lt_of HZy1.out)).trans HZy1.out)
        refine wpAnyH_ready (rs := [8]) (by kernel_rfl) (by simp) ?_
        refine AllReadyH.cons rfl (fun K hK => ?_) AllReadyH.nil
        have hcv := conv_one y2 b bx (by rw [HB.out]; exact S.cell_of _ _ 0 _ 5 _ HZy2.out rfl)
        go_simp
        refine hK.out _ _ trivial (fun hHeld => ?_)
        clear hK K hcv
        try simp only [Act.put, List.getElem_toArray, List.getElem_cons_zero, List.getElem_cons_succ, List.setIfInBounds_toArray, List.set_cons_zero, List.set_cons_succ]
        have hcl : ¬ 9223372036854775807 < ba.size + 1 := by omega
        refine wpAnyH_take (i := 9) (v := ?_) rfl (by kernel_rfl) (by kernel_rfl) (by kernel_rfl) (fun c a w h => h) (Or.inl ⟨by rfl, ?_⟩) hHeld ?_
        rotate_left
        · (intro w hSw; (try dsimp only at hSw); go_simp; try with_reducible rfl)
        simp only [Act.put, List.getElem_toArray, List.getElem_cons_zero, List.getElem_cons_succ, List.setIfInBounds_toArray, List.set_cons_zero, List.set_cons_succ]
        refine wpAnyH_take (i := 10) (v := ?_) rfl (by kernel_rfl) (by kernel_rfl) (by kernel_rfl) (fun c a w h => h) (Or.inl ⟨by rfl, ?_⟩) hHeld ?_
        rotate_left
        · (intro w hSw; (try dsimp only at hSw); go_simp; try with_reducible rfl)
        simp only [Act.put, List.getElem_toArray, List.getElem_cons_zero, List.getElem_cons_succ, List.setIfInBounds_toArray, List.set_cons_zero, List.set_cons_succ]
        refine wpAnyH_done (by kernel_rfl) ?_ _
        clear hHeld
        try simp only [Act.put, List.setIfInBounds_toArray, List.set_cons_zero, List.set_cons_succ]
        go_wp2
        go_ret
        exact ⟨rfl, HBy2.out⟩
      refine AllReadyH.cons rfl (fun K hK => ?_) AllReadyH.nil
      have hcv := conv_one y1 b bx (by rw [HB.out]; exact S.cell_of _ _ 0 _ 5 _ HZy1.out rfl)
      go_simp
      refine hK.out _ _ trivial (fun hHeld => ?_)
      clear hK K hcv
      try simp only [Act.put, List.getElem_toArray, List.getElem_cons_zero, List.getElem_cons_succ, List.setIfInBounds_toArray, List.set_cons_zero, List.set_cons_succ]
      refine wpAnyH_ready (rs := [2]) (by kernel_rfl) (by simp) ?_
      refine AllReadyH.cons rfl (fun K hK => ?_) AllReadyH.nil
      go_simp
      refine (HLQ.out y1).mono ?_
      rintro e y2 ⟨rfl, kk⟩
      have HBy2 := hid (bch2 HBy1.out HBy1.out.size kk)
      have HKy2 := hid kk
      refine hK.out _ _ trivial (fun hHeld => ?_)
      clear hK K kk
      try simp only [Act.put, List.getElem_toArray, List.getElem_cons_zero, List.getElem_cons_succ, List.setIfInBounds_toArray, List.set_cons_zero, List.set_cons_succ]
      have hcl : ¬ 9223372036854775807 < ba.size + 1 := by omega
      refine wpAnyH_take (i := 9) (v := ?_) rfl (by kernel_rfl) (by kernel_rfl) (by kernel_rfl) (fun c a w h => h) (Or.inl ⟨by rfl, ?_⟩) hHeld ?_
      rotate_left
      · (intro w hSw; (try dsimp only at hSw); go_simp; try with_reducible rfl)
      simp only [Act.put, List.getElem_toArray, List.getElem_cons_zero, List.getElem_cons_succ, List.setIfInBounds_toArray, List.set_cons_zero, List.set_cons_succ]
      refine wpAnyH_take (i := 10) (v := ?_) rfl (by kernel_rfl) (by kernel_rfl) (by kernel_rfl) (fun c a w h => h) (Or.inl ⟨by rfl, ?_⟩) hHeld ?_
      rotate_left
      · (intro w hSw; (try dsimp only at hSw); go_simp; try with_reducible rfl)
      simp only [Act.put, List.getElem_toArray, List.getElem_cons_zero, List.getElem_cons_succ, List.setIfInBounds_toArray, List.set_cons_zero, List.set_cons_succ]
      refine wpAnyH_done (by kernel_rfl) ?_ _
      clear hHeld
      try simp only [Act.put, List.setIfInBounds_toArray, List.set_cons_zero, List.set_cons_succ]
      go_wp2
      go_ret
      exact ⟨rfl, HBy2.out⟩
theorem lk_skip (s : ByteArray) : ∀ (ns : List ByteArray) (k i : Nat), (∀ t ∈ ns.take k, t ≠ s) -> lk (numb ns i) s = lk (numb (ns.drop k) (i + k)) s
  | [], k, i, _ => by simp [numb, lk]
  | t :: r, 0, i, _ => rfl
  | t :: r, k + 1, i, h => by
    rw [numb, lk, if_neg (h t (by simp)), List.drop_succ_cons, lk_skip s r k (i + 1) (fun u hu => h u (by simp [hu]))]
    congr 2
    omega
theorem renamed_any (ds : List Df) (hd : ds.length <= 1048576) (s : ByteArray) (dv bv : Value) (hbv : ∃ p n c, bv = .slice p n c) (O : Nat -> Prop) (W : World) (hO : ∀ j, O j -> j < W.heap.size) (hD : DV W O dv ds) :
    Calls Tryz.prog 17 #[.agg #[dv, bv], .string s] W fun e w' => e = .returned (.string (ren ds s)) /\ Below W.heap.size W w' := by
  obtain ⟨p, c, rfl, hl, hp⟩ := hD
  obtain ⟨bp, bn, bc, rfl⟩ := hbv
  obtain ⟨W0, hW0⟩ : ∃ W0, W.alloc (.cells #[.slice p ds.length c, .slice bp bn bc] 35) = W0 := ⟨_, rfl⟩
  have hB : Below W.heap.size W W0 := by rw [<- hW0]; exact (Below.refl _ _).alloc (Nat.le_refl _) _
  have v0 : W0.heap[W.heap.size]? = some (.cells [Value.slice p ds.length c, .slice bp bn bc].toArray 35 (0, 0)) := by rw [<- hW0]; exact heap_alloc_new W _
  have c0 := S.cell_of W0 _ 0 _ 35 _ v0 rfl
  have HH := hid (And.intro hB v0)
  clear hB v0
  go_enter Tryz.func17, Tryz.ntmps17
  go_wp2
  clear hW0 c0
  go_loopw [9] (fun ix wr => ∃ k : Nat, k <= ds.length /\ ix = .int .i64 (k : Int) /\ Below W0.heap.size W0 wr /\ (s ≠ nMain -> ∀ t ∈ (ds.map (·.nm)).take k, t ≠ s)) (fun ix _ => ds.length - (intOf ix).toNat)
  case atStart => exact ⟨0, by omega, rfl, Below.refl _ _, fun _ t ht => by simp at ht⟩
  case round =>
    obtain ⟨k, hk, rfl, hb, hE⟩ := hrel
    have v1 := (hb.block _ (S.lt_of HH.out.2)).trans HH.out.2
    have c0 := S.cell_of wr _ 0 _ 35 _ v1 rfl
    have HBW := hid (And.intro (HH.out.1.trans (hb.mono HH.out.1.size)) hb)
    clear v1
    by_cases hlt : k < ds.length
    · have i1 : (k : Int) < ds.length := by omega
      have ea := List.getElem?_eq_getElem hlt
      generalize ds[k] = d at *
      obtain ⟨b, o, rfl, hOb, bv2, hcl, hN⟩ := hp k d ea
      obtain ⟨q, cq, rfl, _, _⟩ := hN.ex
      have k1 := HBW.out.1.block b (hO b hOb)
      obtain ⟨g0, g1, g2, g3, g4, g5⟩ := cells6 fun j x hx => (World.cell?_of_block (w := W) (a := ⟨b, o + k * 6 + j, none⟩) k1).trans (hcl j x hx)
      have hnk : (ds.map (·.nm))[k]? = some d.nm := by rw [List.getElem?_map, ea]; rfl
      have HT : Y.Hd ((s ≠ nMain -> d.nm ≠ s) -> (s ≠ nMain -> ∀ t ∈ (ds.map (·.nm)).take (k + 1), t ≠ s)) := ⟨fun hne hm t ht => by
        rw [List.take_add_one, hnk] at ht
        rcases List.mem_append.1 ht with ht | ht
        · exact hE hm t ht
        · have e : t = d.nm := by simpa using ht
          rw [e]; exact hne hm⟩
      have HR : Y.Hd (d.nm = s -> s ≠ nMain -> ren ds s = zzN k) := ⟨fun e1 e2 => by
        unfold ren
        have h1 := lk_skip s (ds.map (·.nm)) k 0 (hE e2)
        rw [List.drop_eq_getElem_cons (by rw [List.length_map]; exact hlt)] at h1
        have h2 : (ds.map (·.nm))[k]'(by rw [List.length_map]; exact hlt) = s := by
          have := (List.getElem?_eq_some_iff.1 hnk).2
          rw [this]; exact e1
        rw [h2, numb, lk, if_pos rfl] at h1
        rw [if_neg e2, h1]
        show zzN (((0 + k : Nat) : Int)).toNat = zzN k
        congr 1
        omega⟩
      have Hk := hid hk
      clear k1 hp hN hcl hO ea hE hb hnk hk
      by_cases hns : d.nm = s
      · by_cases hm : s = nMain
        · have HT2 := hid (HT.out (fun h => absurd hm h))
          rw [hns, hm] at g1
          subst hm
          unfold nMain at *
          clear hns HR HT
          go_wp2
          go_roundw
          case rel =>
            first
              | exact ⟨k + 1, by omega, by go_num, HBW.out.2, HT2.out⟩
              | ((repeat apply Exists.intro); refine ⟨⟨k + 1, by omega, ?_, HBW.out.2, HT2.out⟩, rfl⟩; go_num)
          case measure => simp [intOf]; omega
        · have HR2 := hid (HR.out hns hm)
          have m1 : ¬ s.toList = nMain.toList := fun c => hm (R.toList_inj c)
          have m2 : (s.toList == [109, 97, 105, 110]) = false := by
            rw [beq_eq_false_iff_ne]; intro e; exact m1 (by rw [e, nMain, ByteArray.toList_eq])
          have m3 : ¬ s.toList = [109, 97, 105, 110] := by simpa using m2
          rw [hns] at g1
          have hcd := digits_any 7 k (by decide) (by have : k < 100000000 := by omega
                                                     exact this) wr
          have hsz : (⟨(digF 7 k).toArray⟩ : ByteArray).size <= 8 := by
            have := dig_len 7 k
            show (digF 7 k).toArray.size <= 8
            rw [List.size_toArray]; omega
          have hcat : (⟨#[122, 122]⟩ : ByteArray) ++ ⟨(digF 7 k).toArray⟩ = zzN k := by
            unfold zzN zzL dgs
            apply ByteArray.ext
            simp [ByteArray.data_append]
          have HC := hid hcat
          generalize (⟨(digF 7 k).toArray⟩ : ByteArray) = ba at *
          clear hm m1 hns HR HT hcat
          go_wp2_with fail
          refine hcd.mono ?_
          rintro e w1 ⟨rfl, kk⟩
          have HE := hid (bch2 HBW.out.1 HBW.out.1.size kk)
          clear hcd kk
          go_wp2
          go_ret
          rw [HR2.out, <- HC.out]
          exact ⟨rfl, HE.out⟩
      · have HT2 := hid (HT.out (fun _ => hns))
        have m1 : ¬ d.nm.toList = s.toList := fun c => hns (R.toList_inj c)
        have m2 : (d.nm.toList == s.toList) = false := by rw [beq_eq_false_iff_ne]; exact m1
        clear hns HR HT
        go_wp2
        go_roundw
        case rel =>
          first
            | exact ⟨k + 1, by omega, by go_num, HBW.out.2, HT2.out⟩
            | ((repeat apply Exists.intro); refine ⟨⟨k + 1, by omega, ?_, HBW.out.2, HT2.out⟩, rfl⟩; go_num)
        case measure => simp [intOf]; omega
    · have i1 : ¬ (k : Int) < ds.length := by omega
      have hR : ren ds s = s := by
        unfold ren
        by_cases hm : s = nMain
        · rw [if_pos hm]
        · rw [if_neg hm]
          have h1 := lk_no s (ds.map (·.nm)) (fun hh => hE hm s (by rw [List.take_of_length_le (by rw [List.length_map]; omega)]; exact hh) rfl)
          rw [h1]
      have HRR := hid hR
      clear hE hR
      go_wp2
      go_ret
      rw [HRR.out]
      exact ⟨rfl, HBW.out.1⟩
end Go.Proofs.YtlilefhmohkfkaaGreatDoor.E
