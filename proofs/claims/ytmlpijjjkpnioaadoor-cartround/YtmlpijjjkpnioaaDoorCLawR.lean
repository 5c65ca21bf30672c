import Derived.Test.YtmlpijjjkpnioaaDoorCKnownW
/-! 7.5, W4: CartRound. -/
namespace Go.Proofs.YtmlpijjjkpnioaaDoor.C
open Go.RowKit
open Go.Proofs
open Go.Proofs.YtmlpijjjkpnioaaDoor.K
set_option linter.unusedVariables false
set_option linter.unusedSimpArgs false
set_option maxHeartbeats 4000000
set_option maxRecDepth 100000
/-- What the second half of the law asks, in the world behind the first. -/
theorem round_walk (v : Value) (c : Ct) (ep : Option Addr) (ec : Nat) (bp : Option Addr) (bc : Nat) (kv : Value) (rv : Value) (l : List UInt8) (hl : l.length ≤ room) (w : World) (h : IsC w v c ep ec bp bc kv) (hr : Sl w rv l) (hT : Tab w) :
    Calls Tryd.prog 3 #[v, rv] w fun e w' => e = .returned (.bool true) ∧ Below w.heap.size w w' := by
  obtain ⟨kp, kc, rfl, _⟩ := h.code.ex
  have hv := h.val
  subst hv
  obtain ⟨wb, hwb⟩ : ∃ wb, wb = w.alloc (.cells #[.slice kp c.code.length kc, .int .u16 (c.entry : Int), .slice ep c.effs.length ec, .slice bp c.banks.length bc] 27) := ⟨_, rfl⟩
  have hBb : Below w.heap.size w wb := by rw [hwb]; exact (Below.refl _ _).alloc (Nat.le_refl _) _
  have hNb : wb.heap[w.heap.size]? = some (.cells [.slice kp c.code.length kc, .int .u16 (c.entry : Int), .slice ep c.effs.length ec, .slice bp c.banks.length bc].toArray 27 (0, 0)) := by rw [hwb]; exact heap_alloc_new w _
  have hen := encode_any _ c ep ec bp bc _ wb (h.below hBb) (hT.below hBb hT.pos)
  have HH := hid h
  have HN := hid hNb
  have HB := hid hBb
  have HR := hid hr
  have HT := hid hT
  obtain ⟨rp, rc, hrr, _⟩ := hr.ex
  subst hrr
  unfold cv at *
  rw [hwb] at hen
  clear hNb hBb h hr hT
  have nm := num_any
  -- the second half, from any world that keeps what is below
  have half : ∀ (W : World), Below w.heap.size w W → Calls Tryd.prog 10 #[.slice rp l.length rc] W fun e w' => DecO W w' l e ∧ Below W.heap.size W w' := fun W hW => decode_any _ l hl W (HR.out.below hW) (HT.out.below hW HT.out.pos)
  by_cases hm : may c = true
  case neg =>
    have hm : may c = false := by simpa using hm
    simp only [hm, Bool.false_eq_true, if_false] at hen
    go_enter Tryd.func3, Tryd.ntmps3
    go_wp2_with fail
    refine hen.mono ?_
    rw [← hwb]
    rintro e w1 ⟨⟨u1, rfl, hu1⟩, hb1⟩
    have hB1 := HB.out.trans (hb1.mono HB.out.size)
    have hn1 := (hb1.block _ (lt_of HN.out)).trans HN.out
    have hck := check_any _ c ep ec bp bc _ w1 (HH.out.below hB1)
    unfold cv at hck
    simp only [hm, Bool.false_eq_true, if_false] at hck
    have k0 := cell_of w1 w.heap.size 0 _ _ _ hn1 rfl
    have k1 := cell_of w1 w.heap.size 1 _ _ _ hn1 rfl
    have k2 := cell_of w1 w.heap.size 2 _ _ _ hn1 rfl
    have k3 := cell_of w1 w.heap.size 3 _ _ _ hn1 rfl
    obtain ⟨p1, c1, hpp, _⟩ := hu1.sl.ex
    rw [List.length_nil] at hpp
    have HB1 := hid hB1
    subst hpp
    clear hen hwb hu1 hn1 hB1 hb1
    go_wp2_with fail
    refine hck.mono ?_
    rintro e w2 ⟨rfl, hb2⟩
    have HBW := hid (HB1.out.trans (hb2.mono HB1.out.size))
    clear hck k0 k1 k2 k3 hb2
    go_wp2_with (first | (go_at_call 11; refine (nm _ _).mono ?_; rintro e w9 ⟨rfl, hw9⟩; obtain rfl := hw9.symm))
    have hq0 := half w2 HBW.out
    rcases dec_err l with hz | ⟨hz, hc0⟩
    · obtain ⟨d, hd⟩ : ∃ d, decB l = (0, d) := ⟨(decB l).2, by rw [← hz]⟩
      obtain ⟨hm5, hf5, he5⟩ := enc_dec hd
      have hq1 : Calls Tryd.prog 10 #[.slice rp l.length rc] w2 fun e w' => (∃ v kv ev bv prs, e = .returned (.tuple #[v, .int .i64 0]) ∧ OwC w' w2.heap.size v d kv ev bv prs) ∧ Below w2.heap.size w2 w' := hq0.mono fun e w' ⟨⟨v, h1, kv, ev, bv, prs, h2⟩, h3⟩ => by
        rw [hd] at h1 h2
        exact ⟨⟨v, kv, ev, bv, prs, h1, h2⟩, h3⟩
      have HE5 := hid he5
      have hI5 := may_ints hm5 hf5
      have HI5 := hid hI5
      clear hq0 hd hz hI5 he5
      go_wp2_with fail
      refine hq1.mono ?_
      rintro e w6 ⟨⟨v6, kv6, ev6, bv6, prs6, rfl, hO6⟩, hb6⟩
      obtain ⟨kp6, kn6, kc6, ep6, en6, ec6, bp6, bn6, bc6, rfl, rfl, rfl⟩ := hO6.form
      have hv6 := hO6.val
      subst hv6
      have hB6 := HBW.out.trans (hb6.mono HBW.out.size)
      obtain ⟨W7, hW7⟩ : ∃ W, W = w6.alloc (.cells #[.slice kp6 kn6 kc6, .int .u16 (d.entry : Int), .slice ep6 en6 ec6, .slice bp6 bn6 bc6] 27) := ⟨_, rfl⟩
      have hbx6 : Below w6.heap.size w6 W7 := by rw [hW7]; exact (Below.refl _ _).alloc (Nat.le_refl _) _
      have hnx6 : W7.heap[w6.heap.size]? = some (.cells [.slice kp6 kn6 kc6, .int .u16 (d.entry : Int), .slice ep6 en6 ec6, .slice bp6 bn6 bc6].toArray 27 (0, 0)) := by rw [hW7]; exact heap_alloc_new w6 _
      have hB7 := hB6.trans (hbx6.mono hB6.size)
      obtain ⟨fep, fec, fbp, fbc, hI7⟩ := (hO6.below hbx6).isC HI5.out
      have hen7 := encode_any _ d fep fec fbp fbc _ W7 hI7 (HT.out.below hB7 HT.out.pos)
      simp only [hm5, if_true] at hen7
      have m0 := cell_of W7 w6.heap.size 0 _ _ _ hnx6 rfl
      have m1 := cell_of W7 w6.heap.size 1 _ _ _ hnx6 rfl
      have m2 := cell_of W7 w6.heap.size 2 _ _ _ hnx6 rfl
      have m3 := cell_of W7 w6.heap.size 3 _ _ _ hnx6 rfl
      rw [hW7] at hen7 m0 m1 m2 m3
      have HB7 := hid hB7
      have HX6 := hid hnx6
      have HI7 := hid hI7
      clear hq1 hO6 hb6 hB6 hbx6 hB7 hnx6 hI7
      go_wp2_with (first | (go_at_call 11; refine (nm _ _).mono ?_; rintro e w9 ⟨rfl, hw9⟩; obtain rfl := hw9.symm))
      refine hen7.mono ?_
      rw [← hW7]
      rintro e w8 ⟨⟨u8, rfl, hu8⟩, hb8⟩
      have hB8 := HB7.out.trans (hb8.mono HB7.out.size)
      have hn8 := (hb8.block _ (lt_of HX6.out)).trans HX6.out
      rw [HE5.out] at hu8
      have hcA := hu8.sl.conv (by unfold maxLen; unfold room at hl; omega)
      have hcB := (HR.out.below hB8).conv (by unfold maxLen; unfold room at hl; omega)
      have hck8 := check_any _ d fep fec fbp fbc _ w8 (HI7.out.below hb8)
      simp only [hm5, if_true] at hck8
      have m0 := cell_of w8 w6.heap.size 0 _ _ _ hn8 rfl
      have m1 := cell_of w8 w6.heap.size 1 _ _ _ hn8 rfl
      have m2 := cell_of w8 w6.heap.size 2 _ _ _ hn8 rfl
      have m3 := cell_of w8 w6.heap.size 3 _ _ _ hn8 rfl
      obtain ⟨p8, c8, hpp, _⟩ := hu8.sl.ex
      subst hpp
      have hkn := fun W (hW : Below w.heap.size w W) => known_any W (HT.out.below hW HT.out.pos)
      have HB8 := hid hB8
      generalize (⟨l.toArray⟩ : ByteArray) = s at *
      clear hen7 hW7 hu8 hb8 hB8 hn8
      go_wp2_with (first | (go_at_call 11; refine (nm _ _).mono ?_; rintro e w9 ⟨rfl, hw9⟩; obtain rfl := hw9.symm) | (go_at_call 9; refine hck8.mono ?_; rintro e wA ⟨rfl, hbA⟩; have hBA := HB8.out.trans (hbA.mono HB8.out.size); have hknA := hkn wA hBA; have HBA := hid hBA; clear hbA hBA) | (go_at_call 13; refine hknA.mono ?_; rintro e wB ⟨rfl, hbB⟩))
      go_ret
      exact ⟨rfl, HBA.out.trans (hbB.mono HBA.out.size)⟩
    · obtain ⟨k, hk, hk1, hk2⟩ : ∃ k : Nat, (decB l).1 = k ∧ 70 ≤ k ∧ k ≤ 73 := ⟨_, rfl, by omega, by omega⟩
      have hq1 : Calls Tryd.prog 10 #[.slice rp l.length rc] w2 fun e w' => (∃ v kv ev bv prs, e = .returned (.tuple #[v, .int .i64 (k : Int)]) ∧ OwC w' w2.heap.size v ct0 kv ev bv prs) ∧ Below w2.heap.size w2 w' := hq0.mono fun e w' ⟨⟨v, h1, kv, ev, bv, prs, h2⟩, h3⟩ => by
        rw [hk] at h1
        rw [hc0] at h2
        exact ⟨⟨v, kv, ev, bv, prs, h1, h2⟩, h3⟩
      have HI5 := hid (may_ints may0 fit0)
      have d1 : ((k : Int) != 0) = true := by simp; omega
      have d2 : decide ((70 : Int) ≤ (k : Int)) = true := by simp; omega
      have d3 : decide ((k : Int) ≤ 73) = true := by simp; omega
      clear hq0 hz hc0 hk
      go_wp2_with fail
      refine hq1.mono ?_
      rintro e w6 ⟨⟨v6, kv6, ev6, bv6, prs6, rfl, hO6⟩, hb6⟩
      obtain ⟨kp6, kn6, kc6, ep6, en6, ec6, bp6, bn6, bc6, rfl, rfl, rfl⟩ := hO6.form
      have hv6 := hO6.val
      subst hv6
      have hB6 := HBW.out.trans (hb6.mono HBW.out.size)
      obtain ⟨W7, hW7⟩ : ∃ W, W = w6.alloc (.cells #[.slice kp6 kn6 kc6, .int .u16 (ct0.entry : Int), .slice ep6 en6 ec6, .slice bp6 bn6 bc6] 27) := ⟨_, rfl⟩
      have hbx6 : Below w6.heap.size w6 W7 := by rw [hW7]; exact (Below.refl _ _).alloc (Nat.le_refl _) _
      have hnx6 : W7.heap[w6.heap.size]? = some (.cells [.slice kp6 kn6 kc6, .int .u16 (ct0.entry : Int), .slice ep6 en6 ec6, .slice bp6 bn6 bc6].toArray 27 (0, 0)) := by rw [hW7]; exact heap_alloc_new w6 _
      have hB7 := hB6.trans (hbx6.mono hB6.size)
      obtain ⟨fep, fec, fbp, fbc, hI7⟩ := (hO6.below hbx6).isC HI5.out
      have hsm7 := same_true _ _ ct0 fep none fec 0 fbp none fbc 0 _ _ W7 hI7 (isc0 W7)
      have m0 := cell_of W7 w6.heap.size 0 _ _ _ hnx6 rfl
      have m1 := cell_of W7 w6.heap.size 1 _ _ _ hnx6 rfl
      have m2 := cell_of W7 w6.heap.size 2 _ _ _ hnx6 rfl
      have m3 := cell_of W7 w6.heap.size 3 _ _ _ hnx6 rfl
      rw [hW7] at hsm7 m0 m1 m2 m3
      have hkn := fun W (hW : Below w.heap.size w W) => known_any W (HT.out.below hW HT.out.pos)
      have HB7 := hid hB7
      clear hq1 hO6 hb6 hB6 hbx6 hB7 hnx6 hI7
      go_wp2_with (first | (go_at_call 11; refine (nm _ _).mono ?_; rintro e w9 ⟨rfl, hw9⟩; obtain rfl := hw9.symm))
      refine hsm7.mono ?_
      rw [← hW7]
      rintro e wA ⟨rfl, hbA⟩
      have hBA := HB7.out.trans (hbA.mono HB7.out.size)
      have hknA := hkn wA hBA
      have HBA := hid hBA
      clear hsm7 hW7 hbA hBA m0 m1 m2 m3 hkn
      go_wp2_with (first | (go_at_call 13; refine hknA.mono ?_; rintro e wB ⟨rfl, hbB⟩))
      go_ret
      exact ⟨rfl, HBA.out.trans (hbB.mono HBA.out.size)⟩
  simp only [hm, if_true] at hen
  have hsz := enc_size hm
  have hIc : Ints c := may_ints hm HH.out.fit
  go_enter Tryd.func3, Tryd.ntmps3
  go_wp2_with fail
  refine hen.mono ?_
  rw [← hwb]
  rintro e w1 ⟨⟨u1, rfl, hu1⟩, hb1⟩
  have hB1 := HB.out.trans (hb1.mono HB.out.size)
  have hn1 := (hb1.block _ (lt_of HN.out)).trans HN.out
  have hck := check_any _ c ep ec bp bc _ w1 (HH.out.below hB1)
  unfold cv at hck
  simp only [hm, if_true] at hck
  have k0 := cell_of w1 w.heap.size 0 _ _ _ hn1 rfl
  have k1 := cell_of w1 w.heap.size 1 _ _ _ hn1 rfl
  have k2 := cell_of w1 w.heap.size 2 _ _ _ hn1 rfl
  have k3 := cell_of w1 w.heap.size 3 _ _ _ hn1 rfl
  obtain ⟨p1, c1, hpp, _⟩ := hu1.sl.ex
  have HU1 := hid hu1
  have HN1 := hid hn1
  have HB1 := hid hB1
  subst hpp
  clear hen hwb hu1 hn1 hB1 hb1
  go_wp2_with fail
  refine hck.mono ?_
  rintro e w2 ⟨rfl, hb2⟩
  -- append([]byte{}, b...)
  have hB2 := HB1.out.trans (hb2.mono HB1.out.size)
  have hn2 := (hb2.block _ (lt_of HN1.out)).trans HN1.out
  have hr0 : Row (w2.alloc (.cells #[] 5)) w2.heap.size (.slice (some ⟨w2.heap.size, 0, none⟩) 0 0) [] := row_of_alloc w2 w2.heap.size (Nat.le_refl _) [] (by simp)
  have hb0 : Below w2.heap.size w2 (w2.alloc (.cells #[] 5)) := (Below.refl _ _).alloc (Nat.le_refl _) _
  have hs0 := (HU1.out.sl.below hb2).below hb0
  have HN2 := hid hn2
  have HB2 := hid hB2
  clear hck k0 k1 k2 k3 hn2 hB2
  go_wp2_with (first | (at_builtin; refine wpList_append_bytes _ rfl _ _ rfl w2.heap.size _ [] rfl hr0 _ (encB c) rfl hs0 (by simp only [List.length_nil]; unfold room; omega) hb0.size ?_))
  intro v3 w3 hr3 hg3
  have hb3 : Below w2.heap.size w2 w3 := hg3.belowAll (fun g e => (hr0.lt g e).1) hb0 (Nat.le_refl _)
  have hB3 := HB2.out.trans (hb3.mono HB2.out.size)
  have hn3 := (hb3.block _ (lt_of HN2.out)).trans HN2.out
  have hde := decode_any v3 (encB c) (by unfold room; omega) w3 hr3.sl (HT.out.below hB3 HT.out.pos)
  obtain ⟨p3, c3, hpp, _⟩ := hr3.sl.ex
  have HN3 := hid hn3
  have HB3 := hid hB3
  subst hpp
  clear hr0 hb0 hs0 hr3 hg3 hb3 hB3 hn3 HN2
  go_wp2_with fail
  refine hde.mono ?_
  rintro e w4 ⟨hD, hb4⟩
  obtain ⟨v4, kv4, ev4, bv4, prs4, rfl, hO⟩ := dec_ok hD hm HH.out.fit
  obtain ⟨kp4, kn4, kc4, ep4, en4, ec4, bp4, bn4, bc4, rfl, rfl, rfl⟩ := hO.form
  have hv4 := hO.val
  subst hv4
  have hB4 := HB3.out.trans (hb4.mono HB3.out.size)
  have hn4 := (hb4.block _ (lt_of HN3.out)).trans HN3.out
  obtain ⟨W5, hW5⟩ : ∃ W, W = w4.alloc (.cells #[.slice kp4 kn4 kc4, .int .u16 (c.entry : Int), .slice ep4 en4 ec4, .slice bp4 bn4 bc4] 27) := ⟨_, rfl⟩
  have hbx4 : Below w4.heap.size w4 W5 := by rw [hW5]; exact (Below.refl _ _).alloc (Nat.le_refl _) _
  have hnx4 : W5.heap[w4.heap.size]? = some (.cells [.slice kp4 kn4 kc4, .int .u16 (c.entry : Int), .slice ep4 en4 ec4, .slice bp4 bn4 bc4].toArray 27 (0, 0)) := by rw [hW5]; exact heap_alloc_new w4 _
  have hB5 := hB4.trans (hbx4.mono hB4.size)
  obtain ⟨fep, fec, fbp, fbc, hI5⟩ := (hO.below hbx4).isC hIc
  have hsm := same_true _ _ c ep fep ec fec bp fbp bc fbc _ _ W5 (HH.out.below hB5) hI5
  unfold cv at hsm
  have hn5 := (hbx4.block _ (lt_of hn4)).trans hn4
  have k0 := cell_of W5 w.heap.size 0 _ _ _ hn5 rfl
  have k1 := cell_of W5 w.heap.size 1 _ _ _ hn5 rfl
  have k2 := cell_of W5 w.heap.size 2 _ _ _ hn5 rfl
  have k3 := cell_of W5 w.heap.size 3 _ _ _ hn5 rfl
  have m0 := cell_of W5 w4.heap.size 0 _ _ _ hnx4 rfl
  have m1 := cell_of W5 w4.heap.size 1 _ _ _ hnx4 rfl
  have m2 := cell_of W5 w4.heap.size 2 _ _ _ hnx4 rfl
  have m3 := cell_of W5 w4.heap.size 3 _ _ _ hnx4 rfl
  rw [hW5] at hsm k0 k1 k2 k3 m0 m1 m2 m3
  have HB5 := hid hB5
  clear hde hO hb4 hD hB4 hn4 hbx4 hnx4 hB5 hI5 hn5 hIc
  go_wp2_with (first | (go_at_call 11; refine (nm _ _).mono ?_; rintro e w9 ⟨rfl, hw9⟩; obtain rfl := hw9.symm))
  refine hsm.mono ?_
  rw [← hW5]
  rintro e w5 ⟨rfl, hb5⟩
  have HBW := hid (HB5.out.trans (hb5.mono HB5.out.size))
  clear hsm hW5 hb5 k0 k1 k2 k3 m0 m1 m2 m3
  go_wp2_with fail
  have hq0 := half w5 HBW.out
  rcases dec_err l with hz | ⟨hz, hc0⟩
  · obtain ⟨d, hd⟩ : ∃ d, decB l = (0, d) := ⟨(decB l).2, by rw [← hz]⟩
    obtain ⟨hm5, hf5, he5⟩ := enc_dec hd
    have hq1 : Calls Tryd.prog 10 #[.slice rp l.length rc] w5 fun e w' => (∃ v kv ev bv prs, e = .returned (.tuple #[v, .int .i64 0]) ∧ OwC w' w5.heap.size v d kv ev bv prs) ∧ Below w5.heap.size w5 w' := hq0.mono fun e w' ⟨⟨v, h1, kv, ev, bv, prs, h2⟩, h3⟩ => by
      rw [hd] at h1 h2
      exact ⟨⟨v, kv, ev, bv, prs, h1, h2⟩, h3⟩
    have HE5 := hid he5
    have hI5 := may_ints hm5 hf5
    have HI5 := hid hI5
    clear hq0 hd hz hI5 he5
    go_wp2_with fail
    refine hq1.mono ?_
    rintro e w6 ⟨⟨v6, kv6, ev6, bv6, prs6, rfl, hO6⟩, hb6⟩
    obtain ⟨kp6, kn6, kc6, ep6, en6, ec6, bp6, bn6, bc6, rfl, rfl, rfl⟩ := hO6.form
    have hv6 := hO6.val
    subst hv6
    have hB6 := HBW.out.trans (hb6.mono HBW.out.size)
    obtain ⟨W7, hW7⟩ : ∃ W, W = w6.alloc (.cells #[.slice kp6 kn6 kc6, .int .u16 (d.entry : Int), .slice ep6 en6 ec6, .slice bp6 bn6 bc6] 27) := ⟨_, rfl⟩
    have hbx6 : Below w6.heap.size w6 W7 := by rw [hW7]; exact (Below.refl _ _).alloc (Nat.le_refl _) _
    have hnx6 : W7.heap[w6.heap.size]? = some (.cells [.slice kp6 kn6 kc6, .int .u16 (d.entry : Int), .slice ep6 en6 ec6, .slice bp6 bn6 bc6].toArray 27 (0, 0)) := by rw [hW7]; exact heap_alloc_new w6 _
    have hB7 := hB6.trans (hbx6.mono hB6.size)
    obtain ⟨fep, fec, fbp, fbc, hI7⟩ := (hO6.below hbx6).isC HI5.out
    have hen7 := encode_any _ d fep fec fbp fbc _ W7 hI7 (HT.out.below hB7 HT.out.pos)
    simp only [hm5, if_true] at hen7
    have m0 := cell_of W7 w6.heap.size 0 _ _ _ hnx6 rfl
    have m1 := cell_of W7 w6.heap.size 1 _ _ _ hnx6 rfl
    have m2 := cell_of W7 w6.heap.size 2 _ _ _ hnx6 rfl
    have m3 := cell_of W7 w6.heap.size 3 _ _ _ hnx6 rfl
    rw [hW7] at hen7 m0 m1 m2 m3
    have HB7 := hid hB7
    have HX6 := hid hnx6
    have HI7 := hid hI7
    clear hq1 hO6 hb6 hB6 hbx6 hB7 hnx6 hI7
    go_wp2_with (first | (go_at_call 11; refine (nm _ _).mono ?_; rintro e w9 ⟨rfl, hw9⟩; obtain rfl := hw9.symm))
    refine hen7.mono ?_
    rw [← hW7]
    rintro e w8 ⟨⟨u8, rfl, hu8⟩, hb8⟩
    have hB8 := HB7.out.trans (hb8.mono HB7.out.size)
    have hn8 := (hb8.block _ (lt_of HX6.out)).trans HX6.out
    rw [HE5.out] at hu8
    have hcA := hu8.sl.conv (by unfold maxLen; unfold room at hl; omega)
    have hcB := (HR.out.below hB8).conv (by unfold maxLen; unfold room at hl; omega)
    have hck8 := check_any _ d fep fec fbp fbc _ w8 (HI7.out.below hb8)
    simp only [hm5, if_true] at hck8
    have m0 := cell_of w8 w6.heap.size 0 _ _ _ hn8 rfl
    have m1 := cell_of w8 w6.heap.size 1 _ _ _ hn8 rfl
    have m2 := cell_of w8 w6.heap.size 2 _ _ _ hn8 rfl
    have m3 := cell_of w8 w6.heap.size 3 _ _ _ hn8 rfl
    obtain ⟨p8, c8, hpp, _⟩ := hu8.sl.ex
    subst hpp
    have hkn := fun W (hW : Below w.heap.size w W) => known_any W (HT.out.below hW HT.out.pos)
    have HB8 := hid hB8
    generalize (⟨l.toArray⟩ : ByteArray) = s at *
    clear hen7 hW7 hu8 hb8 hB8 hn8
    go_wp2_with (first | (go_at_call 11; refine (nm _ _).mono ?_; rintro e w9 ⟨rfl, hw9⟩; obtain rfl := hw9.symm) | (go_at_call 9; refine hck8.mono ?_; rintro e wA ⟨rfl, hbA⟩; have hBA := HB8.out.trans (hbA.mono HB8.out.size); have hknA := hkn wA hBA; have HBA := hid hBA; clear hbA hBA) | (go_at_call 13; refine hknA.mono ?_; rintro e wB ⟨rfl, hbB⟩))
    go_ret
    exact ⟨rfl, HBA.out.trans (hbB.mono HBA.out.size)⟩
  · obtain ⟨k, hk, hk1, hk2⟩ : ∃ k : Nat, (decB l).1 = k ∧ 70 ≤ k ∧ k ≤ 73 := ⟨_, rfl, by omega, by omega⟩
    have hq1 : Calls Tryd.prog 10 #[.slice rp l.length rc] w5 fun e w' => (∃ v kv ev bv prs, e = .returned (.tuple #[v, .int .i64 (k : Int)]) ∧ OwC w' w5.heap.size v ct0 kv ev bv prs) ∧ Below w5.heap.size w5 w' := hq0.mono fun e w' ⟨⟨v, h1, kv, ev, bv, prs, h2⟩, h3⟩ => by
      rw [hk] at h1
      rw [hc0] at h2
      exact ⟨⟨v, kv, ev, bv, prs, h1, h2⟩, h3⟩
    have HI5 := hid (may_ints may0 fit0)
    have d1 : ((k : Int) != 0) = true := by simp; omega
    have d2 : decide ((70 : Int) ≤ (k : Int)) = true := by simp; omega
    have d3 : decide ((k : Int) ≤ 73) = true := by simp; omega
    clear hq0 hz hc0 hk
    go_wp2_with fail
    refine hq1.mono ?_
    rintro e w6 ⟨⟨v6, kv6, ev6, bv6, prs6, rfl, hO6⟩, hb6⟩
    obtain ⟨kp6, kn6, kc6, ep6, en6, ec6, bp6, bn6, bc6, rfl, rfl, rfl⟩ := hO6.form
    have hv6 := hO6.val
    subst hv6
    have hB6 := HBW.out.trans (hb6.mono HBW.out.size)
    obtain ⟨W7, hW7⟩ : ∃ W, W = w6.alloc (.cells #[.slice kp6 kn6 kc6, .int .u16 (ct0.entry : Int), .slice ep6 en6 ec6, .slice bp6 bn6 bc6] 27) := ⟨_, rfl⟩
    have hbx6 : Below w6.heap.size w6 W7 := by rw [hW7]; exact (Below.refl _ _).alloc (Nat.le_refl _) _
    have hnx6 : W7.heap[w6.heap.size]? = some (.cells [.slice kp6 kn6 kc6, .int .u16 (ct0.entry : Int), .slice ep6 en6 ec6, .slice bp6 bn6 bc6].toArray 27 (0, 0)) := by rw [hW7]; exact heap_alloc_new w6 _
    have hB7 := hB6.trans (hbx6.mono hB6.size)
    obtain ⟨fep, fec, fbp, fbc, hI7⟩ := (hO6.below hbx6).isC HI5.out
    have hsm7 := same_true _ _ ct0 fep none fec 0 fbp none fbc 0 _ _ W7 hI7 (isc0 W7)
    have m0 := cell_of W7 w6.heap.size 0 _ _ _ hnx6 rfl
    have m1 := cell_of W7 w6.heap.size 1 _ _ _ hnx6 rfl
    have m2 := cell_of W7 w6.heap.size 2 _ _ _ hnx6 rfl
    have m3 := cell_of W7 w6.heap.size 3 _ _ _ hnx6 rfl
    rw [hW7] at hsm7 m0 m1 m2 m3
    have hkn := fun W (hW : Below w.heap.size w W) => known_any W (HT.out.below hW HT.out.pos)
    have HB7 := hid hB7
    clear hq1 hO6 hb6 hB6 hbx6 hB7 hnx6 hI7
    go_wp2_with (first | (go_at_call 11; refine (nm _ _).mono ?_; rintro e w9 ⟨rfl, hw9⟩; obtain rfl := hw9.symm))
    refine hsm7.mono ?_
    rw [← hW7]
    rintro e wA ⟨rfl, hbA⟩
    have hBA := HB7.out.trans (hbA.mono HB7.out.size)
    have hknA := hkn wA hBA
    have HBA := hid hBA
    clear hsm7 hW7 hbA hBA m0 m1 m2 m3 hkn
    go_wp2_with (first | (go_at_call 13; refine hknA.mono ?_; rintro e wB ⟨rfl, hbB⟩))
    go_ret
    exact ⟨rfl, HBA.out.trans (hbB.mono HBA.out.size)⟩
end Go.Proofs.YtmlpijjjkpnioaaDoor.C
