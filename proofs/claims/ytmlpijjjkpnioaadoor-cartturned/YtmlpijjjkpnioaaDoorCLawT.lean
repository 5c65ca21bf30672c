import Derived.Test.YtmlpijjjkpnioaaDoorCKnownW
import Derived.Test.YtmlpijjjkpnioaaDoorCTurnM
/-! 7.6: CartTurned. -/
namespace Go.Proofs.YtmlpijjjkpnioaaDoor.C
open Go.RowKit
open Go.Proofs
open Go.Proofs.YtmlpijjjkpnioaaDoor.K
set_option linter.unusedVariables false
set_option linter.unusedSimpArgs false
set_option maxHeartbeats 16000000
set_option maxRecDepth 100000
theorem slice_hm (W : World) (p : Option Addr) (n cap h : Nat) (z : Int) (hz : z = (h : Int)) (hc : h ≤ cap) : (Instr.sliceAt 22 (.slice p n cap) none (some (.int .i64 z)) (some (.int .i64 z))).run Tryd.prog W = .ok (.slice p h h) W := by
  subst hz
  have e0 : Option.map (fun x : Addr => x.add 0) p = p := by cases p <;> simp [Addr.add]
  rw [run_sliceAt_slice W 22 _ _ _ _ elem22, run_slice_hm W 22 p n cap elem22 .i64 .i64 (h : Int) (h : Int) (by omega) (by omega) (by omega), size5]
  simp [Result.andThen, sliced, e0]
theorem row_cell {W : World} {B g n cap : Nat} {l : List UInt8} (h : Row W B (.slice (some ⟨g, 0, none⟩) n cap) l) (j : Nat) (hj : j < l.length) : W.cell? ⟨g, j, none⟩ = some (.int .u8 (l[j].toNat : Int)) := by
  obtain ⟨p, c, e, hbs⟩ := h.sl.ex
  obtain ⟨y, hy, hcy⟩ := hbs.at j (l[j]) (by simp)
  simp only [Value.slice.injEq] at e
  rw [← e.1] at hy
  cases hy
  rw [Addr.add_lit] at hcy
  simpa using hcy
theorem sl_cap {W : World} {p : Option Addr} {n c m : Nat} {l : List UInt8} (h : Sl W (.slice p n c) l) (hn : n = l.length) (hm : l.length ≤ m) (hp : p ≠ none) : Sl W (.slice p n m) l := by
  rcases h with ⟨e, rfl⟩ | ⟨x, c', e, hc, h⟩
  · cases e; exact absurd rfl hp
  · simp only [Value.slice.injEq] at e
    obtain ⟨rfl, rfl, rfl⟩ := e
    exact .inr ⟨x, m, rfl, hm, h⟩
theorem turned_walk (v : Value) (c : Ct) (ep : Option Addr) (ec : Nat) (bp : Option Addr) (bc : Nat) (kv : Value) (a : Int) (by_ : UInt8) (ct : Int) (w : World) (h : IsC w v c ep ec bp bc kv) (hT : Tab w) :
    Calls Tryd.prog 4 #[v, .int .i64 a, .int .u8 (by_.toNat : Int), .int .i64 ct] w fun e w' => e = .returned (.bool true) ∧ Below w.heap.size w w' := by
  obtain ⟨kp, kc, rfl, _⟩ := h.code.ex
  have hv := h.val
  subst hv
  obtain ⟨wb, hwb⟩ : ∃ wb, wb = w.alloc (.cells #[.slice kp c.code.length kc, .int .u16 (c.entry : Int), .slice ep c.effs.length ec, .slice bp c.banks.length bc] 27) := ⟨_, rfl⟩
  have hBb : Below w.heap.size w wb := by rw [hwb]; exact (Below.refl _ _).alloc (Nat.le_refl _) _
  have hen := encode_any _ c ep ec bp bc _ wb (h.below hBb) (hT.below hBb hT.pos)
  have HH := hid h
  have HB := hid hBb
  have HT := hid hT
  unfold cv at *
  rw [hwb] at hen
  clear hBb h hT
  have nm := num_any
  have hkn := fun W (hW : Below w.heap.size w W) => known_any W (HT.out.below hW HT.out.pos)
  by_cases hm : may c = true
  case neg =>
    have hm : may c = false := by simpa using hm
    simp only [hm, Bool.false_eq_true, if_false] at hen
    go_enter Tryd.func4, Tryd.ntmps4
    go_wp2_with fail
    refine hen.mono ?_
    rw [← hwb]
    rintro e w1 ⟨⟨u1, rfl, hu1⟩, hb1⟩
    have hB1 := HB.out.trans (hb1.mono HB.out.size)
    have hk1 := hkn w1 hB1
    obtain ⟨p1, c1, hpp, _⟩ := hu1.sl.ex
    have HB1 := hid hB1
    subst hpp
    clear hen hwb hu1 hB1 hb1 hkn
    go_wp2_with (first | (go_at_call 11; refine (nm _ _).mono ?_; rintro e w9 ⟨rfl, hw9⟩; obtain rfl := hw9.symm) | (go_at_call 13; refine hk1.mono ?_; rintro e wB ⟨rfl, hbB⟩))
    go_ret
    exact ⟨rfl, HB1.out.trans (hbB.mono HB1.out.size)⟩
  simp only [hm, if_true] at hen
  obtain ⟨z1, z2⟩ := enc_size hm
  have h5 := enc_five c
  go_enter Tryd.func4, Tryd.ntmps4
  go_wp2_with fail
  refine hen.mono ?_
  rw [← hwb]
  rintro e w1 ⟨⟨u1, rfl, hu1⟩, hb1⟩
  have hB1 := HB.out.trans (hb1.mono HB.out.size)
  obtain ⟨g, cap, hpp⟩ := own_pos hu1 (by omega)
  have hcap : (encB c).length ≤ cap := by
    rcases hu1.2 with ⟨e, _⟩ | ⟨_, _, _, e, _, _, h2, _⟩
    · rw [hpp] at e; cases e
    · rw [hpp] at e; simp only [Value.slice.injEq] at e; rw [e.2.2]; exact h2
  subst hpp
  have hgw := (hu1.lt g rfl).1
  have hgw2 : w.heap.size ≤ g := Nat.le_trans HB.out.size hgw
  by_cases hx : by_ = 0
  · subst hx
    have d1 : ((((0 : UInt8).toNat : Nat) : Int) == 0) = true := rfl
    have hk1 := hkn w1 hB1
    have HB1 := hid hB1
    clear hen hwb hu1 hB1 hb1 hkn hgw
    go_wp2_with (first | (go_at_call 11; refine (nm _ _).mono ?_; rintro e w9 ⟨rfl, hw9⟩; obtain rfl := hw9.symm) | (go_at_call 13; refine hk1.mono ?_; rintro e wB ⟨rfl, hbB⟩))
    go_ret
    exact ⟨rfl, HB1.out.trans (hbB.mono HB1.out.size)⟩
  have d1 : ((by_.toNat : Int) == 0) = false := by have := x_ne hx; exact beq_false_of_ne (by omega)
  obtain ⟨k, hk, ek⟩ := place1 a (encB c).length (by omega) (by omega)
  obtain ⟨n, hn, en⟩ := place1 ct (encB c).length (by omega) (by omega)
  have hq0 : (((encB c).length : Int) == 0) = false := beq_false_of_ne (by omega)
  have htd := turn_dec hm k hk by_ hx
  have hcs := @cut_short (encB c) n
  have hclg := fun hn12 : 12 ≤ n => @cut_long (encB c) n hn12 hn (by omega) h5
  have HTD := hid htd
  have HCS := hid hcs
  have HCL := hid hclg
  clear htd hcs hclg
  generalize encB c = b at *
  have hc1 := row_cell hu1 k hk
  have hf1 := row_fz hu1 k
  have hxl : b[k].toNat ^^^ by_.toNat < 256 := by rw [← UInt8.toNat_xor]; exact u8lt _
  have hx8 := xor8 b[k].toNat by_.toNat (u8lt _) (u8lt _)
  have hst := row_store hu1 k hk (b[k] ^^^ by_)
  rw [UInt8.toNat_xor] at hst
  have hBs := set_below hB1 hgw2 k (.int .u8 ((b[k].toNat ^^^ by_.toNat : Nat) : Int))
  have hde := decode_any _ (b.set k (b[k] ^^^ by_)) (by simp; unfold room; omega) _ hst.sl (HT.out.below hBs HT.out.pos)
  have HST := hid hst
  have HBS := hid hBs
  have HL : Hid (b.length ≤ 327872 ∧ 32 ≤ b.length) := hid ⟨z2, z1⟩
  have HU := hid hu1
  have HB1 := hid hB1
  have i1 : decide ((b.length : Int) < 32) = false := by simp; omega
  have i2 : (k : Int) < b.length := by omega
  have i3 : (n : Int) < b.length := by omega
  have z3 : b.length ≤ 327872 := z2
  clear hen hwb hu1 hB1 hb1 hgw hst hBs
  go_wp2_with (first | (go_at_call 11; refine (nm _ _).mono ?_; rintro e w9 ⟨rfl, hw9⟩; obtain rfl := hw9.symm))
  -- the turned bytes are refused
  obtain ⟨q, hq, hdq, hq2⟩ : ∃ q : Nat, (q = 70 ∨ q = 71) ∧ decB (b.set k (b[k] ^^^ by_)) = (q, ct0) ∧ q < 100 := by
    rcases HTD.out with e | e
    · exact ⟨70, .inl rfl, e, by omega⟩
    · exact ⟨71, .inr rfl, e, by omega⟩
  have dq : ((q : Int) != 70) = false ∨ (((q : Int) != 70) = true ∧ ((q : Int) != 71) = false) := by
    rcases hq with rfl | rfl
    · exact .inl rfl
    · exact .inr ⟨rfl, rfl⟩
  clear hq
  rcases dq with d70 | ⟨d70, d71⟩
  all_goals
    have hde2 : Calls Tryd.prog 10 #[.slice (some ⟨g, 0, none⟩) b.length cap] (w1.setCell ⟨g, k, none⟩ (.int .u8 ((b[k].toNat ^^^ by_.toNat : Nat) : Int))) fun e w' => (∃ v kv ev bv prs, e = .returned (.tuple #[v, .int .i64 (q : Int)]) ∧ OwC w' (w1.setCell ⟨g, k, none⟩ (.int .u8 ((b[k].toNat ^^^ by_.toNat : Nat) : Int))).heap.size v ct0 kv ev bv prs) ∧ Below (w1.setCell ⟨g, k, none⟩ (.int .u8 ((b[k].toNat ^^^ by_.toNat : Nat) : Int))).heap.size (w1.setCell ⟨g, k, none⟩ (.int .u8 ((b[k].toNat ^^^ by_.toNat : Nat) : Int))) w' := hde.mono fun e w' ⟨⟨v, h1, kv, ev, bv, prs, h2⟩, h3⟩ => by
      rw [hdq] at h1 h2
      exact ⟨⟨v, kv, ev, bv, prs, h1, h2⟩, h3⟩
    clear hde HTD hdq hkn
    refine hde2.mono ?_
    rintro e w2 ⟨⟨v2, kv2, ev2, bv2, prs2, rfl, hO2⟩, hb2⟩
    obtain ⟨kp2, kn2, kc2, ep2, en2, ec2, bp2, bn2, bc2, rfl, rfl, rfl⟩ := hO2.form
    have hv2 := hO2.val
    subst hv2
    have hB2 := HBS.out.trans (hb2.mono HBS.out.size)
    have hS2 := HST.out.below hb2
    obtain ⟨W3, hW3⟩ : ∃ W, W = w2.alloc (.cells #[.slice kp2 kn2 kc2, .int .u16 (ct0.entry : Int), .slice ep2 en2 ec2, .slice bp2 bn2 bc2] 27) := ⟨_, rfl⟩
    have hb3 : Below w2.heap.size w2 W3 := by rw [hW3]; exact (Below.refl _ _).alloc (Nat.le_refl _) _
    have hn3 : W3.heap[w2.heap.size]? = some (.cells [.slice kp2 kn2 kc2, .int .u16 (ct0.entry : Int), .slice ep2 en2 ec2, .slice bp2 bn2 bc2].toArray 27 (0, 0)) := by rw [hW3]; exact heap_alloc_new w2 _
    obtain ⟨fep, fec, fbp, fbc, hI3⟩ := (hO2.below hb3).isC (may_ints may0 fit0)
    have hsm := same_true _ _ ct0 fep none fec 0 fbp none fbc 0 _ _ W3 hI3 (isc0 W3)
    have m0 := cell_of W3 w2.heap.size 0 _ _ _ hn3 rfl
    have m1 := cell_of W3 w2.heap.size 1 _ _ _ hn3 rfl
    have m2 := cell_of W3 w2.heap.size 2 _ _ _ hn3 rfl
    have m3 := cell_of W3 w2.heap.size 3 _ _ _ hn3 rfl
    rw [hW3] at hsm m0 m1 m2 m3
    have HB3 := hid (hB2.trans (hb3.mono hB2.size))
    have HS3 := hid (hS2.below hb3)
    clear hde2 hO2 hb2 hB2 hS2 hb3 hn3 hI3 HST HBS hc1 hf1 ek
    go_wp2_with (first | (go_at_call 11; refine (nm _ _).mono ?_; rintro e w9 ⟨rfl, hw9⟩; obtain rfl := hw9.symm))
    refine hsm.mono ?_
    rw [← hW3]
    rintro e w4 ⟨rfl, hb4⟩
    have hS4 := HS3.out.below hb4
    have hB4 := HB3.out.trans (hb4.mono HB3.out.size)
    have hk4 : k < (b.set k (b[k] ^^^ by_)).length := by simpa using hk
    have hc4 := row_cell hS4 k hk4
    have hg4 : (b.set k (b[k] ^^^ by_))[k] = b[k] ^^^ by_ := by simp
    rw [hg4, UInt8.toNat_xor] at hc4
    have hf4 := row_fz hS4 k
    have hx9 : bits .xor .u8 (((b[k].toNat ^^^ by_.toNat : Nat) : Int)) (by_.toNat : Int) = (b[k].toNat : Int) := by
      rw [xor8 _ _ hxl (u8lt _), Nat.xor_assoc, Nat.xor_self, Nat.xor_zero]
    have hst5 := row_store hS4 k hk4 b[k]
    have hbb : (b.set k (b[k] ^^^ by_)).set k b[k] = b := by rw [List.set_set]; exact List.set_getElem_self hk
    rw [hbb] at hst5
    have hBs5 := set_below hB4 hgw2 k (.int .u8 (b[k].toNat : Int))
    have hsl6 := (hst5.sl.take n (by omega))
    have hsl6' : Sl (w4.setCell ⟨g, k, none⟩ (.int .u8 (b[k].toNat : Int))) (.slice (some ⟨g, 0, none⟩) n n) (b.take n) := sl_cap hsl6 (by simp; omega) (by simp; omega) (by simp)
    have hde6 := decode_any _ (b.take n) (by simp; unfold room; omega) _ hsl6' (HT.out.below hBs5 HT.out.pos)
    have shm := fun W => slice_hm W (some ⟨g, 0, none⟩) b.length cap n (n : Int) rfl (by omega)
    have HST5 := hid hst5
    have HBS5 := hid hBs5
    have HBB := hid hbb
    clear hsm hW3 hS4 hB4 hb4 hst5 hBs5 hsl6 hsl6' hbb HS3 m0 m1 m2 m3 hg4
    go_wp2_with fail
    refine hde6.mono ?_
    rintro e w6 ⟨⟨v6, rfl, kv6, ev6, bv6, prs6, hO6⟩, hb6⟩
    obtain ⟨kp6, kn6, kc6, ep6, en6, ec6, bp6, bn6, bc6, rfl, rfl, rfl⟩ := hO6.form
    have hv6 := hO6.val
    subst hv6
    generalize ((decB (b.take n)).2.entry : Int) = en7 at *
    generalize hE : (decB (b.take n)).1 = E at *
    have hB6 := HBS5.out.trans (hb6.mono HBS5.out.size)
    have hS6 := HST5.out.below hb6
    obtain ⟨W7, hW7⟩ : ∃ W, W = w6.alloc (.cells #[.slice kp6 kn6 kc6, .int .u16 en7, .slice ep6 en6 ec6, .slice bp6 bn6 bc6] 27) := ⟨_, rfl⟩
    have hb7 : Below w6.heap.size w6 W7 := by rw [hW7]; exact (Below.refl _ _).alloc (Nat.le_refl _) _
    have hB7 := hB6.trans (hb7.mono hB6.size)
    have hS7 := hS6.below hb7
    have HB7 := hid hB7
    have HS7 := hid hS7
    clear hde6 hO6 hb6 hB6 hS6 hb7 hB7 hS7 HST5 HBS5 hc4 hf4 en hE shm
    by_cases h12 : n < 12
    · have i4 : decide ((n : Int) < 12) = true := by simp; omega
      have hq7 : ((E : Int) == 70) = true ∨ (((E : Int) == 70) = false ∧ ((E : Int) == 71) = true) := by
        rcases HCS.out h12 with e | e
        · rw [e]; exact .inl rfl
        · rw [e]; exact .inr ⟨rfl, rfl⟩
      clear HCS HCL
      rcases hq7 with e70 | ⟨e70, e71⟩
      all_goals
        go_wp2_with (first | (go_at_call 11; refine (nm _ _).mono ?_; rintro e w9 ⟨rfl, hw9⟩; obtain rfl := hw9.symm))
        go_ret
        rw [← hW7]
        exact ⟨rfl, HB7.out⟩
    · have i4 : decide ((n : Int) < 12) = false := by simp; omega
      obtain ⟨m, HM⟩ : ∃ m, Hid (n = m + 4) := ⟨n - 4, hid (by omega)⟩
      have E4 := hid (show (n : Int) - 4 = (m : Int) by have := HM.out; omega)
      have E3 := hid (show (n : Int) - 3 = (m : Int) + 1 by have := HM.out; omega)
      have E2 := hid (show (n : Int) - 2 = (m : Int) + 2 by have := HM.out; omega)
      have E1 := hid (show (n : Int) - 1 = (m : Int) + 3 by have := HM.out; omega)
      have hm3 : m + 3 < b.length := by have := HM.out; omega
      have hcl7 := HCL.out (by omega)
      have hmn : n - 4 = m := by have := HM.out; omega
      rw [hmn] at hcl7
      have r0 := row_cell HS7.out m (by omega)
      have r1 := row_cell HS7.out (m + 1) (by omega)
      have r2 := row_cell HS7.out (m + 2) (by omega)
      have r3 := row_cell HS7.out (m + 3) (by omega)
      have hnum : numL ((b.drop m).take 4) = b[m].toNat + 2 ^ 8 * b[m + 1].toNat + 2 ^ 16 * b[m + 2].toNat + 2 ^ 24 * b[m + 3].toNat := by
        have d0 : (b.drop m).take 4 = [b[m], b[m + 1], b[m + 2], b[m + 3]] := by
          rw [List.drop_eq_getElem_cons (show m < b.length by omega), List.drop_eq_getElem_cons (show m + 1 < b.length by omega), List.drop_eq_getElem_cons (show m + 1 + 1 < b.length by omega), List.drop_eq_getElem_cons (show m + 1 + 1 + 1 < b.length by omega)]
          rfl
        rw [d0]; simp only [numL]; omega
      have y0 := u8lt b[m]
      have y1 := u8lt b[m + 1]
      have y2 := u8lt b[m + 2]
      have y3 := u8lt b[m + 3]
      rw [hnum] at hcl7
      have hsT := HS7.out.sl.take m (by omega)
      have htl : (b.take m).length = m := by simp; omega
      have s4 := fun W => slice_to W (some ⟨g, 0, none⟩) b.length cap m (m : Int) rfl (by omega)
      have hsmW : ∀ (W : World), Below W7.heap.size W7 W → ∀ nb, W.cell? ⟨nb, 0, none⟩ = some (.slice (some ⟨g, 0, none⟩) m cap) → Calls Tryd.prog 14 #[.slice (some ⟨nb, 0, none⟩) 1 1] W fun e w' => e = .returned (.int .u32 (crc (b.take m) : Int)) ∧ w' = W := fun W hW nb hc => sum_at nb W (some ⟨g, 0, none⟩) (b.take m) cap (by rw [htl]; exact hc) (by rw [htl]; exact hsT.below hW) (by rw [htl]; unfold room; omega) (HT.out.below (HB7.out.trans (hW.mono HB7.out.size)) HT.out.pos)
      clear HCS HCL hnum hsT
      generalize b[m].toNat = b0 at *
      generalize b[m + 1].toNat = b1 at *
      generalize b[m + 2].toNat = b2 at *
      generalize b[m + 3].toNat = b3 at *
      generalize crc (b.take m) = C at *
      obtain ⟨W8, hW8⟩ : ∃ W, W = (W7.alloc (.cells #[.slice (some ⟨g, 0, none⟩) m cap] 22)).drew := ⟨_, rfl⟩
      have hb8 : Below W7.heap.size W7 W8 := by rw [hW8]; exact ((Below.refl _ W7).alloc (Nat.le_refl _) _).drew
      have hc8 : W8.cell? ⟨W7.heap.size, 0, none⟩ = some (.slice (some ⟨g, 0, none⟩) m cap) := by rw [hW8]; exact cell_of (W7.alloc (.cells #[.slice (some ⟨g, 0, none⟩) m cap] 22)) _ 0 [.slice (some ⟨g, 0, none⟩) m cap] _ _ (heap_alloc_new W7 _) rfl
      have hsm8 := hsmW W8 hb8 W7.heap.size hc8
      have s0 : W7.drew.cell? ⟨g, m, none⟩ = some (.int .u8 (b0 : Int)) ∧ W7.drew.cell? ⟨g, m + 1, none⟩ = some (.int .u8 (b1 : Int)) ∧ W7.drew.cell? ⟨g, m + 2, none⟩ = some (.int .u8 (b2 : Int)) ∧ W7.drew.cell? ⟨g, m + 3, none⟩ = some (.int .u8 (b3 : Int)) := ⟨r0, r1, r2, r3⟩
      have s1 : W8.cell? ⟨g, m, none⟩ = some (.int .u8 (b0 : Int)) ∧ W8.cell? ⟨g, m + 1, none⟩ = some (.int .u8 (b1 : Int)) ∧ W8.cell? ⟨g, m + 2, none⟩ = some (.int .u8 (b2 : Int)) ∧ W8.cell? ⟨g, m + 3, none⟩ = some (.int .u8 (b3 : Int)) := ⟨below_cell hb8 _ _ r0, below_cell hb8 _ _ r1, below_cell hb8 _ _ r2, below_cell hb8 _ _ r3⟩
      rw [hW8] at hsm8 s1
      have HB8 := hid (HB7.out.trans (hb8.mono HB7.out.size))
      clear hsmW hb8 hc8 r0 r1 r2 r3
      have j0 : (m : Int) ≤ cap := by omega
      have j1 : (m : Int) < b.length := by omega
      have j2 : (m : Int) + 1 < b.length := by omega
      have j3 : (m : Int) + 2 < b.length := by omega
      have j4 : (m : Int) + 3 < b.length := by omega
      have W4' := hid (show IntKind.i64.wrap ((n : Int) - 4) = (m : Int) by rw [E4.out]; simp [IntKind.wrap, IntKind.bits, IntKind.signed]; omega)
      have W3' := hid (show IntKind.i64.wrap ((n : Int) - 3) = (m : Int) + 1 by rw [E3.out]; simp [IntKind.wrap, IntKind.bits, IntKind.signed]; omega)
      have W2' := hid (show IntKind.i64.wrap ((n : Int) - 2) = (m : Int) + 2 by rw [E2.out]; simp [IntKind.wrap, IntKind.bits, IntKind.signed]; omega)
      have W1' := hid (show IntKind.i64.wrap ((n : Int) - 1) = (m : Int) + 3 by rw [E1.out]; simp [IntKind.wrap, IntKind.bits, IntKind.signed]; omega)
      go_wp2_with fail
      rw [← hW7]
      clear hW7
      clear hx8 hxl d1 hq0 i1 z1 h5 hx
      have p1 : ((m : Int) + 1).toNat = m + 1 := by omega
      have p2 : ((m : Int) + 2).toNat = m + 2 := by omega
      have p3 : ((m : Int) + 3).toNat = m + 3 := by omega
      have u0 : IntKind.u32.wrap (b0 : Int) = b0 := by simp [IntKind.wrap, IntKind.bits, IntKind.signed]; omega
      have u1 : IntKind.u32.wrap (b1 : Int) = b1 := by simp [IntKind.wrap, IntKind.bits, IntKind.signed]; omega
      have u2 : IntKind.u32.wrap (b2 : Int) = b2 := by simp [IntKind.wrap, IntKind.bits, IntKind.signed]; omega
      have u3 : IntKind.u32.wrap (b3 : Int) = b3 := by simp [IntKind.wrap, IntKind.bits, IntKind.signed]; omega
      obtain ⟨S1, hS1⟩ : ∃ S, IntKind.u32.wrap ((b1 : Int) * 256) = S := ⟨_, rfl⟩
      obtain ⟨S2, hS2⟩ : ∃ S, IntKind.u32.wrap ((b2 : Int) * 65536) = S := ⟨_, rfl⟩
      obtain ⟨S3, hS3⟩ : ∃ S, IntKind.u32.wrap ((b3 : Int) * 16777216) = S := ⟨_, rfl⟩
      obtain ⟨N1, hN1⟩ : ∃ N : Nat, N = b0 + 256 * b1 := ⟨_, rfl⟩
      obtain ⟨N2, hN2⟩ : ∃ N : Nat, N = N1 + 65536 * b2 := ⟨_, rfl⟩
      obtain ⟨N3, hN3⟩ : ∃ N : Nat, N = N2 + 16777216 * b3 := ⟨_, rfl⟩
      have g1 : bits .or .u32 (b0 : Int) S1 = (N1 : Int) := by
        have := shl_or b0 b1 1 (by omega) (by omega) (by omega)
        rw [← hS1, hN1]; simpa [IntKind.wrap, IntKind.bits, IntKind.signed] using this
      have g2 : bits .or .u32 (N1 : Int) S2 = (N2 : Int) := by
        have := shl_or N1 b2 2 (by omega) (by omega) (by omega)
        rw [← hS2, hN2]; simpa [IntKind.wrap, IntKind.bits, IntKind.signed] using this
      have g3 : bits .or .u32 (N2 : Int) S3 = (N3 : Int) := by
        have := shl_or N2 b3 3 (by omega) (by omega) (by omega)
        rw [← hS3, hN3]; simpa [IntKind.wrap, IntKind.bits, IntKind.signed] using this
      obtain ⟨β, hβ⟩ : ∃ β, ((C : Int) == (N3 : Int)) = β := ⟨_, rfl⟩
      have e71 : ((E : Int) == 71) = !β := by
        by_cases he : C = N3
        · have h1 : β = true := by rw [← hβ, he]; simp
          have h2 : ¬ E = 71 := fun h => hcl7.1 h (by omega)
          rw [h1]; simp; omega
        · have h1 : β = false := by rw [← hβ]; exact beq_false_of_ne (by omega)
          have h2 : E = 71 := hcl7.2 (by omega)
          rw [h1, h2]; rfl
      clear hN1 hN2 hN3
      have o1 : (0 : Int) ≤ (m : Int) + 1 := by omega
      have o2 : (0 : Int) ≤ (m : Int) + 2 := by omega
      have o3 : (0 : Int) ≤ (m : Int) + 3 := by omega
      have x4 := W4'.out
      have x3 := W3'.out
      have x2 := W2'.out
      have x1 := W1'.out
      clear hcl7 hm hm3 W4' W3' W2' W1'
      refine wp_region_held_drew (S := fun w' => w'.cell? ⟨g, m, none⟩ = some (.int .u8 (b0 : Int)) ∧ w'.cell? ⟨g, m + 1, none⟩ = some (.int .u8 (b1 : Int)) ∧ w'.cell? ⟨g, m + 2, none⟩ = some (.int .u8 (b2 : Int)) ∧ w'.cell? ⟨g, m + 3, none⟩ = some (.int .u8 (b3 : Int))) (by kernel_rfl) s0 (fun hHeld => ?_)
      refine wpAnyH_take (i := 0) (v := ?_) rfl (by kernel_rfl) (by kernel_rfl) (by kernel_rfl) (fun c a w h => h) (Or.inl ⟨by rfl, ?_⟩) hHeld ?_
      rotate_left
      · (intro w hSw; (try dsimp only at hSw); go_simp; try with_reducible rfl)
      simp only [Act.put, List.setIfInBounds_toArray, List.set_cons_zero, List.set_cons_succ]
      refine wpAnyH_take (i := 1) (v := ?_) rfl (by kernel_rfl) (by kernel_rfl) (by kernel_rfl) (fun c a w h => h) (Or.inl ⟨by rfl, ?_⟩) hHeld ?_
      rotate_left
      · (intro w hSw; (try dsimp only at hSw); go_simp; try with_reducible rfl)
      simp only [Act.put, List.setIfInBounds_toArray, List.set_cons_zero, List.set_cons_succ]
      refine wpAnyH_take (i := 2) (v := ?_) rfl (by kernel_rfl) (by kernel_rfl) (by kernel_rfl) (fun c a w h => h) (Or.inl ⟨by rfl, ?_⟩) hHeld ?_
      rotate_left
      · (intro w hSw; (try dsimp only at hSw); go_simp; try with_reducible rfl)
      simp only [Act.put, List.setIfInBounds_toArray, List.set_cons_zero, List.set_cons_succ]
      refine wpAnyH_take (i := 3) (v := ?_) rfl (by kernel_rfl) (by kernel_rfl) (by kernel_rfl) (fun c a w h => h) (Or.inl ⟨by rfl, ?_⟩) hHeld ?_
      rotate_left
      · (intro w hSw; (try dsimp only at hSw); go_simp; try with_reducible rfl)
      simp only [Act.put, List.setIfInBounds_toArray, List.set_cons_zero, List.set_cons_succ]
      refine wpAnyH_take (i := 6) (v := ?_) rfl (by kernel_rfl) (by kernel_rfl) (by kernel_rfl) (fun c a w h => h) (Or.inl ⟨by rfl, ?_⟩) hHeld ?_
      rotate_left
      · (intro w hSw; (try dsimp only at hSw); go_simp; try with_reducible rfl)
      simp only [Act.put, List.setIfInBounds_toArray, List.set_cons_zero, List.set_cons_succ]
      refine wpAnyH_take (i := 7) (v := ?_) rfl (by kernel_rfl) (by kernel_rfl) (by kernel_rfl) (fun c a w h => h) (Or.inl ⟨by rfl, ?_⟩) hHeld ?_
      rotate_left
      · (intro w hSw; (try dsimp only at hSw); go_simp; try with_reducible rfl)
      simp only [Act.put, List.setIfInBounds_toArray, List.set_cons_zero, List.set_cons_succ]
      refine wpAnyH_take (i := 8) (v := ?_) rfl (by kernel_rfl) (by kernel_rfl) (by kernel_rfl) (fun c a w h => h) (Or.inl ⟨by rfl, ?_⟩) hHeld ?_
      rotate_left
      · (intro w hSw; (try dsimp only at hSw); go_simp; try with_reducible rfl)
      simp only [Act.put, List.setIfInBounds_toArray, List.set_cons_zero, List.set_cons_succ]
      refine wpAnyH_take (i := 9) (v := ?_) rfl (by kernel_rfl) (by kernel_rfl) (by kernel_rfl) (fun c a w h => h) (Or.inl ⟨by rfl, ?_⟩) hHeld ?_
      rotate_left
      · (intro w hSw; (try dsimp only at hSw); go_simp; try with_reducible rfl)
      simp only [Act.put, List.setIfInBounds_toArray, List.set_cons_zero, List.set_cons_succ]
      refine wpAnyH_take (i := 10) (v := ?_) rfl (by kernel_rfl) (by kernel_rfl) (by kernel_rfl) (fun c a w h => h) (Or.inl ⟨by rfl, ?_⟩) hHeld ?_
      rotate_left
      · (intro w hSw; (try dsimp only at hSw); go_simp; try with_reducible rfl)
      simp only [Act.put, List.setIfInBounds_toArray, List.set_cons_zero, List.set_cons_succ]
      refine wpAnyH_take (i := 11) (v := ?_) rfl (by kernel_rfl) (by kernel_rfl) (by kernel_rfl) (fun c a w h => h) (Or.inl ⟨by rfl, ?_⟩) hHeld ?_
      rotate_left
      · (intro w hSw; (try dsimp only at hSw); go_simp; try with_reducible rfl)
      simp only [Act.put, List.setIfInBounds_toArray, List.set_cons_zero, List.set_cons_succ]
      refine wpAnyH_take (i := 12) (v := ?_) rfl (by kernel_rfl) (by kernel_rfl) (by kernel_rfl) (fun c a w h => h) (Or.inl ⟨by rfl, ?_⟩) hHeld ?_
      rotate_left
      · (intro w hSw; (try dsimp only at hSw); go_simp; try with_reducible rfl)
      simp only [Act.put, List.setIfInBounds_toArray, List.set_cons_zero, List.set_cons_succ]
      refine wpAnyH_take (i := 13) (v := ?_) rfl (by kernel_rfl) (by kernel_rfl) (by kernel_rfl) (fun c a w h => h) (Or.inl ⟨by rfl, ?_⟩) hHeld ?_
      rotate_left
      · (intro w hSw; (try dsimp only at hSw); go_simp; try with_reducible rfl)
      simp only [Act.put, List.setIfInBounds_toArray, List.set_cons_zero, List.set_cons_succ]
      refine wpAnyH_take (i := 14) (v := ?_) rfl (by kernel_rfl) (by kernel_rfl) (by kernel_rfl) (fun c a w h => h) (Or.inl ⟨by rfl, ?_⟩) hHeld ?_
      rotate_left
      · (intro w hSw; (try dsimp only at hSw); go_simp; try with_reducible rfl)
      simp only [Act.put, List.setIfInBounds_toArray, List.set_cons_zero, List.set_cons_succ]
      refine wpAnyH_take (i := 15) (v := ?_) rfl (by kernel_rfl) (by kernel_rfl) (by kernel_rfl) (fun c a w h => h) (Or.inl ⟨by rfl, ?_⟩) hHeld ?_
      rotate_left
      · (intro w hSw; (try dsimp only at hSw); go_simp; try with_reducible rfl)
      simp only [Act.put, List.setIfInBounds_toArray, List.set_cons_zero, List.set_cons_succ]
      refine wpAnyH_take (i := 16) (v := ?_) rfl (by kernel_rfl) (by kernel_rfl) (by kernel_rfl) (fun c a w h => h) (Or.inl ⟨by rfl, ?_⟩) hHeld ?_
      rotate_left
      · (intro w hSw; (try dsimp only at hSw); go_simp; try with_reducible rfl)
      simp only [Act.put, List.setIfInBounds_toArray, List.set_cons_zero, List.set_cons_succ]
      refine wpAnyH_take (i := 17) (v := ?_) rfl (by kernel_rfl) (by kernel_rfl) (by kernel_rfl) (fun c a w h => h) (Or.inl ⟨by rfl, ?_⟩) hHeld ?_
      rotate_left
      · (intro w hSw; (try dsimp only at hSw); go_simp; try with_reducible rfl)
      simp only [Act.put, List.setIfInBounds_toArray, List.set_cons_zero, List.set_cons_succ]
      refine wpAnyH_take (i := 18) (v := ?_) rfl (by kernel_rfl) (by kernel_rfl) (by kernel_rfl) (fun c a w h => h) (Or.inl ⟨by rfl, ?_⟩) hHeld ?_
      rotate_left
      · (intro w hSw; (try dsimp only at hSw); go_simp; try with_reducible rfl)
      simp only [Act.put, List.setIfInBounds_toArray, List.set_cons_zero, List.set_cons_succ]
      refine wpAnyH_take (i := 19) (v := ?_) rfl (by kernel_rfl) (by kernel_rfl) (by kernel_rfl) (fun c a w h => h) (Or.inl ⟨by rfl, ?_⟩) hHeld ?_
      rotate_left
      · (intro w hSw; (try dsimp only at hSw); go_simp; try with_reducible rfl)
      simp only [Act.put, List.setIfInBounds_toArray, List.set_cons_zero, List.set_cons_succ]
      refine wpAnyH_take (i := 20) (v := ?_) rfl (by kernel_rfl) (by kernel_rfl) (by kernel_rfl) (fun c a w h => h) (Or.inl ⟨by rfl, ?_⟩) hHeld ?_
      rotate_left
      · (intro w hSw; (try dsimp only at hSw); go_simp; try with_reducible rfl)
      simp only [Act.put, List.setIfInBounds_toArray, List.set_cons_zero, List.set_cons_succ]
      refine wpAnyH_take (i := 21) (v := ?_) rfl (by kernel_rfl) (by kernel_rfl) (by kernel_rfl) (fun c a w h => h) (Or.inl ⟨by rfl, ?_⟩) hHeld ?_
      rotate_left
      · (intro w hSw; (try dsimp only at hSw); go_simp; try with_reducible rfl)
      simp only [Act.put, List.setIfInBounds_toArray, List.set_cons_zero, List.set_cons_succ]
      refine wpAnyH_take (i := 22) (v := ?_) rfl (by kernel_rfl) (by kernel_rfl) (by kernel_rfl) (fun c a w h => h) (Or.inl ⟨by rfl, ?_⟩) hHeld ?_
      rotate_left
      · (intro w hSw; (try dsimp only at hSw); go_simp; try with_reducible rfl)
      simp only [Act.put, List.setIfInBounds_toArray, List.set_cons_zero, List.set_cons_succ]
      refine wpAnyH_take (i := 23) (v := ?_) rfl (by kernel_rfl) (by kernel_rfl) (by kernel_rfl) (fun c a w h => h) (Or.inl ⟨by rfl, ?_⟩) hHeld ?_
      rotate_left
      · (intro w hSw; (try dsimp only at hSw); go_simp; try with_reducible rfl)
      simp only [Act.put, List.setIfInBounds_toArray, List.set_cons_zero, List.set_cons_succ]
      refine wpAnyH_take (i := 24) (v := ?_) rfl (by kernel_rfl) (by kernel_rfl) (by kernel_rfl) (fun c a w h => h) (Or.inl ⟨by rfl, ?_⟩) hHeld ?_
      rotate_left
      · (intro w hSw; (try dsimp only at hSw); go_simp; try with_reducible rfl)
      simp only [Act.put, List.setIfInBounds_toArray, List.set_cons_zero, List.set_cons_succ]
      refine wpAnyH_take (i := 25) (v := ?_) rfl (by kernel_rfl) (by kernel_rfl) (by kernel_rfl) (fun c a w h => h) (Or.inl ⟨by rfl, ?_⟩) hHeld ?_
      rotate_left
      · (intro w hSw; (try dsimp only at hSw); go_simp; try with_reducible rfl)
      simp only [Act.put, List.setIfInBounds_toArray, List.set_cons_zero, List.set_cons_succ]
      refine wpAnyH_take (i := 26) (v := ?_) rfl (by kernel_rfl) (by kernel_rfl) (by kernel_rfl) (fun c a w h => h) (Or.inl ⟨by rfl, ?_⟩) hHeld ?_
      rotate_left
      · (intro w hSw; (try dsimp only at hSw); go_simp; try with_reducible rfl)
      simp only [Act.put, List.setIfInBounds_toArray, List.set_cons_zero, List.set_cons_succ]
      refine wpAnyH_take (i := 27) (v := ?_) rfl (by kernel_rfl) (by kernel_rfl) (by kernel_rfl) (fun c a w h => h) (Or.inl ⟨by rfl, ?_⟩) hHeld ?_
      rotate_left
      · (intro w hSw; (try dsimp only at hSw); go_simp; try with_reducible rfl)
      simp only [Act.put, List.setIfInBounds_toArray, List.set_cons_zero, List.set_cons_succ]
      refine wpAnyH_take (i := 28) (v := ?_) rfl (by kernel_rfl) (by kernel_rfl) (by kernel_rfl) (fun c a w h => h) (Or.inl ⟨by rfl, ?_⟩) hHeld ?_
      rotate_left
      · (intro w hSw; (try dsimp only at hSw); go_simp; try with_reducible rfl)
      simp only [Act.put, List.setIfInBounds_toArray, List.set_cons_zero, List.set_cons_succ]
      refine wpAnyH_take (i := 29) (v := ?_) rfl (by kernel_rfl) (by kernel_rfl) (by kernel_rfl) (fun c a w h => h) (Or.inl ⟨by rfl, ?_⟩) hHeld ?_
      rotate_left
      · (intro w hSw; (try dsimp only at hSw); go_simp; try with_reducible rfl)
      simp only [Act.put, List.setIfInBounds_toArray, List.set_cons_zero, List.set_cons_succ]
      refine wpAnyH_take (i := 30) (v := ?_) rfl (by kernel_rfl) (by kernel_rfl) (by kernel_rfl) (fun c a w h => h) (Or.inl ⟨by rfl, ?_⟩) hHeld ?_
      rotate_left
      · (intro w hSw; (try dsimp only at hSw); go_simp; try with_reducible rfl)
      simp only [Act.put, List.setIfInBounds_toArray, List.set_cons_zero, List.set_cons_succ]
      refine wpAnyH_take (i := 31) (v := ?_) rfl (by kernel_rfl) (by kernel_rfl) (by kernel_rfl) (fun c a w h => h) (Or.inl ⟨by rfl, ?_⟩) hHeld ?_
      rotate_left
      · (intro w hSw; (try dsimp only at hSw); go_simp; try with_reducible rfl)
      simp only [Act.put, List.setIfInBounds_toArray, List.set_cons_zero, List.set_cons_succ]
      refine wpAnyH_take (i := 32) (v := ?_) rfl (by kernel_rfl) (by kernel_rfl) (by kernel_rfl) (fun c a w h => h) (Or.inl ⟨by rfl, ?_⟩) hHeld ?_
      rotate_left
      · (intro w hSw; (try dsimp only at hSw); go_simp; try with_reducible rfl)
      simp only [Act.put, List.setIfInBounds_toArray, List.set_cons_zero, List.set_cons_succ]
      refine wpAnyH_take (i := 33) (v := ?_) rfl (by kernel_rfl) (by kernel_rfl) (by kernel_rfl) (fun c a w h => h) (Or.inl ⟨by rfl, ?_⟩) hHeld ?_
      rotate_left
      · (intro w hSw; (try dsimp only at hSw); go_simp; try with_reducible rfl)
      simp only [Act.put, List.setIfInBounds_toArray, List.set_cons_zero, List.set_cons_succ]
      refine wpAnyH_take (i := 34) (v := ?_) rfl (by kernel_rfl) (by kernel_rfl) (by kernel_rfl) (fun c a w h => h) (Or.inl ⟨by rfl, ?_⟩) hHeld ?_
      rotate_left
      · (intro w hSw; (try dsimp only at hSw); go_simp; try with_reducible rfl)
      simp only [Act.put, List.setIfInBounds_toArray, List.set_cons_zero, List.set_cons_succ]
      refine wpAnyH_take (i := 35) (v := ?_) rfl (by kernel_rfl) (by kernel_rfl) (by kernel_rfl) (fun c a w h => h) (Or.inl ⟨by rfl, ?_⟩) hHeld ?_
      rotate_left
      · (intro w hSw; (try dsimp only at hSw); go_simp; try with_reducible rfl)
      simp only [Act.put, List.setIfInBounds_toArray, List.set_cons_zero, List.set_cons_succ]
      refine wpAnyH_ready (rs := [4]) (by kernel_rfl) (by simp) ?_
      refine AllReadyH.cons rfl (fun K hK => ?_) AllReadyH.nil
      go_simp
      refine hK.out _ _ s1 (fun hHeld => ?_)
      clear hK K
      refine wpAnyH_ready (rs := [5]) (by kernel_rfl) (by simp) ?_
      refine AllReadyH.cons rfl (fun K hK => ?_) AllReadyH.nil
      go_simp
      refine hsm8.mono ?_
      rintro e w9 ⟨rfl, rfl⟩
      refine hK.out _ _ s1 (fun hHeld => ?_)
      clear hK K
      refine wpAnyH_take (i := 36) (v := ?_) rfl (by kernel_rfl) (by kernel_rfl) (by kernel_rfl) (fun c a w h => h) (Or.inl ⟨by rfl, ?_⟩) hHeld ?_
      rotate_left
      · (intro w hSw; (try dsimp only at hSw); go_simp; try with_reducible rfl)
      simp only [Act.put, List.setIfInBounds_toArray, List.set_cons_zero, List.set_cons_succ]
      refine wpAnyH_ready (rs := [37]) (by kernel_rfl) (by simp) ?_
      refine AllReadyH.cons rfl (fun K hK => ?_) AllReadyH.nil
      go_simp
      refine hK.out _ _ s1 (fun hHeld => ?_)
      clear hK K
      refine wpAnyH_done (by kernel_rfl) ?_ _
      rw [← hW8]
      clear hHeld s0 s1 hsm8 hW8 x1 x2 x3 x4 g1 g2 g3 hS1 hS2 hS3 u0 u1 u2 u3 o1 o2 o3 p1 p2 p3 hβ s4
      have hk8 := known_any W8 (HT.out.below HB8.out HT.out.pos)
      cases β
      all_goals
        simp only [Bool.not_true, Bool.not_false] at e71
        go_wp2_with (first | (go_at_call 11; refine (nm _ _).mono ?_; rintro e w9 ⟨rfl, hw9⟩; obtain rfl := hw9.symm) | (go_at_call 13; refine hk8.mono ?_; rintro e wB ⟨rfl, hbB⟩))
        go_ret
        exact ⟨rfl, HB8.out.trans (hbB.mono HB8.out.size)⟩
end Go.Proofs.YtmlpijjjkpnioaaDoor.C
