import Derived.Test.YtlljelfplffglaaHRRd
import Derived.Test.YtlljelfplffglaaHApart
/-! ShotArts: the walk. -/
namespace Go.Proofs.Ytlljelfplffglaa.H
open Go.RowKit
open Go.Proofs
open Go.Proofs.Ytlljelfplffglaa.K
set_option linter.unusedVariables false
set_option linter.unusedSimpArgs false
set_option maxHeartbeats 4000000
set_option maxRecDepth 100000
def okb (a : ByteArray) : Bool := decide (a.size = 6192) && decide (art (rd a.data.toList) = a.data.toList)
def rdE (a : ByteArray) : Int := if okb a then 0 else 2
def rdL (a : ByteArray) : List UInt8 := if okb a then rd a.data.toList else []
theorem okb_is (a : ByteArray) : okb a = true ↔ okA a := by unfold okb okA; rw [Bool.and_eq_true, decide_eq_true_iff, decide_eq_true_iff]
def artE (s : List UInt8) : List UInt8 := if s.length = 3072 then art s else []
def scE (s : List UInt8) : Int := if s.length = 3072 then 0 else 2
theorem read_is (a : ByteArray) (w : World) : Calls Try.prog 19 #[.string a] w fun e w' => ∃ p c, e = .returned (.tuple #[.slice p (rdL a).length c, .int .i64 (rdE a)]) ∧ Row w' w.heap.size (.slice p (rdL a).length c) (rdL a) ∧ Below w.heap.size w w' := by
  refine (read_any a w).mono ?_
  rintro e w' ⟨⟨u, h⟩, hb⟩
  rcases h with ⟨h1, rfl, h2⟩ | ⟨h1, rfl⟩
  · have e1 : okb a = true := (okb_is a).2 h1
    obtain ⟨p, c, rfl⟩ := own_val h2
    rw [show rdL a = rd a.data.toList by rw [rdL, if_pos e1], show rdE a = 0 by rw [rdE, if_pos e1]]
    exact ⟨p, c, rfl, h2, hb⟩
  · have e1 : okb a = false := Bool.eq_false_iff.2 (mt (okb_is a).1 h1)
    rw [show rdL a = [] by rw [rdL, e1]; rfl, show rdE a = 2 by rw [rdE, e1]; rfl]
    exact ⟨none, 0, rfl, row_nil _ _, hb⟩
theorem rread_is (a : ByteArray) (w : World) : Calls Try.prog 20 #[.string a] w fun e w' => ∃ p c, e = .returned (.tuple #[.slice p (rdL a).length c, .int .i64 (rdE a)]) ∧ Row w' w.heap.size (.slice p (rdL a).length c) (rdL a) ∧ Below w.heap.size w w' := by
  refine (rread_any a w).mono ?_
  rintro e w' ⟨⟨u, h⟩, hb⟩
  rcases h with ⟨h1, rfl, h2⟩ | ⟨h1, rfl⟩
  · have e1 : okb a = true := (okb_is a).2 h1
    obtain ⟨p, c, rfl⟩ := own_val h2
    rw [show rdL a = rd a.data.toList by rw [rdL, if_pos e1], show rdE a = 0 by rw [rdE, if_pos e1]]
    exact ⟨p, c, rfl, h2, hb⟩
  · have e1 : okb a = false := Bool.eq_false_iff.2 (mt (okb_is a).1 h1)
    rw [show rdL a = [] by rw [rdL, e1]; rfl, show rdE a = 2 by rw [rdE, e1]; rfl]
    exact ⟨none, 0, rfl, row_nil _ _, hb⟩
theorem rdL_art (s : List UInt8) : rdL ⟨(artE s).toArray⟩ = if s.length = 3072 then s else [] := by
  unfold artE
  by_cases h : s.length = 3072
  · rw [if_pos h, if_pos h]
    have e : (⟨(art s).toArray⟩ : ByteArray).data.toList = art s := List.toList_toArray
    have : okb ⟨(art s).toArray⟩ = true := (okb_is _).2 ⟨by rw [size_list, art_len], by rw [e, rd_art s h]⟩
    rw [rdL, if_pos this, e, rd_art s h]
  · rw [if_neg h, if_neg h]
    have : ¬ okb ⟨([] : List UInt8).toArray⟩ = true := fun k => by
      have := ((okb_is _).1 k).1
      rw [size_list] at this
      simp at this
    rw [rdL, if_neg this]
/-- The argument's bytes, behind whatever was made. -/
structure AR (W : World) (v : Value) (s : List UInt8) (w : World) : Prop where
  bel : Below W.heap.size W w
  arg : Sl w v s
theorem AR.next {W : World} {v : Value} {s : List UInt8} {w w' : World} (h : AR W v s w) (b : Below w.heap.size w w') : AR W v s w' := ⟨h.bel.trans (b.mono h.bel.size), h.arg.below b⟩
theorem rdL_len (a : ByteArray) : (rdL a).length ≤ 3072 := by
  unfold rdL; split
  · rw [rd_len]; exact Nat.le_refl _
  · simp
theorem artE_len (s : List UInt8) : (artE s).length ≤ 6192 := by
  unfold artE; split
  · rw [art_len]; exact Nat.le_refl _
  · simp
/-- All as it was but for one block. -/
structure Bt (g : Nat) (A B : World) : Prop where
  os : B.os = A.os
  tape : B.tape = A.tape
  output : B.output = A.output
  size : A.heap.size ≤ B.heap.size
  block : ∀ k, k < A.heap.size → k ≠ g → B.heap[k]? = A.heap[k]?
theorem Bt.refl (g : Nat) (A : World) : Bt g A A := ⟨rfl, rfl, rfl, Nat.le_refl _, fun _ _ _ => rfl⟩
theorem Bt.set {g : Nat} {A B : World} (h : Bt g A B) (j : Nat) (v : Value) : Bt g A (B.setCell ⟨g, j, none⟩ v) :=
  ⟨h.os, h.tape, h.output, by simpa using h.size, fun k hk hn => (heap_setCell_other B ⟨g, j, none⟩ k v hn).trans (h.block k hk hn)⟩
theorem Bt.row {g : Nat} {A B : World} (h : Bt g A B) {N : Nat} {v : Value} {l : List UInt8} (hr : Row A N v l) (hg : g < N) : Row B N v l :=
  hr.kept fun k e hk => h.block k hk (by have := (hr.lt k e).1; omega)
theorem Bt.below {g : Nat} {A B : World} (h : Bt g A B) {N : Nat} {W : World} (hb : Below N W A) (hg : N ≤ g) (hs : N ≤ W.heap.size) : Below N W B :=
  hb.trans ⟨h.os, h.tape, h.output, h.size, fun k hk => h.block k (by have := hb.size; omega) (by omega)⟩
theorem u8_any (z : Int) : ∃ b : UInt8, IntKind.u8.wrap z = (b.toNat : Int) := by
  have h : 0 ≤ z % 256 ∧ z % 256 < 256 := by omega
  refine ⟨UInt8.ofNat (z % 256).toNat, ?_⟩
  rw [UInt8.toNat_ofNat_of_lt' (by show _ < 256; omega)]
  simp [IntKind.wrap, IntKind.bits, IntKind.signed]
  omega
/-- Three lists, for Apart. -/
def three {α : Type} (a b c : α) : Nat → α := fun i => if i = 0 then a else if i = 1 then b else c
theorem p1_three {B N1 N2 N3 : Nat} {W : World} {v1 v2 v3 : Value} {l1 l2 l3 : List UInt8} (h1 : Row W N1 v1 l1) (h2 : Row W N2 v2 l2) (h3 : Row W N3 v3 l3)
    (k1 : ∀ g, v1.ownBlock = some g → g < N2) (k2 : ∀ g, v2.ownBlock = some g → g < N3) (b1 : B ≤ N1) (b2 : N1 ≤ N2) (b3 : N2 ≤ N3) (hB : B ≤ W.heap.size) :
    P1 B W.heap.size 3 (three v1 v2 v3) (three l1.length l2.length l3.length) (W.alloc (.cells #[v1, v2, v3] 22)) (W.alloc (.cells #[v1, v2, v3] 22)) (three l1 l2 l3) := by
  have hb : Below W.heap.size W (W.alloc (.cells #[v1, v2, v3] 22)) := (Below.refl _ _).alloc (Nat.le_refl _) _
  have hn := heap_alloc_new W (.cells #[v1, v2, v3] 22)
  refine ⟨Below.refl _ _, Nat.le_trans hB hb.size, fun i hi => ?_, ⟨_, hn⟩, fun i hi => ?_, fun i hi => ?_, fun i j hi hj hij x hx hy => ?_⟩
  · have : i = 0 ∨ i = 1 ∨ i = 2 := by omega
    rcases this with rfl | rfl | rfl <;> (rw [cell_of_any _ _ _ _ _ _ hn]; rfl)
  · have : i = 0 ∨ i = 1 ∨ i = 2 := by omega
    rcases this with rfl | rfl | rfl
    · exact (h1.below hb).mono b1
    · exact (h2.below hb).mono (by omega)
    · exact (h3.below hb).mono (by omega)
  · have : i = 0 ∨ i = 1 ∨ i = 2 := by omega
    rcases this with rfl | rfl | rfl <;> rfl
  · have ei : i = 0 ∨ i = 1 ∨ i = 2 := by omega
    have ej : j = 0 ∨ j = 1 ∨ j = 2 := by omega
    have e2 : ∀ g, v2.ownBlock = some g → N2 ≤ g := fun g e => (h2.lt g e).1
    have e3 : ∀ g, v3.ownBlock = some g → N3 ≤ g := fun g e => (h3.lt g e).1
    rcases ei with rfl | rfl | rfl <;> rcases ej with rfl | rfl | rfl
    · exact hij rfl
    · have a1 := k1 x hx; have a2 := e2 x hy; omega
    · have a1 := k1 x hx; have a2 := e3 x hy; omega
    · have a1 := k1 x hy; have a2 := e2 x hx; omega
    · exact hij rfl
    · have a1 := k2 x hx; have a2 := e3 x hy; omega
    · have a1 := k1 x hy; have a2 := e3 x hx; omega
    · have a1 := k2 x hy; have a2 := e3 x hx; omega
    · exact hij rfl
theorem own_lt2 {W : World} {B : Nat} {v : Value} {l : List UInt8} (h : Row W B v l) (N : Nat) (hN : W.heap.size ≤ N) : ∀ g, v.ownBlock = some g → g < N := fun g e => Nat.lt_of_lt_of_le (h.lt g e).2 hN
theorem emp_list (l : List UInt8) : (⟨l.toArray⟩ : ByteArray).toList.isEmpty = l.isEmpty := by rw [ByteArray.toList_eq]
theorem arts_walk (v : Value) (s : List UInt8) (a : ByteArray) (hl : s.length + 3 ≤ room) (W : World) (h : Sl W v s) :
    Calls Try.prog 5 #[v, .string a] W fun r w' => r = .returned (.bool true) ∧ Below W.heap.size W w' := by
  obtain ⟨p, c, rfl, _⟩ := h.ex
  have hA : AR W (.slice p s.length c) s W := ⟨Below.refl _ _, h⟩
  have HA := hid hA
  clear hA h
  go_enter Try.func5, Try.ntmps5
  go_wp2_with fail
  refine (fixed_any W).mono ?_
  rintro e w1 ⟨rfl, hb1⟩
  have HA1 := hid (HA.out.next hb1)
  have HS1 := hid hb1.size
  have HG0 := hid HA.out.arg
  clear hb1 HA
  go_wp2_with fail
  refine (roomy_any _ s hl w1 HA1.out.arg).mono ?_
  rintro e w2 ⟨u, rfl, hR, hb2⟩
  have HA2 := hid (HA1.out.next hb2)
  obtain ⟨g, cap, rfl, hR0⟩ := id hR
  have hg := hR0.lt g rfl
  have hcap : s.length + 3 ≤ cap := by
    rcases hR0.2 with ⟨h, _⟩ | ⟨_, _, _, h, _, _, h2, _⟩
    · cases h
    · simp only [Value.slice.injEq] at h; rw [h.2.2]; simpa [mks] using h2
  have HR2 := hid hR
  have HG2 := hid hg
  clear hb2 HA1 hR hR0 hg
  go_wp2_with fail
  refine (art_any _ s w2 HR2.out.sl).mono ?_
  rintro e w3 ⟨rfl, hb3⟩
  have HA3 := hid (HA2.out.next hb3)
  have HR3 := hid (HR2.out.below hb3)
  have HG3 := hid (show g < w3.heap.size from Nat.lt_of_lt_of_le HG2.out.2 hb3.size)
  have hae : (if s.length = 3072 then art s else []) = artE s := rfl
  have hse : (if s.length = 3072 then (0 : Int) else 2) = scE s := rfl
  rw [hae, hse]
  clear hb3 HA2 HR2 hae hse
  go_wp2_with fail
  refine (rart_any _ s w3 HA3.out.arg).mono ?_
  rintro e w4 ⟨rfl, hb4⟩
  have HA4 := hid (HA3.out.next hb4)
  have HR4 := hid (HR3.out.below hb4)
  have HG4 := hid (show g < w4.heap.size from Nat.lt_of_lt_of_le HG3.out hb4.size)
  have hae : (if s.length = 3072 then art s else []) = artE s := rfl
  have hse : (if s.length = 3072 then (0 : Int) else 2) = scE s := rfl
  rw [hae, hse]
  clear hb4 HA3 HR3 HG3 hae hse
  obtain ⟨SA, hSA⟩ : ∃ SA : ByteArray, ⟨(artE s).toArray⟩ = SA := ⟨_, rfl⟩
  rw [hSA]
  go_wp2_with fail
  refine (read_is a w4).mono ?_
  rintro e w5 ⟨p1, c1, rfl, hr1, hb5⟩
  have HA5 := hid (HA4.out.next hb5)
  have HR5 := hid (HR4.out.below hb5)
  have HL1 := hid hr1
  have HX1 := hid (own_lt2 hr1 _ (Nat.le_refl _))
  have HS5 := hid hb5.size
  clear hb5 HA4 HR4 hr1
  go_wp2_with fail
  refine (rread_is a w5).mono ?_
  rintro e w6 ⟨p2, c2, rfl, hr2, hb6⟩
  have HA6 := hid (HA5.out.next hb6)
  have HR6 := hid (HR5.out.below hb6)
  have HL1 := hid (HL1.out.below hb6)
  have HL2 := hid hr2
  have HS6 := hid hb6.size
  clear hb6 HA5 HR5 hr2
  go_wp2_with fail
  refine (read_is a w6).mono ?_
  rintro e w7 ⟨p3, c3, rfl, hr3, hb7⟩
  have HA7 := hid (HA6.out.next hb7)
  have HR7 := hid (HR6.out.below hb7)
  have HL1 := hid (HL1.out.below hb7)
  have HL2 := hid (HL2.out.below hb7)
  have HL3 := hid hr3
  have HX3 := hid (own_lt2 hr3 _ (Nat.le_refl _))
  have HS7 := hid hb7.size
  clear hb7 HA6 HR6 hr3
  go_wp2_with fail
  refine (read_is SA w7).mono ?_
  rintro e w8 ⟨p4, c4, rfl, hr4, hb8⟩
  have HA8 := hid (HA7.out.next hb8)
  have HR8 := hid (HR7.out.below hb8)
  have HL1 := hid (HL1.out.below hb8)
  have HL2 := hid (HL2.out.below hb8)
  have HL3 := hid (HL3.out.below hb8)
  have HL4 := hid hr4
  have HS8 := hid hb8.size
  clear hb8 HA7 HR7 hr4
  go_wp2_with fail
  refine (whole_any _ _ _ s hl w8 HR8.out HA8.out.arg).mono ?_
  rintro e w9 ⟨rfl, hw9⟩
  obtain rfl := hw9.symm
  obtain ⟨gR, capR, heR, hRow⟩ := HR8.out
  simp only [Value.slice.injEq, Option.some.injEq, Addr.mk.injEq] at heR
  obtain ⟨⟨rfl, _⟩, _, rfl⟩ := heR
  have HW := hid hRow
  clear HR8 hRow
  unfold room at hl
  have hlr : ∀ l' : List UInt8, l'.length = s.length → (l' ++ mks).length = s.length + 3 := fun l' e => by simp [mks, e]
  have HLR := hid hlr
  clear hlr
  go_wp2
  go_loopw [18] (fun i wr => ∃ (k : Nat) (l' : List UInt8), k ≤ s.length ∧ i = .int .i64 (k : Int) ∧ l'.length = s.length ∧ Row wr w1.heap.size (.slice (some ⟨g, 0, none⟩) (s.length + 3) cap) (l' ++ mks) ∧ Bt g w8 wr) (fun i _ => s.length - (intOf i).toNat)
  case atStart => exact ⟨0, s, by omega, rfl, rfl, HW.out, Bt.refl _ _⟩
  case round =>
    clear HW
    obtain ⟨k, l', hk, rfl, hll, hr, hbt⟩ := hrel
    by_cases hlt : k < s.length
    · have i1 : (k : Int) < s.length := by omega
      have hlen := HLR.out l' hll
      have hce := row_cell hr k (by omega)
      have hfz := row_fz hr k
      generalize ((l' ++ mks)[k]'(by omega)).toNat = old at hce
      have u1 : IntKind.u8.wrap ((k : Int) % 3) = (k : Int) % 3 := by simp [IntKind.wrap, IntKind.bits, IntKind.signed]; omega
      obtain ⟨b, hbz⟩ := u8_any ((old : Int) + (k : Int) % 3)
      have hst := row_store hr k (by omega) b
      rw [List.set_append_left _ _ (by omega)] at hst
      have HS := hid (And.intro hst (And.intro (hbt.set k (.int .u8 (b.toNat : Int))) (show (l'.set k b).length = s.length by rw [List.length_set]; exact hll)))
      clear hst hbt hr hlen hll
      go_wp2
      go_roundw
      case rel => exact ⟨k + 1, l'.set k b, by omega, by go_num, HS.out.2.2, HS.out.1, HS.out.2.1⟩
      case measure => simp [intOf]; omega
    · obtain rfl : k = s.length := by omega
      have hg4 := HG4.out
      have hs5 := HS5.out
      have hs6 := HS6.out
      have hs7 := HS7.out
      have hs8 := HS8.out
      have hsl := Sl.take hr.sl s.length (by rw [HLR.out l' hll]; omega)
      rw [List.take_append_of_le_length (by omega), List.take_of_length_le (by omega)] at hsl
      have r1 := hbt.row HL1.out hg4
      have r2 := hbt.row HL2.out (by omega)
      have r3 := hbt.row HL3.out (by omega)
      have r4 := hbt.row HL4.out (by omega)
      have b0 := hbt.below HA8.out.bel (by have := HG2.out.1; have := HS1.out; omega) (Nat.le_refl _)
      have ha0 := HG0.out.below b0
      have hsb := hbt.size
      have HB := hid (And.intro b0 (And.intro r1 (And.intro r2 (And.intro r3 (And.intro r4 (And.intro ha0 hsb))))))
      have HSL := hid hsl
      have HN := hid (And.intro hg4 (And.intro hs5 (And.intro hs6 (And.intro hs7 (And.intro hs8 (And.intro HG2.out.1 HS1.out))))))
      clear hg4 hs5 hs6 hs7 hs8 r1 r2 r3 r4 b0 ha0 hsb hbt hr HL1 HL2 HL3 HL4 HA8 HG0 HG2 HG4 HS1 HS5 HS6 HS7 HS8 hsl
      go_wp2_with fail
      refine (art_any _ l' wr HSL.out).mono ?_
      rintro e w10 ⟨rfl, hb10⟩
      have hsl := HSL.out.below hb10
      have HK10 := hid hb10
      have HSL := hid hsl
      have hae : (if l'.length = 3072 then art l' else []) = artE l' := rfl
      have hse : (if l'.length = 3072 then (0 : Int) else 2) = scE l' := rfl
      rw [hae, hse]
      clear hsl hb10 hae hse
      go_wp2_with fail
      refine (rart_any _ l' w10 HSL.out).mono ?_
      rintro e w11 ⟨rfl, hb11⟩
      have hae : (if l'.length = 3072 then art l' else []) = artE l' := rfl
      have hse : (if l'.length = 3072 then (0 : Int) else 2) = scE l' := rfl
      rw [hae, hse]
      have hbb := HK10.out.trans (hb11.mono HK10.out.size)
      obtain ⟨b0, r1, r2, r3, r4, ha0, hsb⟩ := HB.out
      have b1 := b0.trans (hbb.mono b0.size)
      have r1 := r1.below hbb
      have r2 := r2.below hbb
      have r3 := r3.below hbb
      have r4 := r4.below hbb
      have ha1 := ha0.below hbb
      have v1 := r1.sl.conv (by have := rdL_len a; unfold maxLen; omega)
      have v2 := r2.sl.conv (by have := rdL_len a; unfold maxLen; omega)
      have v3 := r3.sl.conv (by have := rdL_len a; unfold maxLen; omega)
      have v4 := r4.sl.conv (by have := rdL_len SA; unfold maxLen; omega)
      have v5 := ha1.conv (by unfold maxLen; omega)
      have hsz := hbb.size
      obtain ⟨q0, q1, q2, q3, q4, q5, q6⟩ := HN.out
      have hP := p1_three (B := w4.heap.size) r1 r3 r4 (fun g' e => Nat.lt_of_lt_of_le (HX1.out g' e) (by omega)) (HX3.out) (Nat.le_refl _) (by omega) (by omega) (by omega)
      have hap := apart_any w4.heap.size w11.heap.size 3 (by omega) _ _ _ _ hP (fun i hi => by
        have := rdL_len a
        have := rdL_len SA
        unfold room three
        split
        · omega
        · split <;> omega)
      have hfin : Below W.heap.size W (w11.alloc (.cells #[.slice p1 (rdL a).length c1, .slice p3 (rdL a).length c3, .slice p4 (rdL SA).length c4] 22)) := b1.alloc b1.size _
      have hWB : W.heap.size ≤ w4.heap.size := by omega
      have HF := hid (And.intro hfin hWB)
      have HSA := hid hSA
      obtain ⟨S1, hS1⟩ : ∃ S1 : ByteArray, ⟨(artE l').toArray⟩ = S1 := ⟨_, rfl⟩
      rw [hS1]
      clear r1 r2 r3 r4 ha1 ha0 hsb b0 b1 hbb hb11 hae hse HB HK10 HSL HN hP hfin hWB hSA hS1 hsz q0 q1 q2 q3 q4 q5 q6
      by_cases h3 : s.length = 3072
      · have e4 : rdL SA = s := by rw [← HSA.out, rdL_art, if_pos h3]
        have e5 : SA.toList.isEmpty = false := by
          rw [← HSA.out, emp_list]
          have : (artE s).length = 6192 := by rw [artE, if_pos h3, art_len]
          cases h : artE s
          · rw [h] at this; simp at this
          · rfl
        have v6 : (convert 22 9 (.slice p4 (rdL SA).length c4)).run Try.prog w11 = .ok (.string ⟨s.toArray⟩) w11 := v4.trans (by rw [e4])
        clear e4 h3 v4
        go_wp2_with fail
        refine hap.mono ?_
        rintro r w12 ⟨rfl, hb12⟩
        have HE := hid (HF.out.1.trans (hb12.mono HF.out.2))
        clear hb12 hap
        go_wp2
        go_ret
        exact ⟨rfl, HE.out⟩
      · have e5 : SA.toList.isEmpty = true := by
          rw [← HSA.out, emp_list, artE, if_neg h3]; rfl
        clear h3
        go_wp2_with fail
        refine hap.mono ?_
        rintro r w12 ⟨rfl, hb12⟩
        have HE := hid (HF.out.1.trans (hb12.mono HF.out.2))
        clear hb12 hap
        go_wp2
        go_ret
        exact ⟨rfl, HE.out⟩
end Go.Proofs.Ytlljelfplffglaa.H
