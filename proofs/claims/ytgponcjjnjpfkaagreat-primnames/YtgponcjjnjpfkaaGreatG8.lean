import Derived.Test.YtgponcjjnjpfkaaGreatG7
/-! PrimNames, walked. -/
namespace Go.Proofs.YtgponcjjnjpfkaaGreat.L
open Go.RowKit
open Go.Proofs
open P
set_option linter.unusedVariables false
set_option linter.unusedSimpArgs false
set_option maxHeartbeats 4000000
set_option maxRecDepth 100000
theorem named_any (x : Nat) (h1 : 1 ≤ x) (h2 : x < 64) (w : World) : Calls Tryz.prog 10 #[.int .i64 (x : Int), .string (nm x)] w fun e w' => e = .returned (.bool true) ∧ Below w.heap.size w w' := by
  have ho := of_at x h1 h2 w
  unfold rowN rowV at ho
  generalize nm x = a1 at *
  generalize ri x = a2 at *
  generalize ro x = a3 at *
  generalize rc x = a4 at *
  generalize rb x = a5 at *
  generalize (x : Int) = a0 at *
  go_enter Tryz.func10, Tryz.ntmps10
  go_wp2_with fail
  refine ho.mono ?_
  rintro e w1 ⟨rfl, b1⟩
  go_wp2
  go_ret
  exact ⟨rfl, bb b1 (bel_alloc w1 _)⟩
theorem nmd_1 (w : World) : Calls Tryz.prog 10 #[.int .i64 1, .string ⟨#[]⟩] w fun e w' => e = .returned (.bool true) ∧ Below w.heap.size w w' := named_any 1 (by decide) (by decide) w
theorem nmd_7 (w : World) : Calls Tryz.prog 10 #[.int .i64 7, .string ⟨#[]⟩] w fun e w' => e = .returned (.bool true) ∧ Below w.heap.size w w' := named_any 7 (by decide) (by decide) w
theorem nmd_8 (w : World) : Calls Tryz.prog 10 #[.int .i64 8, .string ⟨#[]⟩] w fun e w' => e = .returned (.bool true) ∧ Below w.heap.size w w' := named_any 8 (by decide) (by decide) w
theorem nmd_9 (w : World) : Calls Tryz.prog 10 #[.int .i64 9, .string ⟨#[110, 111, 112]⟩] w fun e w' => e = .returned (.bool true) ∧ Below w.heap.size w w' := named_any 9 (by decide) (by decide) w
theorem nmd_10 (w : World) : Calls Tryz.prog 10 #[.int .i64 10, .string ⟨#[121, 105, 101, 108, 100]⟩] w fun e w' => e = .returned (.bool true) ∧ Below w.heap.size w w' := named_any 10 (by decide) (by decide) w
theorem nmd_11 (w : World) : Calls Tryz.prog 10 #[.int .i64 11, .string ⟨#[104, 97, 108, 116]⟩] w fun e w' => e = .returned (.bool true) ∧ Below w.heap.size w w' := named_any 11 (by decide) (by decide) w
theorem nmd_12 (w : World) : Calls Tryz.prog 10 #[.int .i64 12, .string ⟨#[100, 117, 112]⟩] w fun e w' => e = .returned (.bool true) ∧ Below w.heap.size w w' := named_any 12 (by decide) (by decide) w
theorem nmd_18 (w : World) : Calls Tryz.prog 10 #[.int .i64 18, .string ⟨#[116, 117, 99, 107]⟩] w fun e w' => e = .returned (.bool true) ∧ Below w.heap.size w w' := named_any 18 (by decide) (by decide) w
theorem nmd_20 (w : World) : Calls Tryz.prog 10 #[.int .i64 20, .string ⟨#[50, 100, 114, 111, 112]⟩] w fun e w' => e = .returned (.bool true) ∧ Below w.heap.size w w' := named_any 20 (by decide) (by decide) w
theorem nmd_21 (w : World) : Calls Tryz.prog 10 #[.int .i64 21, .string ⟨#[43]⟩] w fun e w' => e = .returned (.bool true) ∧ Below w.heap.size w w' := named_any 21 (by decide) (by decide) w
theorem nmd_27 (w : World) : Calls Tryz.prog 10 #[.int .i64 27, .string ⟨#[117, 109, 111, 100]⟩] w fun e w' => e = .returned (.bool true) ∧ Below w.heap.size w w' := named_any 27 (by decide) (by decide) w
theorem nmd_33 (w : World) : Calls Tryz.prog 10 #[.int .i64 33, .string ⟨#[49, 45]⟩] w fun e w' => e = .returned (.bool true) ∧ Below w.heap.size w w' := named_any 33 (by decide) (by decide) w
theorem nmd_39 (w : World) : Calls Tryz.prog 10 #[.int .i64 39, .string ⟨#[105, 110, 118, 101, 114, 116]⟩] w fun e w' => e = .returned (.bool true) ∧ Below w.heap.size w w' := named_any 39 (by decide) (by decide) w
theorem nmd_41 (w : World) : Calls Tryz.prog 10 #[.int .i64 41, .string ⟨#[114, 115, 104, 105, 102, 116]⟩] w fun e w' => e = .returned (.bool true) ∧ Below w.heap.size w w' := named_any 41 (by decide) (by decide) w
theorem nmd_47 (w : World) : Calls Tryz.prog 10 #[.int .i64 47, .string ⟨#[117, 62]⟩] w fun e w' => e = .returned (.bool true) ∧ Below w.heap.size w w' := named_any 47 (by decide) (by decide) w
theorem nmd_49 (w : World) : Calls Tryz.prog 10 #[.int .i64 49, .string ⟨#[48, 60]⟩] w fun e w' => e = .returned (.bool true) ∧ Below w.heap.size w w' := named_any 49 (by decide) (by decide) w
theorem nmd_50 (w : World) : Calls Tryz.prog 10 #[.int .i64 50, .string ⟨#[64]⟩] w fun e w' => e = .returned (.bool true) ∧ Below w.heap.size w w' := named_any 50 (by decide) (by decide) w
theorem nmd_54 (w : World) : Calls Tryz.prog 10 #[.int .i64 54, .string ⟨#[43, 33]⟩] w fun e w' => e = .returned (.bool true) ∧ Below w.heap.size w w' := named_any 54 (by decide) (by decide) w
theorem nmd_55 (w : World) : Calls Tryz.prog 10 #[.int .i64 55, .string ⟨#[62, 114]⟩] w fun e w' => e = .returned (.bool true) ∧ Below w.heap.size w w' := named_any 55 (by decide) (by decide) w
theorem nmd_59 (w : World) : Calls Tryz.prog 10 #[.int .i64 59, .string ⟨#[106]⟩] w fun e w' => e = .returned (.bool true) ∧ Below w.heap.size w w' := named_any 59 (by decide) (by decide) w
theorem nmd_60 (w : World) : Calls Tryz.prog 10 #[.int .i64 60, .string ⟨#[112, 108, 111, 116]⟩] w fun e w' => e = .returned (.bool true) ∧ Below w.heap.size w w' := named_any 60 (by decide) (by decide) w
theorem nmd_63 (w : World) : Calls Tryz.prog 10 #[.int .i64 63, .string ⟨#[98, 97, 110, 107]⟩] w fun e w' => e = .returned (.bool true) ∧ Below w.heap.size w w' := named_any 63 (by decide) (by decide) w
theorem names_walk (w : World) : Calls Tryz.prog 3 #[] w fun e w' => e = .returned (.bool true) ∧ Below w.heap.size w w' := by
  go_enter Tryz.func3, Tryz.ntmps3
  go_wp2_with fail
  refine (fixed_any _).mono ?_
  rintro e w0 ⟨rfl, b0⟩
  have H0 := S.hid b0
  clear b0
  go_wp2_with fail
  refine (nmd_1 _).mono ?_
  rintro e w1 ⟨rfl, b1⟩
  have H1 := S.hid (bb H0.out b1)
  clear b1 H0
  go_wp2_with fail
  refine (nmd_7 _).mono ?_
  rintro e w2 ⟨rfl, b2⟩
  have H2 := S.hid (bb H1.out b2)
  clear b2 H1
  go_wp2_with fail
  refine (nmd_8 _).mono ?_
  rintro e w3 ⟨rfl, b3⟩
  have H3 := S.hid (bb H2.out b3)
  clear b3 H2
  go_wp2_with fail
  refine (nmd_9 _).mono ?_
  rintro e w4 ⟨rfl, b4⟩
  have H4 := S.hid (bb H3.out b4)
  clear b4 H3
  go_wp2_with fail
  refine (nmd_10 _).mono ?_
  rintro e w5 ⟨rfl, b5⟩
  have H5 := S.hid (bb H4.out b5)
  clear b5 H4
  go_wp2_with fail
  refine (nmd_11 _).mono ?_
  rintro e w6 ⟨rfl, b6⟩
  have H6 := S.hid (bb H5.out b6)
  clear b6 H5
  go_wp2_with fail
  refine (nmd_12 _).mono ?_
  rintro e w7 ⟨rfl, b7⟩
  have H7 := S.hid (bb H6.out b7)
  clear b7 H6
  go_wp2_with fail
  refine (nmd_18 _).mono ?_
  rintro e w8 ⟨rfl, b8⟩
  have H8 := S.hid (bb H7.out b8)
  clear b8 H7
  go_wp2_with fail
  refine (nmd_20 _).mono ?_
  rintro e w9 ⟨rfl, b9⟩
  have H9 := S.hid (bb H8.out b9)
  clear b9 H8
  go_wp2_with fail
  refine (nmd_21 _).mono ?_
  rintro e w10 ⟨rfl, b10⟩
  have H10 := S.hid (bb H9.out b10)
  clear b10 H9
  go_wp2_with fail
  refine (nmd_27 _).mono ?_
  rintro e w11 ⟨rfl, b11⟩
  have H11 := S.hid (bb H10.out b11)
  clear b11 H10
  go_wp2_with fail
  refine (nmd_33 _).mono ?_
  rintro e w12 ⟨rfl, b12⟩
  have H12 := S.hid (bb H11.out b12)
  clear b12 H11
  go_wp2_with fail
  refine (nmd_39 _).mono ?_
  rintro e w13 ⟨rfl, b13⟩
  have H13 := S.hid (bb H12.out b13)
  clear b13 H12
  go_wp2_with fail
  refine (nmd_41 _).mono ?_
  rintro e w14 ⟨rfl, b14⟩
  have H14 := S.hid (bb H13.out b14)
  clear b14 H13
  go_wp2_with fail
  refine (nmd_47 _).mono ?_
  rintro e w15 ⟨rfl, b15⟩
  have H15 := S.hid (bb H14.out b15)
  clear b15 H14
  go_wp2_with fail
  refine (nmd_49 _).mono ?_
  rintro e w16 ⟨rfl, b16⟩
  have H16 := S.hid (bb H15.out b16)
  clear b16 H15
  go_wp2_with fail
  refine (nmd_50 _).mono ?_
  rintro e w17 ⟨rfl, b17⟩
  have H17 := S.hid (bb H16.out b17)
  clear b17 H16
  go_wp2_with fail
  refine (nmd_54 _).mono ?_
  rintro e w18 ⟨rfl, b18⟩
  have H18 := S.hid (bb H17.out b18)
  clear b18 H17
  go_wp2_with fail
  refine (nmd_55 _).mono ?_
  rintro e w19 ⟨rfl, b19⟩
  have H19 := S.hid (bb H18.out b19)
  clear b19 H18
  go_wp2_with fail
  refine (nmd_59 _).mono ?_
  rintro e w20 ⟨rfl, b20⟩
  have H20 := S.hid (bb H19.out b20)
  clear b20 H19
  go_wp2_with fail
  refine (nmd_60 _).mono ?_
  rintro e w21 ⟨rfl, b21⟩
  have H21 := S.hid (bb H20.out b21)
  clear b21 H20
  go_wp2_with fail
  refine (nmd_63 _).mono ?_
  rintro e w22 ⟨rfl, b22⟩
  have H22 := S.hid (bb H21.out b22)
  clear b22 H21
  obtain ⟨v1, hv1⟩ : ∃ v1, w22.alloc (.cells #[.int .u16 10, .int .u16 0] 26) = v1 := ⟨_, rfl⟩
  have bv1 : Below w22.heap.size w22 v1 := by rw [← hv1]; exact bel_alloc w22 _
  have sv1 : S.Sl S.eU 1 v1 (some ⟨w22.heap.size, 0, none⟩) [10, 0] := by rw [← hv1]; exact sl_block S.hU _ _ 26 _ (heap_alloc_new w22 _)
  have hbo : Calls Tryz.prog 11 #[.slice (some ⟨w22.heap.size, 0, none⟩) 2 2, .slice none 0 0] v1 fun e w' => BornR v1 w' e [10, 0] [] := born_any (some ⟨w22.heap.size, 0, none⟩) none 2 0 [10, 0] [] (by decide) (by decide) (by intro e; cases e) (fun _ => rfl) (by decide) (by decide) v1 sv1 (fun i a h => by simp at h)
  have HV := S.hid (bb H22.out bv1)
  clear bv1 sv1 H22
  go_wp2_with fail
  refine hbo.mono ?_
  rintro e v2 ⟨g, bd, br, bm, bx, bq', bz, F, G, ev, qv, rfl, hW, b5⟩
  have hE := hW.e
  have HX := S.hid (bb HV.out b5)
  have HS := S.hid HV.out.size
  have LSZ := S.hid b5.size
  clear hW b5 hbo HV hv1
  have hdo := do_w 6 rfl v1.heap.size g bd br bm [10, 0] [] mB (allC rfl) (by decide) v2.drew hE.drew LSZ.out
  rw [show fl 6 [10, 0] [] = 0 from rfl, show xD 6 [10, 0] [] mB = [] from rfl, show xR 6 [10, 0] [] = [(2, 10), (3, 0)] from rfl, show xM 6 [10, 0] [] mB = mB from rfl] at hdo
  have s0 := hE.drew.cells
  clear hE
  go_wp2_with fail
  go_region_held (fun w' => w'.cell? ⟨g, 0, none⟩ = some (.pointer (some ⟨bd, 0, none⟩)) ∧ w'.cell? ⟨g, 1, none⟩ = some (.pointer (some ⟨br, 0, none⟩)) ∧ w'.cell? ⟨g, 2, none⟩ = some (.pointer (some ⟨bm, 0, none⟩)))
    (first | (with_reducible exact s0) | (with_reducible exact s1))
    (first | (go_at_call 12; refine hdo.mono ?_; rintro e v3 ⟨rfl, hE, b6⟩; have s1 := hE.cells))
  have LSZ' : Hid (v1.heap.size ≤ v3.heap.size) := Nat.le_trans LSZ.out b6.size
  have HX := S.hid (HX.out.trans (Below.mono (⟨b6.os, b6.tape, b6.output, b6.size, b6.block⟩ : Below v1.heap.size v2 v3) HS.out))
  clear hdo s0 s1 b6 LSZ
  have LSZ := LSZ'
  clear LSZ'
  have hdo := do_w 58 rfl v1.heap.size g bd br bm [] [(2, 10), (3, 0)] mB (allC rfl) (by decide) v3.drew hE.drew LSZ.out
  rw [show fl 58 [] [(2, 10), (3, 0)] = 0 from rfl, show xD 58 [] [(2, 10), (3, 0)] mB = [0] from rfl, show xR 58 [] [(2, 10), (3, 0)] = [(2, 10), (3, 0)] from rfl, show xM 58 [] [(2, 10), (3, 0)] mB = mB from rfl] at hdo
  have s0 := hE.drew.cells
  clear hE
  go_wp2_with fail
  go_region_held (fun w' => w'.cell? ⟨g, 0, none⟩ = some (.pointer (some ⟨bd, 0, none⟩)) ∧ w'.cell? ⟨g, 1, none⟩ = some (.pointer (some ⟨br, 0, none⟩)) ∧ w'.cell? ⟨g, 2, none⟩ = some (.pointer (some ⟨bm, 0, none⟩)))
    (first | (with_reducible exact s0) | (with_reducible exact s1))
    (first | (go_at_call 12; refine hdo.mono ?_; rintro e v4 ⟨rfl, hE, b6⟩; have s1 := hE.cells))
  have LSZ' : Hid (v1.heap.size ≤ v4.heap.size) := Nat.le_trans LSZ.out b6.size
  have HX := S.hid (HX.out.trans (Below.mono (⟨b6.os, b6.tape, b6.output, b6.size, b6.block⟩ : Below v1.heap.size v3 v4) HS.out))
  clear hdo s0 s1 b6 LSZ
  have LSZ := LSZ'
  clear LSZ'
  have hdo := do_w 59 rfl v1.heap.size g bd br bm [0] [(2, 10), (3, 0)] mB (allC rfl) (by decide) v4.drew hE.drew LSZ.out
  rw [show fl 59 [0] [(2, 10), (3, 0)] = 3 from rfl, show xD 59 [0] [(2, 10), (3, 0)] mB = [0] from rfl, show xR 59 [0] [(2, 10), (3, 0)] = [(2, 10), (3, 0)] from rfl, show xM 59 [0] [(2, 10), (3, 0)] mB = mB from rfl] at hdo
  have s0 := hE.drew.cells
  clear hE
  go_wp2_with fail
  go_region_held (fun w' => w'.cell? ⟨g, 0, none⟩ = some (.pointer (some ⟨bd, 0, none⟩)) ∧ w'.cell? ⟨g, 1, none⟩ = some (.pointer (some ⟨br, 0, none⟩)) ∧ w'.cell? ⟨g, 2, none⟩ = some (.pointer (some ⟨bm, 0, none⟩)))
    (first | (with_reducible exact s0) | (with_reducible exact s1))
    (first | (go_at_call 12; refine hdo.mono ?_; rintro e v5 ⟨rfl, hE, b6⟩; have s1 := hE.cells))
  have LSZ' : Hid (v1.heap.size ≤ v5.heap.size) := Nat.le_trans LSZ.out b6.size
  have HX := S.hid (HX.out.trans (Below.mono (⟨b6.os, b6.tape, b6.output, b6.size, b6.block⟩ : Below v1.heap.size v4 v5) HS.out))
  clear hdo s0 s1 b6 LSZ
  have LSZ := LSZ'
  clear LSZ'
  have hrc := S.rcells br [(2, 10), (3, 0)] v5 hE.r
  have c1 := hE.cells.2.1
  have HE := S.hid hE
  clear hE
  go_wp2_with fail
  refine hrc.mono ?_
  rintro e v6 ⟨u, rfl, hu, b6⟩
  obtain ⟨p7, c7, rfl, -, sl7⟩ := hu.ls.ex
  have hE := HE.out.below b6
  have HX := S.hid (bb HX.out b6)
  have LSZ : Hid (v1.heap.size ≤ v6.heap.size) := Nat.le_trans LSZ.out b6.size
  have c0 := hE.cells.1
  have hdl := S.dlen bd [0] v6 hE.d
  simp only [List.length_cons, List.length_nil, Nat.reduceAdd] at hdl
  have hdp := S.dpop bd [] 0 v6 hE.d
  have HE2 := S.hid hE
  have HU := S.hid hu
  have HL := S.hid sl7
  clear hrc c1 HE hu hE b6 sl7
  go_wp2_with fail
  refine hdl.mono ?_
  rintro e v7 ⟨rfl, hv7⟩
  obtain rfl := hv7.symm
  go_wp2_with fail
  refine hdp.mono ?_
  rintro e v8 ⟨rfl, hd8, t8⟩
  have hlo : v1.heap.size ≤ bd := by obtain ⟨F, q⟩ := HE2.out; exact q.lo.2.1
  have b8 : Below v1.heap.size v6 v8 := S.At.below t8 hlo LSZ.out
  have HX := S.hid (HX.out.trans (b8.mono HS.out))
  have sl8 : S.Sl S.eK 2 v8 p7 [(2, 10), (3, 0)] := HL.out.tc t8 (fun a o e => by
    subst e
    exact S.own_ne HU.out HE2.out.d.1 (by decide) a rfl)
  have a8 := bel_alloc v8 (.cells #[.int .i64 2, .int .u16 10, .int .i64 3, .int .u16 0] 44)
  have hsm := S.sameK p7 (some ⟨v8.heap.size, 0, none⟩) c7 2 [(2, 10), (3, 0)] (by decide) (v8.alloc (.cells #[.int .i64 2, .int .u16 10, .int .i64 3, .int .u16 0] 44)) (sl8.below a8) (sl_block S.hK _ _ 44 _ (heap_alloc_new v8 _))
  simp only [List.length_cons, List.length_nil, Nat.reduceAdd] at hsm
  have HX := S.hid (bb HX.out a8)
  clear hdp hdl hd8 t8 b8 sl8 a8 HU HL HE2
  go_wp2_with fail
  refine hsm.mono ?_
  rintro e v9 ⟨rfl, q, rfl⟩
  go_wp2
  go_ret
  have hx := HX.out
  exact ⟨rfl, hx.os, hx.tape, hx.output, hx.size, hx.block⟩
end Go.Proofs.YtgponcjjnjpfkaaGreat.L
