import Derived.Test.YtmlpijjjkpnioaaDoorCKep
import Derived.Test.YtmlpijjjkpnioaaDoorCREnc
import Derived.Test.YtmlpijjjkpnioaaDoorCKnownW
import Derived.Test.YtmlpijjjkpnioaaDoorKApart7
/-! CartEncodes, walked. -/
namespace Go.Proofs.YtmlpijjjkpnioaaDoor.C
open Go.RowKit
open Go.Proofs
open Go.Proofs.YtmlpijjjkpnioaaDoor.K
set_option linter.unusedVariables false
set_option linter.unusedSimpArgs false
set_option maxHeartbeats 4000000
set_option maxRecDepth 100000
/-- What the walk carries. -/
structure EL (W w : World) (c : Ct) (v kv kv' : Value) (ep : Option Addr) (ec : Nat) (bp : Option Addr) (bc ge ce gb cb : Nat) (prs : List (Bk × Value)) (B : World) (g3 : Nat) (pv mv : List Value) : Prop where
  bel : Below W.heap.size W w
  i : IsC w v c ep ec bp bc kv
  o : OWC B w c kv' ge ce gb cb prs
  b0 : w.heap[W.heap.size]? = some (.cells pv.toArray 27 (0, 0))
  g : w.heap[g3]? = some (.cells mv.toArray 27 (0, 0))
  t : Tab w
theorem EL.next {W w w' : World} {c : Ct} {v kv kv' : Value} {ep : Option Addr} {ec : Nat} {bp : Option Addr} {bc ge ce gb cb : Nat} {prs : List (Bk × Value)} {B : World} {g3 : Nat} {pv mv : List Value} (h : EL W w c v kv kv' ep ec bp bc ge ce gb cb prs B g3 pv mv) (k : Below w.heap.size w w') : EL W w' c v kv kv' ep ec bp bc ge ce gb cb prs B g3 pv mv :=
  ⟨h.bel.trans (k.mono h.bel.size), h.i.below k, h.o.next k, (k.block _ (lt_of h.b0)).trans h.b0, (k.block _ (lt_of h.g)).trans h.g, h.t.below k h.t.pos⟩
theorem encodes_walk (v : Value) (c : Ct) (ep : Option Addr) (ec : Nat) (bp : Option Addr) (bc : Nat) (kv : Value) (W : World) (h : IsC W v c ep ec bp bc kv) (hT : Tab W) (hnil : ep = none → ec = 0) (hc1 : c.code.length + 4096 ≤ room) (he1 : c.effs.length * 24 + 4096 ≤ room) (hb1 : c.banks.length * 32 + 4096 ≤ room) (hd1 : ∀ x ∈ c.banks, x.2.length + 4096 ≤ room) :
    Calls Tryd.prog 7 #[v] W fun e w' => e = .returned (.bool true) ∧ Below W.heap.size W w' := by
  obtain ⟨kp, kc, rfl, _⟩ := h.code.ex
  have hv := h.val
  obtain ⟨W1, hW1⟩ : ∃ W1, W.alloc (.cells #[.slice kp c.code.length kc, .int .u16 (c.entry : Int), .slice ep c.effs.length ec, .slice bp c.banks.length bc] 27) = W1 := ⟨_, rfl⟩
  have k1 : Below W.heap.size W W1 := by rw [← hW1]; exact (Below.refl _ _).alloc (Nat.le_refl _) _
  have v1 : W1.heap[W.heap.size]? = some (.cells [.slice kp c.code.length kc, .int .u16 (c.entry : Int), .slice ep c.effs.length ec, .slice bp c.banks.length bc].toArray 27 (0, 0)) := by rw [← hW1]; exact heap_alloc_new W _
  have b0 := cell_of W1 W.heap.size 0 _ 27 _ v1 rfl
  have b1 := cell_of W1 W.heap.size 1 _ 27 _ v1 rfl
  have b2 := cell_of W1 W.heap.size 2 _ 27 _ v1 rfl
  have b3 := cell_of W1 W.heap.size 3 _ 27 _ v1 rfl
  have hown := own_cart c v ep ec bp bc _ W1 (h.below k1) hnil hc1 he1 hb1 hd1
  have H0 := hid (And.intro h (And.intro k1 (And.intro v1 hT)))
  have HV := hid hv
  have HD := hid hd1
  have HW := hid hW1
  clear h k1 v1 hW1 hd1 hT
  rw [hv] at hown ⊢
  clear hv
  unfold cv at hown ⊢
  obtain ⟨f, hf⟩ : ∃ f : Int, f = if may c then 0 else 74 := ⟨_, rfl⟩
  obtain ⟨sm, hsm⟩ : ∃ s : Nat, s = if may c then crc (layB c) else 0 := ⟨_, rfl⟩
  obtain ⟨lb, hlb⟩ : ∃ l : List UInt8, l = if may c then encB c else [] := ⟨_, rfl⟩
  have HF := hid (And.intro hf (And.intro hsm hlb))
  clear hf hsm hlb
  go_enter Tryd.func7, Tryd.ntmps7
  go_wp2_with fail
  rw [HW.out]
  refine hown.mono ?_
  rintro e w1 ⟨kv', ge, ce, gb, cb, prs, rfl, hO⟩
  obtain ⟨gk, ck, rfl, _⟩ := id hO.code
  obtain ⟨g3, hg3⟩ : ∃ g, g = w1.heap.size := ⟨_, rfl⟩
  obtain ⟨w2, hw2⟩ : ∃ x, x = w1.alloc (.cells #[.slice (some ⟨gk, 0, none⟩) c.code.length ck, .int .u16 (c.entry : Int), .slice (some ⟨ge, 0, none⟩) c.effs.length ce, .slice (some ⟨gb, 0, none⟩) c.banks.length cb] 27) := ⟨_, rfl⟩
  have hE : EL W w2 c v (.slice kp c.code.length kc) (.slice (some ⟨gk, 0, none⟩) c.code.length ck) ep ec bp bc ge ce gb cb prs W1 g3 [.slice kp c.code.length kc, .int .u16 (c.entry : Int), .slice ep c.effs.length ec, .slice bp c.banks.length bc] [.slice (some ⟨gk, 0, none⟩) c.code.length ck, .int .u16 (c.entry : Int), .slice (some ⟨ge, 0, none⟩) c.effs.length ce, .slice (some ⟨gb, 0, none⟩) c.banks.length cb] := by
    have k2 : Below w1.heap.size w1 w2 := by rw [hw2]; exact (Below.refl _ _).alloc (Nat.le_refl _) _
    have kk : Below W1.heap.size W1 w2 := hO.bel.trans (k2.mono hO.bel.size)
    have kW : Below W.heap.size W w2 := H0.out.2.1.trans (kk.mono H0.out.2.1.size)
    exact ⟨kW, H0.out.1.below kW, hO.next k2, (kk.block _ (lt_of H0.out.2.2.1)).trans H0.out.2.2.1, by rw [hw2, hg3]; exact heap_alloc_new w1 _, H0.out.2.2.2.below kW H0.out.2.2.2.pos⟩
  have HE := hid hE
  have HE2 := hid hE
  have HC := hid (Below.refl w2.heap.size w2)
  clear hown hO hE b0 b1 b2 b3
  go_upto_region 2 with fail
  rw [← hg3, ← hw2]
  clear hg3 hw2 HW
  have b0 := cell_of w2 W.heap.size 0 _ 27 _ HE.out.b0 rfl
  have m0 := cell_of w2 g3 0 _ 27 _ HE.out.g rfl
  have b1 := cell_of w2 W.heap.size 1 _ 27 _ HE.out.b0 rfl
  have m1 := cell_of w2 g3 1 _ 27 _ HE.out.g rfl
  have b2 := cell_of w2 W.heap.size 2 _ 27 _ HE.out.b0 rfl
  have m2 := cell_of w2 g3 2 _ 27 _ HE.out.g rfl
  have b3 := cell_of w2 W.heap.size 3 _ 27 _ HE.out.b0 rfl
  have m3 := cell_of w2 g3 3 _ 27 _ HE.out.g rfl
  go_wp2_with fail
  have hcall := rencode_any v c ep ec bp bc _ w2 HE.out.i
  rw [HV.out] at hcall
  unfold cv at hcall
  refine hcall.mono ?_
  rintro e w3 ⟨u3, rfl, hu1, hu2, k3⟩
  rw [← HF.out.1]
  have HU := hid (And.intro hu1 hu2)
  have z23 := k3.size
  clear b0 b1 b2 b3 m0 m1 m2 m3
  have HE := hid (HE.out.next k3)
  have HC := hid (HC.out.trans (k3.mono HC.out.size))
  clear k3 hcall hu1 hu2
  have b0 := cell_of w3 W.heap.size 0 _ 27 _ HE.out.b0 rfl
  have m0 := cell_of w3 g3 0 _ 27 _ HE.out.g rfl
  have b1 := cell_of w3 W.heap.size 1 _ 27 _ HE.out.b0 rfl
  have m1 := cell_of w3 g3 1 _ 27 _ HE.out.g rfl
  have b2 := cell_of w3 W.heap.size 2 _ 27 _ HE.out.b0 rfl
  have m2 := cell_of w3 g3 2 _ 27 _ HE.out.g rfl
  have b3 := cell_of w3 W.heap.size 3 _ 27 _ HE.out.b0 rfl
  have m3 := cell_of w3 g3 3 _ 27 _ HE.out.g rfl
  have hu3 : ∃ p n cc, u3 = .slice p n cc := by
    cases hm : may c with
    | true => obtain ⟨p, cc, e⟩ := own_form (HU.out.1 hm); exact ⟨_, _, _, e⟩
    | false => exact ⟨_, _, _, HU.out.2 hm⟩
  obtain ⟨p3, n3, c3, rfl⟩ := hu3
  go_wp2_with fail
  have hcall := check_any _ c _ _ _ _ _ w3 (HE.out.o.isC (H0.out.1.below H0.out.2.1))
  unfold cv at hcall
  refine hcall.mono ?_
  rintro e w4 ⟨rfl, k4⟩
  rw [← HF.out.1]
  have HU := hid (And.intro (fun hm => (HU.out.1 hm).below k4) HU.out.2)
  have z34 := k4.size
  clear b0 b1 b2 b3 m0 m1 m2 m3
  have HE := hid (HE.out.next k4)
  have HC := hid (HC.out.trans (k4.mono HC.out.size))
  clear k4 hcall
  have b0 := cell_of w4 W.heap.size 0 _ 27 _ HE.out.b0 rfl
  have m0 := cell_of w4 g3 0 _ 27 _ HE.out.g rfl
  have b1 := cell_of w4 W.heap.size 1 _ 27 _ HE.out.b0 rfl
  have m1 := cell_of w4 g3 1 _ 27 _ HE.out.g rfl
  have b2 := cell_of w4 W.heap.size 2 _ 27 _ HE.out.b0 rfl
  have m2 := cell_of w4 g3 2 _ 27 _ HE.out.g rfl
  have b3 := cell_of w4 W.heap.size 3 _ 27 _ HE.out.b0 rfl
  have m3 := cell_of w4 g3 3 _ 27 _ HE.out.g rfl
  go_wp2_with fail
  have hcall := encode_any _ c _ _ _ _ _ w4 (HE.out.o.isC (H0.out.1.below H0.out.2.1)) HE.out.t
  unfold cv at hcall
  refine hcall.mono ?_
  rintro e w5 ⟨⟨u5, rfl, hr5⟩, k5⟩
  rw [← HF.out.1]
  rw [← HF.out.2.2] at hr5
  obtain ⟨p5, c5, rfl⟩ := own_form hr5
  have HR5 := hid hr5
  have HU := hid (And.intro (fun hm => (HU.out.1 hm).below k5) HU.out.2)
  have z45 := k5.size
  clear b0 b1 b2 b3 m0 m1 m2 m3
  have HE := hid (HE.out.next k5)
  have HC := hid (HC.out.trans (k5.mono HC.out.size))
  clear k5 hcall hr5
  have b0 := cell_of w5 W.heap.size 0 _ 27 _ HE.out.b0 rfl
  have m0 := cell_of w5 g3 0 _ 27 _ HE.out.g rfl
  have b1 := cell_of w5 W.heap.size 1 _ 27 _ HE.out.b0 rfl
  have m1 := cell_of w5 g3 1 _ 27 _ HE.out.g rfl
  have b2 := cell_of w5 W.heap.size 2 _ 27 _ HE.out.b0 rfl
  have m2 := cell_of w5 g3 2 _ 27 _ HE.out.g rfl
  have b3 := cell_of w5 W.heap.size 3 _ 27 _ HE.out.b0 rfl
  have m3 := cell_of w5 g3 3 _ 27 _ HE.out.g rfl
  go_wp2_with fail
  have hcall := csum_any _ c _ _ _ _ _ w5 (HE.out.o.isC (H0.out.1.below H0.out.2.1)) HE.out.t
  unfold cv at hcall
  refine hcall.mono ?_
  rintro e w6 ⟨rfl, k6⟩
  rw [← HF.out.1, ← HF.out.2.1]
  have HR5 := hid (HR5.out.below k6)
  have HU := hid (And.intro (fun hm => (HU.out.1 hm).below k6) HU.out.2)
  have z56 := k6.size
  clear b0 b1 b2 b3 m0 m1 m2 m3
  have HE := hid (HE.out.next k6)
  have HC := hid (HC.out.trans (k6.mono HC.out.size))
  clear k6 hcall
  have hS3 : Sl w6 (.slice p3 n3 c3) lb := by
    cases hm : may c with
    | true =>
      have e : lb = encB c := by rw [HF.out.2.2, hm]; rfl
      rw [e]; exact (HU.out.1 hm).sl
    | false =>
      have e : lb = [] := by rw [HF.out.2.2, hm]; rfl
      rw [e, HU.out.2 hm]; exact .inl ⟨rfl, rfl⟩
  have hlb : lb.length ≤ 327872 := by
    cases hm : may c with
    | true =>
      have e : lb = encB c := by rw [HF.out.2.2, hm]; rfl
      rw [e]; exact (enc_size hm).2
    | false =>
      have e : lb = [] := by rw [HF.out.2.2, hm]; rfl
      rw [e]; simp
  obtain rfl : n3 = lb.length := by
    obtain ⟨p, cc, e, _⟩ := hS3.ex
    cases e; rfl
  have hlm : lb.length ≤ maxLen := by unfold maxLen; omega
  have cv1 := HR5.out.sl.conv hlm
  have cv2 := hS3.conv hlm
  have HS3 := hid hS3
  clear hS3
  go_upto_if 32 with fail
  go_cut [11] (fun s11 wc => s11 = .int .u32 (sm : Int) ∧ wc = w6)
  case first =>
    cases hm : may c with
    | true =>
      have e1 : f = 0 := by rw [HF.out.1, hm]; rfl
      have e2 : sm = crc (layB c) := by rw [HF.out.2.1, hm]; rfl
      have e3 : lb = encB c := by rw [HF.out.2.2, hm]; rfl
      have hl4 : lb.length = (layB c).length + 4 := by rw [e3]; exact enc_len c
      obtain ⟨p, cc, e, hbs⟩ := HS3.out.ex
      cases e
      have hbs2 : Bs w6 p3 (layB c) := by
        rcases hbs with h0 | ⟨x, hx, hj⟩
        · rw [h0] at hl4; simp at hl4
        · refine .inr ⟨x, hx, fun j b hb => hj j b ?_⟩
          rw [e3, encB, List.getElem?_append_left (List.getElem?_eq_some_iff.1 hb).1]; exact hb
      have hcall := rsum_any p3 c3 (layB c) (by unfold maxLen; omega) w6 hbs2
      have hwr : IntKind.i64.wrap ((lb.length : Int) - 4) = ((layB c).length : Int) := by rw [IntWalk.i64_in _ (by omega)]; omega
      have hcp : ((layB c).length : Int) ≤ (c3 : Int) := by
        rcases HS3.out with ⟨h0, h1⟩ | ⟨x, cc, h0, h1, _⟩
        · rw [h1] at hl4; simp at hl4
        · cases h0; omega
      have hcp2 : (layB c).length ≤ c3 := by omega
      have HE2' := hid e2
      subst e1
      clear hbs hbs2 e2 e3 hm hl4
      go_wp2_with fail
      refine hcall.mono ?_
      rintro e wv ⟨rfl, hwv⟩
      subst hwv
      go_wp2
      go_meet
      case rel => exact ⟨by rw [HE2'.out], rfl⟩
    | false =>
      have e1 : f = 74 := by rw [HF.out.1, hm]; rfl
      have e2 : sm = 0 := by rw [HF.out.2.1, hm]; rfl
      subst e1
      go_wp2
      go_meet
      case rel => exact ⟨by rw [e2]; rfl, rfl⟩
  case rest =>
    obtain ⟨rfl, hwc⟩ := hcut
    subst hwc
    have hl5 : (lb.length : Int) ≤ 524288 := by omega
    have HW6 := hid (And.intro (rfl : wc = wc) HS3.out)
    clear HS3
    go_wp2_with (refine (num_any f _).mono ?_; rintro e wn ⟨rfl, hwn⟩; rw [hwn]; clear hwn wn)
    clear cv1 cv2
    obtain ⟨bl, hbl⟩ : ∃ bl, bl = wc.heap.size := ⟨_, rfl⟩
    obtain ⟨x8, hx8⟩ : ∃ x, wc.alloc (.cells #[.slice p5 lb.length c5] 22) = x := ⟨_, rfl⟩
    have kx8 : Below wc.heap.size wc x8 := by rw [← hx8]; exact (Below.refl _ _).alloc (Nat.le_refl _) _
    have vbl : x8.heap[bl]? = some (.cells [.slice p5 lb.length c5].toArray 22 (0, 0)) := by rw [← hx8, hbl]; exact heap_alloc_new wc _
    have zx8 := kx8.size
    have HR8 := hid (HR5.out.below kx8)
    have hP1 : P1 w4.heap.size bl 1 (fun _ => .slice p5 lb.length c5) (fun _ => lb.length) x8 x8 (fun _ => lb) :=
      ⟨Below.refl _ _, by omega, fun i hi => by obtain rfl : i = 0 := (by omega); exact cell_of x8 bl 0 _ 22 _ vbl rfl, ⟨_, vbl⟩, fun i hi => HR8.out, fun i hi => rfl, fun i j hi hj hne => by omega⟩
    have hap := apart_any w4.heap.size bl 1 (by omega) _ _ _ x8 hP1 (fun i hi => by show lb.length + 200 ≤ room; unfold room; omega)
    have hk8 : Below w2.heap.size w2 x8 := HC.out.trans (kx8.mono HC.out.size)
    have HK8 := hid hk8
    have HX8 := hid hx8
    have HBL := hid hbl
    clear hP1 vbl hx8 hbl kx8 hk8
    rw [HX8.out, ← HBL.out]
    refine hap.mono ?_
    rintro e x9 ⟨rfl, k9⟩
    have HE9 := hid (HE2.out.next (HK8.out.trans (k9.mono (by omega))))
    clear k9 hap HE
    have HE := HE9
    have b0 := cell_of x9 W.heap.size 0 _ 27 _ HE.out.b0 rfl
    have m0 := cell_of x9 g3 0 _ 27 _ HE.out.g rfl
    have b1 := cell_of x9 W.heap.size 1 _ 27 _ HE.out.b0 rfl
    have m1 := cell_of x9 g3 1 _ 27 _ HE.out.g rfl
    have b2 := cell_of x9 W.heap.size 2 _ 27 _ HE.out.b0 rfl
    have m2 := cell_of x9 g3 2 _ 27 _ HE.out.g rfl
    have b3 := cell_of x9 W.heap.size 3 _ 27 _ HE.out.b0 rfl
    have m3 := cell_of x9 g3 3 _ 27 _ HE.out.g rfl
    go_wp2_with fail
    have hcall := kept_any c v ep ec bp bc _ _ ge ce gb cb prs W1 x9 HE9.out.i HE9.out.o (H0.out.1.below H0.out.2.1) hc1 he1 hb1 HD.out
    rw [HV.out] at hcall
    unfold cv at hcall
    refine hcall.mono ?_
    rintro e x10 ⟨rfl, k10⟩
    have HE10 := hid (HE9.out.next k10)
    clear k10 hcall
    clear b0 b1 b2 b3 m0 m1 m2 m3
    go_wp2_with fail
    refine (known_any x10 HE10.out.t).mono ?_
    rintro e x11 ⟨rfl, k11⟩
    have HB11 := hid (HE10.out.bel.trans (k11.mono HE10.out.bel.size))
    clear k11
    go_wp2
    go_ret
    exact ⟨rfl, HB11.out⟩
end Go.Proofs.YtmlpijjjkpnioaaDoor.C
