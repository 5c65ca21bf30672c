import Derived.Test.YtgponcjjnjpfkaaGreatG8
import Derived.Deep.DeepCutAuto
import Derived.WalkKit
import Derived.ProofKit
import Derived.OpenShut
import Derived.ChangeOld
import Derived.Below
import Derived.Deep.Slices
import Derived.Deep.SlicePairs
import Derived.SizedLaws
/-! PrimKeeps. -/
namespace Go.Proofs.YtgponcjjnjpfkaaGreat.L
open Go.RowKit
open Go.Proofs
open P
set_option linter.unusedVariables false
set_option linter.unusedSimpArgs false
set_option maxHeartbeats 40000000
set_option maxRecDepth 100000
theorem sizeP6 : (Tryz.prog.info? 59).map (·.size) = some 6 := by kernel_rfl
theorem a_n {n : Nat} (h : n < 64) : wrap64 ((n : Int) + 1) = ((n + 1 : Nat) : Int) := by simp [wrap64]; omega
theorem slUK {W : World} {B : Nat} {p : Option Addr} {c : Nat} {l : List Int} (h : S.RowU W B (.slice p l.length c) l) : S.Sl S.eU 1 W p l := by
  obtain ⟨p', c', e, _, k⟩ := h.ls.ex
  cases e
  exact k
theorem slKK {W : World} {B : Nat} {p : Option Addr} {c : Nat} {l : List (Int × Int)} (h : S.RowK W B (.slice p l.length c) l) : S.Sl S.eK 2 W p l := by
  obtain ⟨p', c', e, _, k⟩ := (S.own_sl S.hK h).ex
  cases e
  exact k
theorem slPre {W : World} {p : Option Addr} {l l2 : List Int} {k : Nat} (h : S.Sl S.eU 1 W p l) (e : ∀ j, j < k → l2[j]? = l[j]?) (hl : l2.length = k) : S.Sl S.eU 1 W p l2 := fun j a hj => h j a (by
  have hjk : j < k := by
    have := (List.getElem?_eq_some_iff.1 hj).1; omega
  rw [← e j hjk]; exact hj)
theorem st_tonesK (m : M.MS) (z : Int) (x : UInt8) : (M.st m z x).tones.length ≤ m.tones.length + 1 := by
  unfold M.st
  split
  · omega
  · split
    · split <;> simp
    · split
      · simp
      · split
        · simp
        · unfold M.stp
          split
          · simp
          · split
            · simp
            · split
              · simp
              · split <;> simp
theorem mem_tonesK (op x y z : Int) (m : M.MS) : (memN op x y z m).tones.length ≤ m.tones.length + 3 := by
  have sc : ∀ (m : M.MS) (a b : Int), (M.sc m a b).tones.length ≤ m.tones.length + 2 := fun m a b => by
    have h1 := st_tonesK (M.st m a (M.b8 b)) ((a + 1) % 65536) (M.b8 (b / 256))
    have h2 := st_tonesK m a (M.b8 b)
    unfold M.sc; omega
  unfold memN
  split
  · have := sc m y x; omega
  · have := st_tonesK m y (M.b8 x); omega
  · have := sc m y ((M.cl m y + x) % 65536); omega
  · unfold M.plt; split
    · have := st_tonesK m (49152 + 64 * y + x) (M.b8 z); omega
    · omega
  · have h1 := st_tonesK (M.sc m 65284 x) 65286 (M.b8 y)
    have h2 := sc m 65284 x
    omega
  · have := st_tonesK m 65280 (M.b8 x); omega
  · omega
theorem xM_tones (op : Int) (D : List Int) (R : List (Int × Int)) : (xM op D R mB).tones.length ≤ 1000000 := by
  unfold xM
  have e : mB.tones.length = 0 := rfl
  split
  · have := mem_tonesK op (xAt D (rw_ op).i 0) (xAt D (rw_ op).i 1) (xAt D (rw_ op).i 2) mB
    unfold nM; omega
  · omega
theorem i_le (n : Nat) (hp : plain (n : Int) = true) : (rw_ (n : Int)).i ≤ 10 := by
  generalize (n : Int) = op at *
  rcases plain_cases op hp with rfl | rfl | rfl | rfl | rfl | rfl | rfl | rfl | rfl | rfl | rfl | rfl | rfl | rfl | rfl | rfl | rfl | rfl | rfl | rfl | rfl | rfl | rfl | rfl | rfl | rfl | rfl | rfl | rfl | rfl | rfl | rfl | rfl | rfl | rfl | rfl | rfl | rfl | rfl | rfl | rfl | rfl | rfl | rfl | rfl | rfl | rfl | rfl | rfl | rfl | rfl | rfl | rfl | rfl <;> decide
theorem bdN (W : World) (q : Nat) : Below W.heap.size W (W.drewN q) := ⟨rfl, rfl, rfl, Nat.le_refl _, fun _ _ => rfl⟩
theorem nR_pre (op : Int) (hp : plain op = true) (D : List Int) (R : List (Int × Int)) (hf : fl op D R = 0) (j : Nat) (h1 : j < R.length) (h2 : j < (nR op D R).length) : (nR op D R)[j]? = R[j]? := by
  obtain ⟨_, n, t, e, c⟩ := nR_all op hp D R hf
  rw [e] at h2 ⊢
  rcases c with rfl | ⟨rfl, hn⟩
  · rw [List.take_length, List.getElem?_append_left h1]
  · rw [List.append_nil] at h2 ⊢
    rw [List.length_take] at h2
    rw [List.getElem?_take_of_lt (by omega)]
theorem nD_preT (op : Int) (D : List Int) (R : List (Int × Int)) (m : M.MS) (j : Nat) (h : j < D.length - (rw_ op).i) : (D.take (D.length - (rw_ op).i))[j]? = (nD op D R m)[j]? := by
  obtain ⟨t, e⟩ := nD_pre op D R m
  rw [e, List.getElem?_append_left (by rw [List.length_take]; omega)]
theorem a_2 (a o i b : Nat) (h : (b : Int) = (a : Int) + (o : Int) - (i : Int)) (ha : a ≤ 256) (ho : o ≤ 256) (hb : b ≤ 1000) : wrap64 ((a : Int) + (o : Int)) = (a : Int) + (o : Int) ∧ wrap64 ((a : Int) + (o : Int) - (i : Int)) = (b : Int) ∧ IntKind.i64.wrap ((a : Int) + (o : Int)) = (a : Int) + (o : Int) ∧ IntKind.i64.wrap ((a : Int) + (o : Int) - (i : Int)) = (b : Int) := by
  rw [← h]
  simp [wrap64, IntKind.wrap, IntKind.bits, IntKind.signed]; omega
theorem a_3 (a b : Nat) (t : Int) (h : (b : Int) = (a : Int) + t) (hb : b ≤ 1000) : wrap64 ((a : Int) + t) = (b : Int) ∧ IntKind.i64.wrap ((a : Int) + t) = (b : Int) := by
  rw [← h]
  simp [wrap64, IntKind.wrap, IntKind.bits, IntKind.signed]; omega
theorem bdr (W : World) : Below W.heap.size W W.drew := ⟨rfl, rfl, rfl, Nat.le_refl _, fun _ _ => rfl⟩
theorem keeps_walk (p q : Option Addr) (c d : Nat) (data : List Int) (ret : List (Int × Int)) (hc : data.length ≤ c) (hd : ret.length ≤ d) (hpc : p = none → c = 0) (hpd : q = none → d = 0) (hr : data.length ≤ S.room) (hr2 : ret.length ≤ S.room) (hC : ∀ x ∈ data, C.C x) (a : Int) (ha : C.C a) (x : UInt8) (w : World) (h1 : S.Sl S.eU 1 w p data) (h2 : S.Sl S.eK 2 w q ret) :
    Calls Tryz.prog 8 #[.slice p data.length c, .slice q ret.length d, .int .u16 a, .int .u8 (x.toNat : Int)] w fun e w' => e = .returned (.bool true) ∧ Below w.heap.size w w' := by
  have hb : ∀ W, Below w.heap.size w W → Calls Tryz.prog 11 #[.slice p data.length c, .slice q ret.length d] W fun e w' => BornR W w' e (data.take 256) ((ret.take 128).map nk) := fun W k => born_any p q c d data ret hc hd hpc hpd hr hr2 W (h1.below k) (h2.below k)
  have hD : ∀ x ∈ data.take 256, C.C x := fun x hx => hC x (List.mem_of_mem_take hx)
  have hDl : (data.take 256).length ≤ 256 := by simp; omega
  have hRl : ((ret.take 128).map nk).length ≤ 128 := by simp; omega
  generalize data.take 256 = D at hb hD hDl
  generalize (ret.take 128).map nk = R at hb hRl
  have hfx := fixed_any w
  have HBO := S.hid hb
  have HD := S.hid hD
  clear h1 h2 hr hr2 hpc hpd hc hd hb hC hD
  go_enter Tryz.func8, Tryz.ntmps8
  go_wp2_with fail
  refine hfx.mono ?_
  rintro e w0 ⟨rfl, hb0⟩
  have HB0 := S.hid hb0
  clear hfx hb0
  go_wp2
  go_loopw [9] (fun i wr => ∃ n : Nat, 1 ≤ n ∧ n ≤ 64 ∧ i = .int .i64 (n : Int) ∧ Below w.heap.size w wr) (fun i _ => 64 - (intOf i).toNat)
  case atStart => exact ⟨1, by omega, by omega, rfl, HB0.out⟩
  case round =>
    clear HB0
    obtain ⟨n, hn1, hn64, rfl, hB⟩ := hrel
    by_cases hn : n < 64
    case neg =>
      have d1 : decide ((n : Int) < 64) = false := decide_eq_false (by omega)
      have HBe := S.hid hB
      clear hB
      go_wp2
      go_ret
      exact ⟨rfl, HBe.out⟩
    have d1 : decide ((n : Int) < 64) = true := decide_eq_true (by omega)
    have w1' := a_n hn
    have k1 := HBO.out wr hB
    have HBr := S.hid hB
    clear hB hn64
    go_wp2_with fail
    refine k1.mono ?_
    rintro e w1 ⟨g, bd, br, bm, bx, bq, bz, F0, G0, ev, qv, rfl, hW, hb1⟩
    have k2 := HBO.out w1 (bel2 HBr.out hb1)
    have HE1 := S.hid hW.e
    have HB1 := S.hid hb1
    clear k1 hW hb1
    go_wp2_with fail
    refine k2.mono ?_
    rintro e w2 ⟨g', bd', br', bm', bx', bq', bz', F1, G1, ev', qv', rfl, hW, hb2⟩
    obtain ⟨F, F', hKP⟩ := KP.make HE1.out HB1.out.size hb2 hW.e
    have k3 := of_at n hn1 hn w2
    unfold rowN rowV at k3
    have HB2 := S.hid (bel2 (bel2 HBr.out HB1.out) hb2)
    have HKP := S.hid hKP
    clear k2 hW hb2 hKP HE1
    go_wp2_with fail
    refine k3.mono ?_
    rintro e w3 ⟨rfl, hb3⟩
    obtain ⟨z4, r4, b4⟩ := mkRowK w3 #[.int .i64 0, .string { data := #[] }, .int .i64 0, .int .i64 0, .int .i64 0, .bool false] #[.int .i64 (n : Int), .string (nm n), .int .i64 (ri n), .int .i64 (ro n), .int .i64 (rc n), .bool (rb n)] 59
    have hs4 : w3.heap.size < ((w3.alloc (.cells #[.int .i64 0, .string { data := #[] }, .int .i64 0, .int .i64 0, .int .i64 0, .bool false] 59)).setRow w3.heap.size #[.int .i64 (n : Int), .string (nm n), .int .i64 (ri n), .int .i64 (ro n), .int .i64 (rc n), .bool (rb n)]).heap.size := S.lt_of r4
    have hQ := KQ.one (HKP.out.below hb3) b4 hs4
    have HB4 := S.hid (bel2 (bel2 HB2.out hb3) b4)
    have kp := plain_any (n : Int) ((w3.alloc (.cells #[.int .i64 0, .string { data := #[] }, .int .i64 0, .int .i64 0, .int .i64 0, .bool false] 59)).setRow w3.heap.size #[.int .i64 (n : Int), .string (nm n), .int .i64 (ri n), .int .i64 (ro n), .int .i64 (rc n), .bool (rb n)])
    have HQ4 := S.hid hQ
    have HR4 := S.hid r4
    clear k3 hb3 b4 hs4 hQ HKP HB2 HB1 r4
    go_wp2_with (refine wpList_store_row rfl 59 _ _ rfl w3.heap.size _ rfl rfl 59 #[.int .i64 0, .string { data := #[] }, .int .i64 0, .int .i64 0, .int .i64 0, .bool false] z4 (by exact sizeP6) (by rfl) (by simp [Value.oneCell']) ?_)
    generalize hW4 : ((w3.alloc (.cells #[.int .i64 0, .string { data := #[] }, .int .i64 0, .int .i64 0, .int .i64 0, .bool false] 59)).setRow w3.heap.size #[.int .i64 (n : Int), .string (nm n), .int .i64 (ri n), .int .i64 (ro n), .int .i64 (rc n), .bool (rb n)]) = W4 at *
    generalize hx0 : w3.heap.size = x0 at *
    clear hW4 z4 hx0
    refine kp.mono ?_
    rintro e w5 ⟨rfl, hb5⟩
    have HQ5 := S.hid (HQ4.out.below hb5)
    have HB5 := S.hid (bel2 HB4.out hb5)
    clear kp hb5 HQ4 HB4
    by_cases hp : plain (n : Int) = true
    case neg =>
      have hp' : plain (n : Int) = false := by simpa using hp
      rw [hp']
      clear HQ5
      go_wp2
      go_roundw
      case rel =>
        first
          | exact ⟨n + 1, by omega, by omega, (by first | rfl | rw [w1']), HB5.out⟩
          | ((repeat apply Exists.intro); refine ⟨⟨n + 1, by omega, by omega, ?_, HB5.out⟩, rfl⟩; first | rfl | rw [w1'])
      case measure => exact msrK 64 _ _ n (by first | rfl | rw [w1']) rfl hn
    rw [hp]
    obtain ⟨hri, hro⟩ := ri_is n hp
    obtain ⟨T, hT⟩ : ∃ T, T = D.take (D.length - (rw_ (n : Int)).i) := ⟨_, rfl⟩
    have hTl : D.length - (rw_ (n : Int)).i = T.length := by rw [hT, List.length_take]; omega
    have HTX := S.hid (And.intro hT hTl)
    have HRI := S.hid (And.intro hri hro)
    clear hT hTl hri hro
    have cb := HQ5.out.cb.2.2
    have kb := M.begin_any bm' x w5 HQ5.out.kp.b.p.m
    go_wp2_with fail
    refine kb.mono ?_
    rintro e w6 ⟨rfl, hd6⟩
    have hQ6 := HQ5.out.right (HQ5.out.kp.b.p.mem hd6)
    have hB6 := pdB HQ5.out.kp.b HQ5.out.kp.hB (HQ5.out.kp.b.p.mem hd6)
    have cb := hQ6.cb.2.2
    have ks := M.store_any bm' a ha.1 ha.2 x w6 hQ6.kp.b.p.m (by simp [M.bg])
    have HQ6 := S.hid hQ6
    have HB6 := S.hid (HB5.out.trans (hB6.mono HBr.out.size))
    clear kb hd6 hQ6 hB6 HQ5 HB5
    go_wp2_with fail
    refine ks.mono ?_
    rintro e w7 ⟨rfl, hd7⟩
    have hQ7 := HQ6.out.right (HQ6.out.kp.b.p.mem hd7)
    have hB7 := pdB HQ6.out.kp.b HQ6.out.kp.hB (HQ6.out.kp.b.p.mem hd7)
    have HQ7 := S.hid hQ7
    have HB7 := S.hid (HB6.out.trans (hB7.mono HBr.out.size))
    clear ks hd7 hQ7 hB7 HQ6 HB6 cb
    have hm2 : (M.st (M.bg mB (M.bt x)) a x).tones.length ≤ 1 := by
      have := st_tonesK (M.bg mB (M.bt x)) a x
      have e : (M.bg mB (M.bt x)).tones.length = 0 := rfl
      omega
    generalize M.st (M.bg mB (M.bt x)) a x = m2 at *
    have hSP : ∀ W', Below w7.heap.size w7 W' → (fun w' : World => (w'.cell? ⟨g, 0, none⟩ = some (.pointer (some ⟨bd, 0, none⟩)) ∧ w'.cell? ⟨g, 1, none⟩ = some (.pointer (some ⟨br, 0, none⟩)) ∧ w'.cell? ⟨g, 2, none⟩ = some (.pointer (some ⟨bm, 0, none⟩))) ∧ w'.cell? ⟨x0, 2, none⟩ = some (.int .i64 (ri n))) W' := fun W' k => ⟨(HQ7.out.below k).ca, S.cell_of W' _ 2 [.int .i64 (n : Int), .string (nm n), .int .i64 (ri n), .int .i64 (ro n), .int .i64 (rc n), .bool (rb n)] _ _ (((HQ7.out.below k).ke x0 rfl).trans HR4.out) rfl⟩
    have HSP := S.hid hSP
    have s0 := hSP _ (bdr w7)
    have hQd := HQ7.out.below (bdr w7)
    have kd := S.dcells bd D w7.drew hQd.kp.a.p.d
    have HQd := S.hid hQd
    have HBd := S.hid (bdr w7)
    clear hSP hQd
    go_upto_region 13 with fail
    try simp only [Act.put, List.getElem_toArray, List.getElem_cons_zero, List.getElem_cons_succ, List.setIfInBounds_toArray, List.set_cons_zero, List.set_cons_succ]
    refine wp_region_held_drew (S := (fun w' : World => (w'.cell? ⟨g, 0, none⟩ = some (.pointer (some ⟨bd, 0, none⟩)) ∧ w'.cell? ⟨g, 1, none⟩ = some (.pointer (some ⟨br, 0, none⟩)) ∧ w'.cell? ⟨g, 2, none⟩ = some (.pointer (some ⟨bm, 0, none⟩))) ∧ w'.cell? ⟨x0, 2, none⟩ = some (.int .i64 (ri n)))) (by kernel_rfl) s0 (fun hHeld => ?_)
    clear s0
    refine wpAnyH_take (i := 0) (v := ?_) rfl (by kernel_rfl) (by kernel_rfl) (by kernel_rfl) (fun c a w h => h) (Or.inl ⟨by rfl, ?_⟩) hHeld ?_
    rotate_left
    · (intro w hSw; (try dsimp only at hSw); go_simp; try with_reducible rfl)
    simp only [Act.put, List.getElem_toArray, List.getElem_cons_zero, List.getElem_cons_succ, List.setIfInBounds_toArray, List.set_cons_zero, List.set_cons_succ]
    refine wpAnyH_take (i := 1) (v := ?_) rfl (by kernel_rfl) (by kernel_rfl) (by kernel_rfl) (fun c a w h => h) (Or.inl ⟨by rfl, ?_⟩) hHeld ?_
    rotate_left
    · (intro w hSw; (try dsimp only at hSw); go_simp; try with_reducible rfl)
    simp only [Act.put, List.getElem_toArray, List.getElem_cons_zero, List.getElem_cons_succ, List.setIfInBounds_toArray, List.set_cons_zero, List.set_cons_succ]
    refine wpAnyH_take (i := 2) (v := ?_) rfl (by kernel_rfl) (by kernel_rfl) (by kernel_rfl) (fun c a w h => h) (Or.inl ⟨by rfl, ?_⟩) hHeld ?_
    rotate_left
    · (intro w hSw; (try dsimp only at hSw); go_simp; try with_reducible rfl)
    simp only [Act.put, List.getElem_toArray, List.getElem_cons_zero, List.getElem_cons_succ, List.setIfInBounds_toArray, List.set_cons_zero, List.set_cons_succ]
    refine wpAnyH_take (i := 3) (v := ?_) rfl (by kernel_rfl) (by kernel_rfl) (by kernel_rfl) (fun c a w h => h) (Or.inl ⟨by rfl, ?_⟩) hHeld ?_
    rotate_left
    · (intro w hSw; (try dsimp only at hSw); go_simp; try with_reducible rfl)
    simp only [Act.put, List.getElem_toArray, List.getElem_cons_zero, List.getElem_cons_succ, List.setIfInBounds_toArray, List.set_cons_zero, List.set_cons_succ]
    refine wpAnyH_take (i := 5) (v := ?_) rfl (by kernel_rfl) (by kernel_rfl) (by kernel_rfl) (fun c a w h => h) (Or.inl ⟨by rfl, ?_⟩) hHeld ?_
    rotate_left
    · (intro w hSw; (try dsimp only at hSw); go_simp; try with_reducible rfl)
    simp only [Act.put, List.getElem_toArray, List.getElem_cons_zero, List.getElem_cons_succ, List.setIfInBounds_toArray, List.set_cons_zero, List.set_cons_succ]
    refine wpAnyH_take (i := 6) (v := ?_) rfl (by kernel_rfl) (by kernel_rfl) (by kernel_rfl) (fun c a w h => h) (Or.inl ⟨by rfl, ?_⟩) hHeld ?_
    rotate_left
    · (intro w hSw; (try dsimp only at hSw); go_simp; try with_reducible rfl)
    simp only [Act.put, List.getElem_toArray, List.getElem_cons_zero, List.getElem_cons_succ, List.setIfInBounds_toArray, List.set_cons_zero, List.set_cons_succ]
    refine wpAnyH_take (i := 7) (v := ?_) rfl (by kernel_rfl) (by kernel_rfl) (by kernel_rfl) (fun c a w h => h) (Or.inl ⟨by rfl, ?_⟩) hHeld ?_
    rotate_left
    · (intro w hSw; (try dsimp only at hSw); go_simp; try with_reducible rfl)
    simp only [Act.put, List.getElem_toArray, List.getElem_cons_zero, List.getElem_cons_succ, List.setIfInBounds_toArray, List.set_cons_zero, List.set_cons_succ]
    refine wpAnyH_take (i := 8) (v := ?_) rfl (by kernel_rfl) (by kernel_rfl) (by kernel_rfl) (fun c a w h => h) (Or.inl ⟨by rfl, ?_⟩) hHeld ?_
    rotate_left
    · (intro w hSw; (try dsimp only at hSw); go_simp; try with_reducible rfl)
    simp only [Act.put, List.getElem_toArray, List.getElem_cons_zero, List.getElem_cons_succ, List.setIfInBounds_toArray, List.set_cons_zero, List.set_cons_succ]
    refine wpAnyH_take (i := 10) (v := ?_) rfl (by kernel_rfl) (by kernel_rfl) (by kernel_rfl) (fun c a w h => h) (Or.inl ⟨by rfl, ?_⟩) hHeld ?_
    rotate_left
    · (intro w hSw; (try dsimp only at hSw); go_simp; try with_reducible rfl)
    simp only [Act.put, List.getElem_toArray, List.getElem_cons_zero, List.getElem_cons_succ, List.setIfInBounds_toArray, List.set_cons_zero, List.set_cons_succ]
    refine wpAnyH_take (i := 11) (v := ?_) rfl (by kernel_rfl) (by kernel_rfl) (by kernel_rfl) (fun c a w h => h) (Or.inl ⟨by rfl, ?_⟩) hHeld ?_
    rotate_left
    · (intro w hSw; (try dsimp only at hSw); go_simp; try with_reducible rfl)
    simp only [Act.put, List.getElem_toArray, List.getElem_cons_zero, List.getElem_cons_succ, List.setIfInBounds_toArray, List.set_cons_zero, List.set_cons_succ]
    refine wpAnyH_take (i := 12) (v := ?_) rfl (by kernel_rfl) (by kernel_rfl) (by kernel_rfl) (fun c a w h => h) (Or.inl ⟨by rfl, ?_⟩) hHeld ?_
    rotate_left
    · (intro w hSw; (try dsimp only at hSw); go_simp; try with_reducible rfl)
    simp only [Act.put, List.getElem_toArray, List.getElem_cons_zero, List.getElem_cons_succ, List.setIfInBounds_toArray, List.set_cons_zero, List.set_cons_succ]
    refine wpAnyH_take (i := 13) (v := ?_) rfl (by kernel_rfl) (by kernel_rfl) (by kernel_rfl) (fun c a w h => h) (Or.inl ⟨by rfl, ?_⟩) hHeld ?_
    rotate_left
    · (intro w hSw; (try dsimp only at hSw); go_simp; try with_reducible rfl)
    simp only [Act.put, List.getElem_toArray, List.getElem_cons_zero, List.getElem_cons_succ, List.setIfInBounds_toArray, List.set_cons_zero, List.set_cons_succ]
    refine wpAnyH_take (i := 14) (v := ?_) rfl (by kernel_rfl) (by kernel_rfl) (by kernel_rfl) (fun c a w h => h) (Or.inl ⟨by rfl, ?_⟩) hHeld ?_
    rotate_left
    · (intro w hSw; (try dsimp only at hSw); go_simp; try with_reducible rfl)
    simp only [Act.put, List.getElem_toArray, List.getElem_cons_zero, List.getElem_cons_succ, List.setIfInBounds_toArray, List.set_cons_zero, List.set_cons_succ]
    refine wpAnyH_take (i := 15) (v := ?_) rfl (by kernel_rfl) (by kernel_rfl) (by kernel_rfl) (fun c a w h => h) (Or.inl ⟨by rfl, ?_⟩) hHeld ?_
    rotate_left
    · (intro w hSw; (try dsimp only at hSw); go_simp; try with_reducible rfl)
    simp only [Act.put, List.getElem_toArray, List.getElem_cons_zero, List.getElem_cons_succ, List.setIfInBounds_toArray, List.set_cons_zero, List.set_cons_succ]
    refine wpAnyH_ready (rs := [4]) (by kernel_rfl) (by simp) ?_
    refine AllReadyH.cons rfl (fun K hK => ?_) AllReadyH.nil
    go_simp
    refine kd.mono ?_
    rintro e wa ⟨ua, rfl, ra, hba⟩
    obtain ⟨a1, ac1, rfl⟩ := own_formK ra
    have hBa := trBK HBd.out hba HBd.out.size
    have kr := S.rcells br R wa (HQ7.out.below hBa).kp.a.p.r
    have sa := HSP.out wa hBa
    have HBa := S.hid hBa
    have HRA := S.hid (show S.RowU wa w7.heap.size (.slice a1 D.length ac1) D from ra)
    clear kd ra hba hBa HQd
    refine hK.out _ _ sa (fun hHeld => ?_)
    clear hK K
    refine wpAnyH_ready (rs := [9]) (by kernel_rfl) (by simp) ?_
    refine AllReadyH.cons rfl (fun K hK => ?_) AllReadyH.nil
    go_simp
    refine kr.mono ?_
    rintro e wb ⟨ub, rfl, rb_, hbb⟩
    obtain ⟨b1, bc1, rfl⟩ := own_formK rb_
    have hBb := trBK HBa.out hbb HBa.out.size
    have ku := under_any bd (rw_ (n : Int)).i (i_le n hp) D wb (HQ7.out.below hBb).kp.a.p.d
    rw [← HRI.out.1, HTX.out.2] at ku
    have sb := HSP.out wb hBb
    have HBb := S.hid hBb
    have HRA2 := S.hid (S.own_kept HRA.out fun i e hi => hbb.block i hi)
    have HRB := S.hid (show S.RowK wb wa.heap.size (.slice b1 R.length bc1) R from rb_)
    have HSa := S.hid (show w7.heap.size ≤ wa.heap.size from HBa.out.size)
    clear kr rb_ hbb hBb sa HBa HRA
    refine hK.out _ _ sb (fun hHeld => ?_)
    clear hK K
    refine wpAnyH_ready (rs := [16]) (by kernel_rfl) (by simp) ?_
    refine AllReadyH.cons rfl (fun K hK => ?_) AllReadyH.nil
    go_simp
    refine ku.mono ?_
    rintro e wd ⟨d1, dc1, rfl, rd_, hbd⟩
    have hBd2 := trBK HBb.out hbd HBb.out.size
    have sd := HSP.out wd hBd2
    have HBD := S.hid hBd2
    have HRA3 := S.hid (S.own_kept HRA2.out fun i e hi => hbd.block i hi)
    have HRB3 := S.hid (S.own_mono (S.own_kept HRB.out fun i e hi => hbd.block i hi) HSa.out)
    have HRD := S.hid (show S.RowU wd w7.heap.size (.slice d1 D.length dc1) D from S.own_mono rd_ HBb.out.size)
    clear ku rd_ hbd hBd2 sb HBb HRA2 HRB HSa
    refine hK.out _ _ sd (fun hHeld => ?_)
    clear hK K
    try simp only [Act.put, List.getElem_toArray, List.getElem_cons_zero, List.getElem_cons_succ, List.setIfInBounds_toArray, List.set_cons_zero, List.set_cons_succ]
    refine wpAnyH_ready (rs := [17]) (by kernel_rfl) (by simp) ?_
    refine AllReadyH.cons rfl (fun K hK => ?_) AllReadyH.nil
    go_simp
    refine hK.out _ _ sd (fun hHeld => ?_)
    clear hK K
    refine wpAnyH_ready (rs := [18]) (by kernel_rfl) (by simp) ?_
    refine AllReadyH.cons rfl (fun K hK => ?_) AllReadyH.nil
    go_simp
    refine hK.out _ _ sd (fun hHeld => ?_)
    clear hK K
    refine wpAnyH_ready (rs := [19]) (by kernel_rfl) (by simp) ?_
    refine AllReadyH.cons rfl (fun K hK => ?_) AllReadyH.nil
    go_simp
    refine hK.out _ _ sd (fun hHeld => ?_)
    clear hK K
    refine wpAnyH_done (by kernel_rfl) ?_ _
    clear hHeld sd
    try simp only [Act.put, List.getElem_toArray, List.getElem_cons_zero, List.getElem_cons_succ, List.setIfInBounds_toArray, List.set_cons_zero, List.set_cons_succ]
    have hQD := HQ7.out.below HBD.out
    have ca := hQD.ca.2.2
    have ki := image_any bm wd hQD.kp.a.p.m (by decide)
    clear hQD
    go_wp2_with fail
    refine ki.mono ?_
    rintro e we ⟨rfl, hbe⟩
    have hBe := trBK HBD.out hbe HBD.out.size
    have hQe := HQ7.out.more hBe
    have HA := S.hid (S.own_kept HRA3.out fun i e hi => hbe.block i hi)
    have HO := S.hid (S.own_kept HRB3.out fun i e hi => hbe.block i hi)
    have HDP := S.hid (S.own_kept HRD.out fun i e hi => hbe.block i hi)
    have HQE := S.hid hQe
    have HBE := S.hid (bel2 HB7.out hBe)
    have hlo : ∀ k, w7.heap.size ≤ k → k < we.heap.size → (fun k => k = x0 ∨ (w7.heap.size ≤ k ∧ k < we.heap.size)) k := fun k h1 h2 => .inr ⟨h1, h2⟩
    have HLO := S.hid hlo
    have hrow := S.hid (((HQ7.out.below hBe).ke x0 rfl).trans HR4.out)
    clear ki hbe hBe hQe HRA3 HRB3 HRD HBD ca HQ7 HB7 HSP HBd hlo
    obtain ⟨f, hf⟩ : ∃ f, f = fl (n : Int) D R := ⟨_, rfl⟩
    obtain ⟨D2, hD2⟩ : ∃ D2, D2 = xD (n : Int) D R mB := ⟨_, rfl⟩
    obtain ⟨R2, hR2⟩ : ∃ R2, R2 = xR (n : Int) D R := ⟨_, rfl⟩
    obtain ⟨m3, hm3⟩ : ∃ m3, m3 = xM (n : Int) D R mB := ⟨_, rfl⟩
    obtain ⟨D3, hD3⟩ : ∃ D3, D3 = xD (n : Int) D R m2 := ⟨_, rfl⟩
    have HFX := S.hid (And.intro hf (And.intro hD2 (And.intro hR2 (And.intro hm3 hD3))))
    have hQe2 := HQE.out.below (bdr we)
    have kw := do_pd (n : Int) hp HD.out (by decide) hQe2.kp.a.p
    rw [← hf, ← hD2, ← hR2, ← hm3] at kw
    have s0 : (fun w' : World => w'.cell? ⟨g, 0, none⟩ = some (.pointer (some ⟨bd, 0, none⟩)) ∧ w'.cell? ⟨g, 1, none⟩ = some (.pointer (some ⟨br, 0, none⟩)) ∧ w'.cell? ⟨g, 2, none⟩ = some (.pointer (some ⟨bm, 0, none⟩))) we.drew := hQe2.ca
    have HQE2 := S.hid hQe2
    clear hf hD2 hR2 hm3 hD3 hQe2
    go_upto_region 15 with fail
    try simp only [Act.put, List.getElem_toArray, List.getElem_cons_zero, List.getElem_cons_succ, List.setIfInBounds_toArray, List.set_cons_zero, List.set_cons_succ]
    refine wp_region_held_drew (S := (fun w' : World => w'.cell? ⟨g, 0, none⟩ = some (.pointer (some ⟨bd, 0, none⟩)) ∧ w'.cell? ⟨g, 1, none⟩ = some (.pointer (some ⟨br, 0, none⟩)) ∧ w'.cell? ⟨g, 2, none⟩ = some (.pointer (some ⟨bm, 0, none⟩)))) (by kernel_rfl) s0 (fun hHeld => ?_)
    clear s0
    refine wpAnyH_take (i := 0) (v := ?_) rfl (by kernel_rfl) (by kernel_rfl) (by kernel_rfl) (fun c a w h => h) (Or.inl ⟨by rfl, ?_⟩) hHeld ?_
    rotate_left
    · (intro w hSw; (try dsimp only at hSw); go_simp; try with_reducible rfl)
    simp only [Act.put, List.getElem_toArray, List.getElem_cons_zero, List.getElem_cons_succ, List.setIfInBounds_toArray, List.set_cons_zero, List.set_cons_succ]
    refine wpAnyH_take (i := 1) (v := ?_) rfl (by kernel_rfl) (by kernel_rfl) (by kernel_rfl) (fun c a w h => h) (Or.inl ⟨by rfl, ?_⟩) hHeld ?_
    rotate_left
    · (intro w hSw; (try dsimp only at hSw); go_simp; try with_reducible rfl)
    simp only [Act.put, List.getElem_toArray, List.getElem_cons_zero, List.getElem_cons_succ, List.setIfInBounds_toArray, List.set_cons_zero, List.set_cons_succ]
    refine wpAnyH_take (i := 2) (v := ?_) rfl (by kernel_rfl) (by kernel_rfl) (by kernel_rfl) (fun c a w h => h) (Or.inl ⟨by rfl, ?_⟩) hHeld ?_
    rotate_left
    · (intro w hSw; (try dsimp only at hSw); go_simp; try with_reducible rfl)
    simp only [Act.put, List.getElem_toArray, List.getElem_cons_zero, List.getElem_cons_succ, List.setIfInBounds_toArray, List.set_cons_zero, List.set_cons_succ]
    refine wpAnyH_take (i := 3) (v := ?_) rfl (by kernel_rfl) (by kernel_rfl) (by kernel_rfl) (fun c a w h => h) (Or.inl ⟨by rfl, ?_⟩) hHeld ?_
    rotate_left
    · (intro w hSw; (try dsimp only at hSw); go_simp; try with_reducible rfl)
    simp only [Act.put, List.getElem_toArray, List.getElem_cons_zero, List.getElem_cons_succ, List.setIfInBounds_toArray, List.set_cons_zero, List.set_cons_succ]
    refine wpAnyH_take (i := 4) (v := ?_) rfl (by kernel_rfl) (by kernel_rfl) (by kernel_rfl) (fun c a w h => h) (Or.inl ⟨by rfl, ?_⟩) hHeld ?_
    rotate_left
    · (intro w hSw; (try dsimp only at hSw); go_simp; try with_reducible rfl)
    simp only [Act.put, List.getElem_toArray, List.getElem_cons_zero, List.getElem_cons_succ, List.setIfInBounds_toArray, List.set_cons_zero, List.set_cons_succ]
    refine wpAnyH_take (i := 5) (v := ?_) rfl (by kernel_rfl) (by kernel_rfl) (by kernel_rfl) (fun c a w h => h) (Or.inl ⟨by rfl, ?_⟩) hHeld ?_
    rotate_left
    · (intro w hSw; (try dsimp only at hSw); go_simp; try with_reducible rfl)
    simp only [Act.put, List.getElem_toArray, List.getElem_cons_zero, List.getElem_cons_succ, List.setIfInBounds_toArray, List.set_cons_zero, List.set_cons_succ]
    refine wpAnyH_take (i := 6) (v := ?_) rfl (by kernel_rfl) (by kernel_rfl) (by kernel_rfl) (fun c a w h => h) (Or.inl ⟨by rfl, ?_⟩) hHeld ?_
    rotate_left
    · (intro w hSw; (try dsimp only at hSw); go_simp; try with_reducible rfl)
    simp only [Act.put, List.getElem_toArray, List.getElem_cons_zero, List.getElem_cons_succ, List.setIfInBounds_toArray, List.set_cons_zero, List.set_cons_succ]
    refine wpAnyH_take (i := 7) (v := ?_) rfl (by kernel_rfl) (by kernel_rfl) (by kernel_rfl) (fun c a w h => h) (Or.inl ⟨by rfl, ?_⟩) hHeld ?_
    rotate_left
    · (intro w hSw; (try dsimp only at hSw); go_simp; try with_reducible rfl)
    simp only [Act.put, List.getElem_toArray, List.getElem_cons_zero, List.getElem_cons_succ, List.setIfInBounds_toArray, List.set_cons_zero, List.set_cons_succ]
    refine wpAnyH_take (i := 8) (v := ?_) rfl (by kernel_rfl) (by kernel_rfl) (by kernel_rfl) (fun c a w h => h) (Or.inl ⟨by rfl, ?_⟩) hHeld ?_
    rotate_left
    · (intro w hSw; (try dsimp only at hSw); go_simp; try with_reducible rfl)
    simp only [Act.put, List.getElem_toArray, List.getElem_cons_zero, List.getElem_cons_succ, List.setIfInBounds_toArray, List.set_cons_zero, List.set_cons_succ]
    refine wpAnyH_take (i := 9) (v := ?_) rfl (by kernel_rfl) (by kernel_rfl) (by kernel_rfl) (fun c a w h => h) (Or.inl ⟨by rfl, ?_⟩) hHeld ?_
    rotate_left
    · (intro w hSw; (try dsimp only at hSw); go_simp; try with_reducible rfl)
    simp only [Act.put, List.getElem_toArray, List.getElem_cons_zero, List.getElem_cons_succ, List.setIfInBounds_toArray, List.set_cons_zero, List.set_cons_succ]
    refine wpAnyH_take (i := 10) (v := ?_) rfl (by kernel_rfl) (by kernel_rfl) (by kernel_rfl) (fun c a w h => h) (Or.inl ⟨by rfl, ?_⟩) hHeld ?_
    rotate_left
    · (intro w hSw; (try dsimp only at hSw); go_simp; try with_reducible rfl)
    simp only [Act.put, List.getElem_toArray, List.getElem_cons_zero, List.getElem_cons_succ, List.setIfInBounds_toArray, List.set_cons_zero, List.set_cons_succ]
    refine wpAnyH_take (i := 11) (v := ?_) rfl (by kernel_rfl) (by kernel_rfl) (by kernel_rfl) (fun c a w h => h) (Or.inl ⟨by rfl, ?_⟩) hHeld ?_
    rotate_left
    · (intro w hSw; (try dsimp only at hSw); go_simp; try with_reducible rfl)
    simp only [Act.put, List.getElem_toArray, List.getElem_cons_zero, List.getElem_cons_succ, List.setIfInBounds_toArray, List.set_cons_zero, List.set_cons_succ]
    refine wpAnyH_take (i := 12) (v := ?_) rfl (by kernel_rfl) (by kernel_rfl) (by kernel_rfl) (fun c a w h => h) (Or.inl ⟨by rfl, ?_⟩) hHeld ?_
    rotate_left
    · (intro w hSw; (try dsimp only at hSw); go_simp; try with_reducible rfl)
    simp only [Act.put, List.getElem_toArray, List.getElem_cons_zero, List.getElem_cons_succ, List.setIfInBounds_toArray, List.set_cons_zero, List.set_cons_succ]
    refine wpAnyH_ready (rs := [13]) (by kernel_rfl) (by simp) ?_
    refine AllReadyH.cons rfl (fun K hK => ?_) AllReadyH.nil
    go_simp
    refine kw.mono ?_
    rintro e wf ⟨rfl, pd⟩
    have hQf := HQE2.out.left pd
    have hBf := pdB HQE2.out.kp.a HQE2.out.kp.hB pd
    have sf := hQf.ca
    have HQF := S.hid hQf
    have HBF := S.hid (HBE.out.trans ((bdr we).mono HBE.out.size) |>.trans (hBf.mono HBr.out.size))
    clear kw pd hQf hBf HQE2
    refine hK.out _ _ sf (fun hHeld => ?_)
    clear hK K
    try simp only [Act.put, List.getElem_toArray, List.getElem_cons_zero, List.getElem_cons_succ, List.setIfInBounds_toArray, List.set_cons_zero, List.set_cons_succ]
    refine wpAnyH_ready (rs := [14]) (by kernel_rfl) (by simp) ?_
    refine AllReadyH.cons rfl (fun K hK => ?_) AllReadyH.nil
    go_simp
    refine hK.out _ _ sf (fun hHeld => ?_)
    clear hK K
    refine wpAnyH_done (by kernel_rfl) ?_ _
    clear hHeld sf
    try simp only [Act.put, List.getElem_toArray, List.getElem_cons_zero, List.getElem_cons_succ, List.setIfInBounds_toArray, List.set_cons_zero, List.set_cons_succ]
    have hQf2 := HQF.out.below (bdr wf)
    have kv := do_pd (n : Int) hp HD.out (Nat.le_trans hm2 (by decide)) hQf2.kp.b.p
    rw [← HFX.out.1, ← HFX.out.2.2.1, ← HFX.out.2.2.2.2] at kv
    generalize xM (n : Int) D R m2 = m4 at kv
    have s0 : (fun w' : World => w'.cell? ⟨g', 0, none⟩ = some (.pointer (some ⟨bd', 0, none⟩)) ∧ w'.cell? ⟨g', 1, none⟩ = some (.pointer (some ⟨br', 0, none⟩)) ∧ w'.cell? ⟨g', 2, none⟩ = some (.pointer (some ⟨bm', 0, none⟩))) wf.drew := hQf2.cb
    have HQF2 := S.hid hQf2
    clear hQf2
    go_upto_region 16 with fail
    try simp only [Act.put, List.getElem_toArray, List.getElem_cons_zero, List.getElem_cons_succ, List.setIfInBounds_toArray, List.set_cons_zero, List.set_cons_succ]
    refine wp_region_held_drew (S := (fun w' : World => w'.cell? ⟨g', 0, none⟩ = some (.pointer (some ⟨bd', 0, none⟩)) ∧ w'.cell? ⟨g', 1, none⟩ = some (.pointer (some ⟨br', 0, none⟩)) ∧ w'.cell? ⟨g', 2, none⟩ = some (.pointer (some ⟨bm', 0, none⟩)))) (by kernel_rfl) s0 (fun hHeld => ?_)
    clear s0
    refine wpAnyH_take (i := 0) (v := ?_) rfl (by kernel_rfl) (by kernel_rfl) (by kernel_rfl) (fun c a w h => h) (Or.inl ⟨by rfl, ?_⟩) hHeld ?_
    rotate_left
    · (intro w hSw; (try dsimp only at hSw); go_simp; try with_reducible rfl)
    simp only [Act.put, List.getElem_toArray, List.getElem_cons_zero, List.getElem_cons_succ, List.setIfInBounds_toArray, List.set_cons_zero, List.set_cons_succ]
    refine wpAnyH_take (i := 1) (v := ?_) rfl (by kernel_rfl) (by kernel_rfl) (by kernel_rfl) (fun c a w h => h) (Or.inl ⟨by rfl, ?_⟩) hHeld ?_
    rotate_left
    · (intro w hSw; (try dsimp only at hSw); go_simp; try with_reducible rfl)
    simp only [Act.put, List.getElem_toArray, List.getElem_cons_zero, List.getElem_cons_succ, List.setIfInBounds_toArray, List.set_cons_zero, List.set_cons_succ]
    refine wpAnyH_take (i := 2) (v := ?_) rfl (by kernel_rfl) (by kernel_rfl) (by kernel_rfl) (fun c a w h => h) (Or.inl ⟨by rfl, ?_⟩) hHeld ?_
    rotate_left
    · (intro w hSw; (try dsimp only at hSw); go_simp; try with_reducible rfl)
    simp only [Act.put, List.getElem_toArray, List.getElem_cons_zero, List.getElem_cons_succ, List.setIfInBounds_toArray, List.set_cons_zero, List.set_cons_succ]
    refine wpAnyH_take (i := 3) (v := ?_) rfl (by kernel_rfl) (by kernel_rfl) (by kernel_rfl) (fun c a w h => h) (Or.inl ⟨by rfl, ?_⟩) hHeld ?_
    rotate_left
    · (intro w hSw; (try dsimp only at hSw); go_simp; try with_reducible rfl)
    simp only [Act.put, List.getElem_toArray, List.getElem_cons_zero, List.getElem_cons_succ, List.setIfInBounds_toArray, List.set_cons_zero, List.set_cons_succ]
    refine wpAnyH_take (i := 4) (v := ?_) rfl (by kernel_rfl) (by kernel_rfl) (by kernel_rfl) (fun c a w h => h) (Or.inl ⟨by rfl, ?_⟩) hHeld ?_
    rotate_left
    · (intro w hSw; (try dsimp only at hSw); go_simp; try with_reducible rfl)
    simp only [Act.put, List.getElem_toArray, List.getElem_cons_zero, List.getElem_cons_succ, List.setIfInBounds_toArray, List.set_cons_zero, List.set_cons_succ]
    refine wpAnyH_take (i := 5) (v := ?_) rfl (by kernel_rfl) (by kernel_rfl) (by kernel_rfl) (fun c a w h => h) (Or.inl ⟨by rfl, ?_⟩) hHeld ?_
    rotate_left
    · (intro w hSw; (try dsimp only at hSw); go_simp; try with_reducible rfl)
    simp only [Act.put, List.getElem_toArray, List.getElem_cons_zero, List.getElem_cons_succ, List.setIfInBounds_toArray, List.set_cons_zero, List.set_cons_succ]
    refine wpAnyH_take (i := 6) (v := ?_) rfl (by kernel_rfl) (by kernel_rfl) (by kernel_rfl) (fun c a w h => h) (Or.inl ⟨by rfl, ?_⟩) hHeld ?_
    rotate_left
    · (intro w hSw; (try dsimp only at hSw); go_simp; try with_reducible rfl)
    simp only [Act.put, List.getElem_toArray, List.getElem_cons_zero, List.getElem_cons_succ, List.setIfInBounds_toArray, List.set_cons_zero, List.set_cons_succ]
    refine wpAnyH_take (i := 7) (v := ?_) rfl (by kernel_rfl) (by kernel_rfl) (by kernel_rfl) (fun c a w h => h) (Or.inl ⟨by rfl, ?_⟩) hHeld ?_
    rotate_left
    · (intro w hSw; (try dsimp only at hSw); go_simp; try with_reducible rfl)
    simp only [Act.put, List.getElem_toArray, List.getElem_cons_zero, List.getElem_cons_succ, List.setIfInBounds_toArray, List.set_cons_zero, List.set_cons_succ]
    refine wpAnyH_take (i := 8) (v := ?_) rfl (by kernel_rfl) (by kernel_rfl) (by kernel_rfl) (fun c a w h => h) (Or.inl ⟨by rfl, ?_⟩) hHeld ?_
    rotate_left
    · (intro w hSw; (try dsimp only at hSw); go_simp; try with_reducible rfl)
    simp only [Act.put, List.getElem_toArray, List.getElem_cons_zero, List.getElem_cons_succ, List.setIfInBounds_toArray, List.set_cons_zero, List.set_cons_succ]
    refine wpAnyH_take (i := 9) (v := ?_) rfl (by kernel_rfl) (by kernel_rfl) (by kernel_rfl) (fun c a w h => h) (Or.inl ⟨by rfl, ?_⟩) hHeld ?_
    rotate_left
    · (intro w hSw; (try dsimp only at hSw); go_simp; try with_reducible rfl)
    simp only [Act.put, List.getElem_toArray, List.getElem_cons_zero, List.getElem_cons_succ, List.setIfInBounds_toArray, List.set_cons_zero, List.set_cons_succ]
    refine wpAnyH_take (i := 10) (v := ?_) rfl (by kernel_rfl) (by kernel_rfl) (by kernel_rfl) (fun c a w h => h) (Or.inl ⟨by rfl, ?_⟩) hHeld ?_
    rotate_left
    · (intro w hSw; (try dsimp only at hSw); go_simp; try with_reducible rfl)
    simp only [Act.put, List.getElem_toArray, List.getElem_cons_zero, List.getElem_cons_succ, List.setIfInBounds_toArray, List.set_cons_zero, List.set_cons_succ]
    refine wpAnyH_take (i := 11) (v := ?_) rfl (by kernel_rfl) (by kernel_rfl) (by kernel_rfl) (fun c a w h => h) (Or.inl ⟨by rfl, ?_⟩) hHeld ?_
    rotate_left
    · (intro w hSw; (try dsimp only at hSw); go_simp; try with_reducible rfl)
    simp only [Act.put, List.getElem_toArray, List.getElem_cons_zero, List.getElem_cons_succ, List.setIfInBounds_toArray, List.set_cons_zero, List.set_cons_succ]
    refine wpAnyH_take (i := 12) (v := ?_) rfl (by kernel_rfl) (by kernel_rfl) (by kernel_rfl) (fun c a w h => h) (Or.inl ⟨by rfl, ?_⟩) hHeld ?_
    rotate_left
    · (intro w hSw; (try dsimp only at hSw); go_simp; try with_reducible rfl)
    simp only [Act.put, List.getElem_toArray, List.getElem_cons_zero, List.getElem_cons_succ, List.setIfInBounds_toArray, List.set_cons_zero, List.set_cons_succ]
    refine wpAnyH_ready (rs := [13]) (by kernel_rfl) (by simp) ?_
    refine AllReadyH.cons rfl (fun K hK => ?_) AllReadyH.nil
    go_simp
    refine kv.mono ?_
    rintro e wg ⟨rfl, pd⟩
    have hQg := HQF2.out.right pd
    have hBg := pdB HQF2.out.kp.b HQF2.out.kp.hB pd
    have sg := hQg.cb
    have HQG := S.hid hQg
    have HBG := S.hid (HBF.out.trans ((bdr wf).mono HBF.out.size) |>.trans (hBg.mono HBr.out.size))
    clear kv pd hQg hBg HQF2
    refine hK.out _ _ sg (fun hHeld => ?_)
    clear hK K
    try simp only [Act.put, List.getElem_toArray, List.getElem_cons_zero, List.getElem_cons_succ, List.setIfInBounds_toArray, List.set_cons_zero, List.set_cons_succ]
    refine wpAnyH_ready (rs := [14]) (by kernel_rfl) (by simp) ?_
    refine AllReadyH.cons rfl (fun K hK => ?_) AllReadyH.nil
    go_simp
    refine hK.out _ _ sg (fun hHeld => ?_)
    clear hK K
    refine wpAnyH_done (by kernel_rfl) ?_ _
    clear hHeld sg
    try simp only [Act.put, List.getElem_toArray, List.getElem_cons_zero, List.getElem_cons_succ, List.setIfInBounds_toArray, List.set_cons_zero, List.set_cons_succ]
    have hQg2 := HQG.out.below (bdr wg)
    have kd := S.dcells bd D2 wg.drew hQg2.kp.a.p.d
    have hSG : ∀ W', Below wg.heap.size wg W' → (fun w' : World => w'.cell? ⟨g, 0, none⟩ = some (.pointer (some ⟨bd, 0, none⟩)) ∧ w'.cell? ⟨g, 1, none⟩ = some (.pointer (some ⟨br, 0, none⟩)) ∧ w'.cell? ⟨g, 2, none⟩ = some (.pointer (some ⟨bm, 0, none⟩))) W' := fun W' k => (HQG.out.below k).ca
    have HSG := S.hid hSG
    have s0 := hSG _ (bdr wg)
    have HBd := S.hid (bdr wg)
    clear hSG hQg2
    go_upto_region 17 with fail
    try simp only [Act.put, List.getElem_toArray, List.getElem_cons_zero, List.getElem_cons_succ, List.setIfInBounds_toArray, List.set_cons_zero, List.set_cons_succ]
    refine wp_region_held_drew (S := (fun w' : World => w'.cell? ⟨g, 0, none⟩ = some (.pointer (some ⟨bd, 0, none⟩)) ∧ w'.cell? ⟨g, 1, none⟩ = some (.pointer (some ⟨br, 0, none⟩)) ∧ w'.cell? ⟨g, 2, none⟩ = some (.pointer (some ⟨bm, 0, none⟩)))) (by kernel_rfl) s0 (fun hHeld => ?_)
    clear s0
    refine wpAnyH_take (i := 0) (v := ?_) rfl (by kernel_rfl) (by kernel_rfl) (by kernel_rfl) (fun c a w h => h) (Or.inl ⟨by rfl, ?_⟩) hHeld ?_
    rotate_left
    · (intro w hSw; (try dsimp only at hSw); go_simp; try with_reducible rfl)
    simp only [Act.put, List.getElem_toArray, List.getElem_cons_zero, List.getElem_cons_succ, List.setIfInBounds_toArray, List.set_cons_zero, List.set_cons_succ]
    refine wpAnyH_take (i := 1) (v := ?_) rfl (by kernel_rfl) (by kernel_rfl) (by kernel_rfl) (fun c a w h => h) (Or.inl ⟨by rfl, ?_⟩) hHeld ?_
    rotate_left
    · (intro w hSw; (try dsimp only at hSw); go_simp; try with_reducible rfl)
    simp only [Act.put, List.getElem_toArray, List.getElem_cons_zero, List.getElem_cons_succ, List.setIfInBounds_toArray, List.set_cons_zero, List.set_cons_succ]
    refine wpAnyH_take (i := 2) (v := ?_) rfl (by kernel_rfl) (by kernel_rfl) (by kernel_rfl) (fun c a w h => h) (Or.inl ⟨by rfl, ?_⟩) hHeld ?_
    rotate_left
    · (intro w hSw; (try dsimp only at hSw); go_simp; try with_reducible rfl)
    simp only [Act.put, List.getElem_toArray, List.getElem_cons_zero, List.getElem_cons_succ, List.setIfInBounds_toArray, List.set_cons_zero, List.set_cons_succ]
    refine wpAnyH_take (i := 3) (v := ?_) rfl (by kernel_rfl) (by kernel_rfl) (by kernel_rfl) (fun c a w h => h) (Or.inl ⟨by rfl, ?_⟩) hHeld ?_
    rotate_left
    · (intro w hSw; (try dsimp only at hSw); go_simp; try with_reducible rfl)
    simp only [Act.put, List.getElem_toArray, List.getElem_cons_zero, List.getElem_cons_succ, List.setIfInBounds_toArray, List.set_cons_zero, List.set_cons_succ]
    refine wpAnyH_take (i := 5) (v := ?_) rfl (by kernel_rfl) (by kernel_rfl) (by kernel_rfl) (fun c a w h => h) (Or.inl ⟨by rfl, ?_⟩) hHeld ?_
    rotate_left
    · (intro w hSw; (try dsimp only at hSw); go_simp; try with_reducible rfl)
    simp only [Act.put, List.getElem_toArray, List.getElem_cons_zero, List.getElem_cons_succ, List.setIfInBounds_toArray, List.set_cons_zero, List.set_cons_succ]
    refine wpAnyH_take (i := 6) (v := ?_) rfl (by kernel_rfl) (by kernel_rfl) (by kernel_rfl) (fun c a w h => h) (Or.inl ⟨by rfl, ?_⟩) hHeld ?_
    rotate_left
    · (intro w hSw; (try dsimp only at hSw); go_simp; try with_reducible rfl)
    simp only [Act.put, List.getElem_toArray, List.getElem_cons_zero, List.getElem_cons_succ, List.setIfInBounds_toArray, List.set_cons_zero, List.set_cons_succ]
    refine wpAnyH_take (i := 7) (v := ?_) rfl (by kernel_rfl) (by kernel_rfl) (by kernel_rfl) (fun c a w h => h) (Or.inl ⟨by rfl, ?_⟩) hHeld ?_
    rotate_left
    · (intro w hSw; (try dsimp only at hSw); go_simp; try with_reducible rfl)
    simp only [Act.put, List.getElem_toArray, List.getElem_cons_zero, List.getElem_cons_succ, List.setIfInBounds_toArray, List.set_cons_zero, List.set_cons_succ]
    refine wpAnyH_take (i := 8) (v := ?_) rfl (by kernel_rfl) (by kernel_rfl) (by kernel_rfl) (fun c a w h => h) (Or.inl ⟨by rfl, ?_⟩) hHeld ?_
    rotate_left
    · (intro w hSw; (try dsimp only at hSw); go_simp; try with_reducible rfl)
    simp only [Act.put, List.getElem_toArray, List.getElem_cons_zero, List.getElem_cons_succ, List.setIfInBounds_toArray, List.set_cons_zero, List.set_cons_succ]
    refine wpAnyH_ready (rs := [4]) (by kernel_rfl) (by simp) ?_
    refine AllReadyH.cons rfl (fun K hK => ?_) AllReadyH.nil
    go_simp
    refine kd.mono ?_
    rintro e wh ⟨uh, rfl, rh, hbh⟩
    obtain ⟨n1, nc1, rfl⟩ := own_formK rh
    have hBh := trBK HBd.out hbh HBd.out.size
    have kr := S.rcells br R2 wh (HQG.out.below hBh).kp.a.p.r
    have sh := HSG.out wh hBh
    have HBh := S.hid hBh
    have HNW := S.hid (show S.RowU wh wg.heap.size (.slice n1 D2.length nc1) D2 from rh)
    clear kd rh hbh hBh HBd
    refine hK.out _ _ sh (fun hHeld => ?_)
    clear hK K
    refine wpAnyH_ready (rs := [9]) (by kernel_rfl) (by simp) ?_
    refine AllReadyH.cons rfl (fun K hK => ?_) AllReadyH.nil
    go_simp
    refine kr.mono ?_
    rintro e wi ⟨ui, rfl, ri_, hbi⟩
    obtain ⟨c1, cc1, rfl⟩ := own_formK ri_
    have hBi := trBK HBh.out hbi HBh.out.size
    have si := HSG.out wi hBi
    have HBI := S.hid hBi
    have HNW2 := S.hid (S.own_kept HNW.out fun i e hi => hbi.block i hi)
    have HCE := S.hid (show S.RowK wi wh.heap.size (.slice c1 R2.length cc1) R2 from ri_)
    clear kr ri_ hbi hBi sh HBh HNW
    refine hK.out _ _ si (fun hHeld => ?_)
    clear hK K
    try simp only [Act.put, List.getElem_toArray, List.getElem_cons_zero, List.getElem_cons_succ, List.setIfInBounds_toArray, List.set_cons_zero, List.set_cons_succ]
    refine wpAnyH_ready (rs := [10]) (by kernel_rfl) (by simp) ?_
    refine AllReadyH.cons rfl (fun K hK => ?_) AllReadyH.nil
    go_simp
    refine hK.out _ _ si (fun hHeld => ?_)
    clear hK K
    refine wpAnyH_ready (rs := [11]) (by kernel_rfl) (by simp) ?_
    refine AllReadyH.cons rfl (fun K hK => ?_) AllReadyH.nil
    go_simp
    refine hK.out _ _ si (fun hHeld => ?_)
    clear hK K
    refine wpAnyH_done (by kernel_rfl) ?_ _
    clear hHeld si
    try simp only [Act.put, List.getElem_toArray, List.getElem_cons_zero, List.getElem_cons_succ, List.setIfInBounds_toArray, List.set_cons_zero, List.set_cons_succ]
    have hQi := HQG.out.below HBI.out
    have ca := hQi.ca.2.2
    have ki := image_any bm wi hQi.kp.a.p.m (by rw [HFX.out.2.2.2.1]; exact xM_tones _ _ _)
    clear hQi
    go_wp2_with fail
    refine ki.mono ?_
    rintro e wk ⟨rfl, hbk⟩
    have hBk := trBK HBI.out hbk HBI.out.size
    have hQk := HQG.out.below hBk
    have hAk := hQk.row HLO.out HA.out
    have hOk := hQk.row HLO.out HO.out
    have hPk := hQk.row HLO.out HDP.out
    have hNk : S.RowU wk wg.heap.size (.slice n1 D2.length nc1) D2 := S.own_kept HNW2.out fun i e hi => hbk.block i hi
    have hCk : S.RowK wk wh.heap.size (.slice c1 R2.length cc1) R2 := S.own_kept HCE.out fun i e hi => hbk.block i hi
    have hRk : wk.heap[x0]? = _ := (hQk.ke x0 (.inl rfl)).trans hrow.out
    have HAK := S.hid hAk
    have HOK := S.hid hOk
    have HPK := S.hid hPk
    have HNK := S.hid hNk
    have HCK := S.hid hCk
    have HRK := S.hid hRk
    have HQK := S.hid hQk
    have HBK := S.hid (bel2 HBG.out hBk)
    clear ki hbk hBk hQk hAk hOk hPk hNk hCk hRk ca HA HO HDP HNW2 HCE HBI HSG hrow HQG HQE HQF HLO HBE HBF HBG
    by_cases hf0 : f = 0
    case neg =>
      as_aux_lemma =>
        have eD : D = D2 := by have := HFX.out.2.1; unfold xD at this; rw [if_neg (fun h => hf0 (HFX.out.1.trans h))] at this; exact this.symm
        have eR : R = R2 := by have := HFX.out.2.2.1; unfold xR at this; rw [if_neg (fun h => hf0 (HFX.out.1.trans h))] at this; exact this.symm
        have eM : mB = m3 := by have := HFX.out.2.2.2.1; unfold xM at this; rw [if_neg (fun h => hf0 (HFX.out.1.trans h))] at this; exact this.symm
        subst eD eR eM
        have f1 : (f != 0) = true := by simpa using hf0
        have f2 : (f != f) = false := by simp
        have k1 := sameL n1 a1 nc1 ac1 D (by unfold S.room; omega) wk (slUK HNK.out) (slUK HAK.out)
        have k2 := fun q => sameRet c1 b1 cc1 bc1 R R R.length (Nat.le_refl _) (Nat.le_refl _) (by omega) (fun _ _ => rfl) (wk.drewN q) (slKK HCK.out) (slKK HOK.out)
        clear HNK HAK HCK HOK HPK HRK HQK HFX HTX HRI HD HBr
        go_wp2_with fail
        refine k1.mono ?_
        rintro e wl ⟨rfl, q, rfl⟩
        go_wp2_with fail
        refine (k2 q).mono ?_
        rintro e wz ⟨rfl, q2, hwz⟩
        have HBE := S.hid (show Below w.heap.size w wz by rw [hwz]; exact bel2 (bel2 HBK.out (bdN _ q)) (bdN _ q2))
        clear k1 k2 HBK hwz
        go_wp2
        go_roundw
        case rel =>
          first
            | exact ⟨n + 1, by omega, by omega, (by first | rfl | rw [w1']), HBE.out⟩
            | ((repeat apply Exists.intro); refine ⟨⟨n + 1, by omega, by omega, ?_, HBE.out⟩, rfl⟩; first | rfl | rw [w1'])
        case measure => exact msrK 64 _ _ n (by first | rfl | rw [w1']) rfl hn
    subst hf0
    have hfl : fl (n : Int) D R = 0 := HFX.out.1.symm
    have eD : D2 = nD (n : Int) D R mB := by have := HFX.out.2.1; unfold xD at this; rwa [if_pos hfl] at this
    have eR : R2 = nR (n : Int) D R := by have := HFX.out.2.2.1; unfold xR at this; rwa [if_pos hfl] at this
    have eM : m3 = nM (n : Int) D mB := by have := HFX.out.2.2.2.1; unfold xM at this; rwa [if_pos hfl] at this
    have eE : D3 = nD (n : Int) D R m2 := by have := HFX.out.2.2.2.2; unfold xD at this; rwa [if_pos hfl] at this
    have HEQ := S.hid (And.intro hfl (And.intro eD (And.intro eR (And.intro eM eE))))
    clear hfl eD eR eM eE HFX
    go_upto_region 19 with fail
    try simp only [Act.put, List.getElem_toArray, List.getElem_cons_zero, List.getElem_cons_succ, List.setIfInBounds_toArray, List.set_cons_zero, List.set_cons_succ]
    go_cut [149] (fun sx wc => sx = .bool false ∧ wk = wc)
    case first =>
      as_aux_lemma =>
        have kw := writes_any (n : Int) wk
        by_cases hw : wrB (n : Int) = true
        · rw [hw] at kw
          clear HNK HAK HCK HOK HPK HRK HQK HTX HRI HD HBr HEQ HBK
          go_wp2_with fail
          refine kw.mono ?_
          rintro e wx ⟨rfl, rfl⟩
          go_wp2
          go_meet
          case rel => exact ⟨rfl, rfl⟩
        · have hw' : wrB (n : Int) = false := by simpa using hw
          rw [hw'] at kw
          have em : mB = m3 := (HEQ.out.2.2.2.1.trans (nM_same (n : Int) hw' D mB)).symm
          subst em
          clear HNK HAK HCK HOK HPK HRK HQK HTX HRI HD HBr HEQ HBK
          generalize imS mB = st at *
          go_wp2_with fail
          refine kw.mono ?_
          rintro e wx ⟨rfl, rfl⟩
          go_wp2
          go_meet
          case rel => exact ⟨rfl, rfl⟩
    case rest =>
      obtain ⟨rfl, rfl⟩ := hcut
      go_upto_region 24 with fail
      try simp only [Act.put, List.getElem_toArray, List.getElem_cons_zero, List.getElem_cons_succ, List.setIfInBounds_toArray, List.set_cons_zero, List.set_cons_succ]
      go_cut [211] (fun sx wc => sx = .bool false ∧ Below wk.heap.size wk wc)
      case first =>
        as_aux_lemma =>
          have hfl := HEQ.out.1
          have hnl : (D2.length : Int) = (D.length : Int) + ((rw_ (n : Int)).o : Int) - ((rw_ (n : Int)).i : Int) := by rw [HEQ.out.2.1]; exact nD_len (n : Int) hp D R mB hfl
          have hrl : (R2.length : Int) = (R.length : Int) + rtN (n : Int) := by rw [HEQ.out.2.2.1]; exact (nR_all (n : Int) hp D R hfl).1
          have h256 := (flt0 hfl).2.1
          have h128 : rtN (n : Int) ≤ 2 := by unfold rtN; split <;> (try split) <;> (try split) <;> omega
          have hi10 := i_le n hp
          have x2 := S.cell_of wk x0 2 [.int .i64 (n : Int), .string (nm n), .int .i64 (ri n), .int .i64 (ro n), .int .i64 (rc n), .bool (rb n)] _ _ HRK.out rfl
          have x3 := S.cell_of wk x0 3 [.int .i64 (n : Int), .string (nm n), .int .i64 (ri n), .int .i64 (ro n), .int .i64 (rc n), .bool (rb n)] _ _ HRK.out rfl
          rw [HRI.out.1] at x2
          rw [HRI.out.2] at x3
          have HY := S.hid <| a_2 D.length (rw_ (n : Int)).o (rw_ (n : Int)).i D2.length hnl hDl (by omega) (by omega)
          have HZ := S.hid <| a_3 R.length R2.length (rtN (n : Int)) hrl (by omega)
          have kt := returned_any (n : Int) wk
          have hpre : ∀ j, j < R.length → j < R2.length → R2[j]? = R[j]? := fun j h1 h2 => by rw [HEQ.out.2.2.1] at h2 ⊢; exact nR_pre (n : Int) hp D R hfl j h1 h2
          obtain ⟨px, cx, ex, hcap, _⟩ := HNK.out.ls.ex
          cases ex
          have hsl := fun q => slice_toU (wk.drewN q) n1 D2.length nc1 T.length (by have := HTX.out.2; omega)
          have t1 : S.Sl S.eU 1 wk n1 T := slPre (slUK HNK.out) (fun j hj => by rw [HEQ.out.2.1, HTX.out.1]; exact nD_preT (n : Int) D R mB j (by rw [HTX.out.2]; exact hj)) rfl
          have t2 : S.Sl S.eU 1 wk d1 T := slPre (slUK HPK.out) (fun j hj => by rw [HTX.out.1]; exact List.getElem?_take_of_lt (by rw [HTX.out.2]; exact hj)) rfl
          have k3 := fun q => sameL n1 d1 nc1 dc1 T (by unfold S.room; have := HTX.out.2; omega) (wk.drewN q) t1 t2
          generalize rtN (n : Int) = tt at *
          generalize (rw_ (n : Int)).o = oo at *
          generalize (rw_ (n : Int)).i = ii at *
          have hR2 : R2.length ≤ 1000 := by omega
          have HC := S.hid (slKK HCK.out)
          have HO := S.hid (slKK HOK.out)
          have HPRE := S.hid hpre
          clear HNK HAK HCK HOK HPK HRK HQK HTX HRI HD HBr HEQ HBK hpre t1 t2 hfl hnl hrl h256 h128 hi10 hcap
          by_cases hm : R2.length < R.length
          · have g1 : decide ((R2.length : Int) < (R.length : Int)) = true := decide_eq_true (Int.ofNat_lt.mpr hm)
            have g2 : decide ((R.length : Int) < (R2.length : Int)) = false := decide_eq_false (by omega)
            have k2 := sameRet c1 b1 cc1 bc1 R2 R R2.length (Nat.le_refl _) (Nat.le_of_lt hm) hR2 (fun j hj => HPRE.out j (Nat.lt_trans hj hm) hj) wk HC.out HO.out
            clear HC HO HPRE
            obtain ⟨y1, y2, y3, y4⟩ := HY.out
            obtain ⟨z1, z2⟩ := HZ.out
            clear HY HZ
            go_wp2_with fail
            refine kt.mono ?_
            rintro e wx ⟨rfl, rfl⟩
            go_wp2_with fail
            refine k2.mono ?_
            rintro e wx ⟨rfl, q, rfl⟩
            go_wp2_with fail
            refine (k3 q).mono ?_
            rintro e wz ⟨rfl, q2, hwz⟩
            have HBE := S.hid (show Below _ _ wz by rw [hwz]; exact bel2 (bdN _ q) (bdN _ q2))
            clear kt k2 k3 hsl hwz
            go_wp2
            go_meet
            case rel => exact ⟨rfl, HBE.out⟩
          · have g1 : decide ((R2.length : Int) < (R.length : Int)) = false := decide_eq_false (by omega)
            have k2 := sameRet c1 b1 cc1 bc1 R2 R R.length (by omega) (Nat.le_refl _) (by omega) (fun j hj => HPRE.out j hj (by omega)) wk HC.out HO.out
            clear HC HO HPRE
            obtain ⟨y1, y2, y3, y4⟩ := HY.out
            obtain ⟨z1, z2⟩ := HZ.out
            clear HY HZ
            go_wp2_with fail
            refine kt.mono ?_
            rintro e wx ⟨rfl, rfl⟩
            go_wp2_with fail
            refine k2.mono ?_
            rintro e wx ⟨rfl, q, rfl⟩
            go_wp2_with fail
            refine (k3 q).mono ?_
            rintro e wz ⟨rfl, q2, hwz⟩
            have HBE := S.hid (show Below _ _ wz by rw [hwz]; exact bel2 (bdN _ q) (bdN _ q2))
            clear kt k2 k3 hsl hwz
            go_wp2
            go_meet
            case rel => exact ⟨rfl, HBE.out⟩
      case rest =>
        obtain ⟨rfl, hbc⟩ := hcut
        have kr := reads_any (n : Int) wc
        have HBC := S.hid (bel2 HBK.out hbc)
        have hBC := S.hid hbc
        clear hbc
        by_cases hw : rdB (n : Int) = true
        case pos =>
          as_aux_lemma =>
            rw [hw] at kr
            clear HNK HAK HCK HOK HPK HRK HQK HTX HRI HD HBr HEQ HBK hBC
            go_wp2_with fail
            refine kr.mono ?_
            rintro e wx ⟨rfl, rfl⟩
            clear kr
            go_wp2
            go_roundw
            case rel =>
              first
                | exact ⟨n + 1, by omega, by omega, (by first | rfl | rw [w1']), HBC.out⟩
                | ((repeat apply Exists.intro); refine ⟨⟨n + 1, by omega, by omega, ?_, HBC.out⟩, rfl⟩; first | rfl | rw [w1'])
            case measure => exact msrK 64 _ _ n (by first | rfl | rw [w1']) rfl hn
        have hw' : rdB (n : Int) = false := by simpa using hw
        rw [hw'] at kr
        have eE : D2 = D3 := by rw [HEQ.out.2.1, HEQ.out.2.2.2.2]; exact nD_mem (n : Int) hp hw' D R mB m2
        subst eE
        have hnl : (D2.length : Int) = (D.length : Int) + ((rw_ (n : Int)).o : Int) - ((rw_ (n : Int)).i : Int) := by rw [HEQ.out.2.1]; exact nD_len (n : Int) hp D R mB HEQ.out.1
        have hrl : (R2.length : Int) = (R.length : Int) + rtN (n : Int) := by rw [HEQ.out.2.2.1]; exact (nR_all (n : Int) hp D R HEQ.out.1).1
        have h256 := (flt0 HEQ.out.1).2.1
        have h128 : rtN (n : Int) ≤ 2 := by unfold rtN; split <;> (try split) <;> (try split) <;> omega
        have hDl2 : D2.length ≤ 1000 := by omega
        have hRl2 : R2.length ≤ 1000 := by omega
        clear hnl hrl h256 h128
        have hNc := S.own_kept HNK.out fun i e hi => hBC.out.block i hi
        have hCc := S.own_kept HCK.out fun i e hi => hBC.out.block i hi
        have HNC := S.hid (show S.RowU wc _ (.slice n1 D2.length nc1) D2 from hNc)
        have HCC := S.hid (show S.RowK wc _ (.slice c1 R2.length cc1) R2 from hCc)
        have HQC := S.hid (HQK.out.below hBC.out)
        clear HNK HAK HCK HOK HPK HRK HQK HTX HRI HEQ HBK hBC hNc hCc
        go_wp2_with fail
        refine kr.mono ?_
        rintro e wx ⟨rfl, hwx⟩
        subst hwx
        clear kr
        have hQc := HQC.out.below (bdr wx)
        have kd := S.dcells bd' D2 wx.drew hQc.kp.b.p.d
        have hSC : ∀ W', Below wx.heap.size wx W' → (fun w' : World => w'.cell? ⟨g', 0, none⟩ = some (.pointer (some ⟨bd', 0, none⟩)) ∧ w'.cell? ⟨g', 1, none⟩ = some (.pointer (some ⟨br', 0, none⟩)) ∧ w'.cell? ⟨g', 2, none⟩ = some (.pointer (some ⟨bm', 0, none⟩))) W' := fun W' k => (HQC.out.below k).cb
        have HSC := S.hid hSC
        have s0 := hSC _ (bdr wx)
        have HBd := S.hid (bdr wx)
        clear hSC hQc
        go_upto_region 27 with fail
        try simp only [Act.put, List.getElem_toArray, List.getElem_cons_zero, List.getElem_cons_succ, List.setIfInBounds_toArray, List.set_cons_zero, List.set_cons_succ]
        refine wp_region_held_drew (S := (fun w' : World => w'.cell? ⟨g', 0, none⟩ = some (.pointer (some ⟨bd', 0, none⟩)) ∧ w'.cell? ⟨g', 1, none⟩ = some (.pointer (some ⟨br', 0, none⟩)) ∧ w'.cell? ⟨g', 2, none⟩ = some (.pointer (some ⟨bm', 0, none⟩)))) (by kernel_rfl) s0 (fun hHeld => ?_)
        clear s0
        refine wpAnyH_take (i := 0) (v := ?_) rfl (by kernel_rfl) (by kernel_rfl) (by kernel_rfl) (fun c a w h => h) (Or.inl ⟨by rfl, ?_⟩) hHeld ?_
        rotate_left
        · (intro w hSw; (try dsimp only at hSw); go_simp; try with_reducible rfl)
        simp only [Act.put, List.getElem_toArray, List.getElem_cons_zero, List.getElem_cons_succ, List.setIfInBounds_toArray, List.set_cons_zero, List.set_cons_succ]
        refine wpAnyH_take (i := 1) (v := ?_) rfl (by kernel_rfl) (by kernel_rfl) (by kernel_rfl) (fun c a w h => h) (Or.inl ⟨by rfl, ?_⟩) hHeld ?_
        rotate_left
        · (intro w hSw; (try dsimp only at hSw); go_simp; try with_reducible rfl)
        simp only [Act.put, List.getElem_toArray, List.getElem_cons_zero, List.getElem_cons_succ, List.setIfInBounds_toArray, List.set_cons_zero, List.set_cons_succ]
        refine wpAnyH_take (i := 2) (v := ?_) rfl (by kernel_rfl) (by kernel_rfl) (by kernel_rfl) (fun c a w h => h) (Or.inl ⟨by rfl, ?_⟩) hHeld ?_
        rotate_left
        · (intro w hSw; (try dsimp only at hSw); go_simp; try with_reducible rfl)
        simp only [Act.put, List.getElem_toArray, List.getElem_cons_zero, List.getElem_cons_succ, List.setIfInBounds_toArray, List.set_cons_zero, List.set_cons_succ]
        refine wpAnyH_take (i := 3) (v := ?_) rfl (by kernel_rfl) (by kernel_rfl) (by kernel_rfl) (fun c a w h => h) (Or.inl ⟨by rfl, ?_⟩) hHeld ?_
        rotate_left
        · (intro w hSw; (try dsimp only at hSw); go_simp; try with_reducible rfl)
        simp only [Act.put, List.getElem_toArray, List.getElem_cons_zero, List.getElem_cons_succ, List.setIfInBounds_toArray, List.set_cons_zero, List.set_cons_succ]
        refine wpAnyH_take (i := 5) (v := ?_) rfl (by kernel_rfl) (by kernel_rfl) (by kernel_rfl) (fun c a w h => h) (Or.inl ⟨by rfl, ?_⟩) hHeld ?_
        rotate_left
        · (intro w hSw; (try dsimp only at hSw); go_simp; try with_reducible rfl)
        simp only [Act.put, List.getElem_toArray, List.getElem_cons_zero, List.getElem_cons_succ, List.setIfInBounds_toArray, List.set_cons_zero, List.set_cons_succ]
        refine wpAnyH_take (i := 6) (v := ?_) rfl (by kernel_rfl) (by kernel_rfl) (by kernel_rfl) (fun c a w h => h) (Or.inl ⟨by rfl, ?_⟩) hHeld ?_
        rotate_left
        · (intro w hSw; (try dsimp only at hSw); go_simp; try with_reducible rfl)
        simp only [Act.put, List.getElem_toArray, List.getElem_cons_zero, List.getElem_cons_succ, List.setIfInBounds_toArray, List.set_cons_zero, List.set_cons_succ]
        refine wpAnyH_take (i := 7) (v := ?_) rfl (by kernel_rfl) (by kernel_rfl) (by kernel_rfl) (fun c a w h => h) (Or.inl ⟨by rfl, ?_⟩) hHeld ?_
        rotate_left
        · (intro w hSw; (try dsimp only at hSw); go_simp; try with_reducible rfl)
        simp only [Act.put, List.getElem_toArray, List.getElem_cons_zero, List.getElem_cons_succ, List.setIfInBounds_toArray, List.set_cons_zero, List.set_cons_succ]
        refine wpAnyH_take (i := 8) (v := ?_) rfl (by kernel_rfl) (by kernel_rfl) (by kernel_rfl) (fun c a w h => h) (Or.inl ⟨by rfl, ?_⟩) hHeld ?_
        rotate_left
        · (intro w hSw; (try dsimp only at hSw); go_simp; try with_reducible rfl)
        simp only [Act.put, List.getElem_toArray, List.getElem_cons_zero, List.getElem_cons_succ, List.setIfInBounds_toArray, List.set_cons_zero, List.set_cons_succ]
        refine wpAnyH_ready (rs := [4]) (by kernel_rfl) (by simp) ?_
        refine AllReadyH.cons rfl (fun K hK => ?_) AllReadyH.nil
        go_simp
        refine kd.mono ?_
        rintro e wo ⟨uo, rfl, ro_, hbo⟩
        obtain ⟨o1, oc1, rfl⟩ := own_formK ro_
        have hBo := trBK HBd.out hbo HBd.out.size
        have kr := S.rcells br' R2 wo (HQC.out.below hBo).kp.b.p.r
        have so := HSC.out wo hBo
        have HBo := S.hid hBo
        have HOT := S.hid (show S.RowU wo wx.heap.size (.slice o1 D2.length oc1) D2 from ro_)
        clear kd ro_ hbo hBo HBd
        refine hK.out _ _ so (fun hHeld => ?_)
        clear hK K
        refine wpAnyH_ready (rs := [9]) (by kernel_rfl) (by simp) ?_
        refine AllReadyH.cons rfl (fun K hK => ?_) AllReadyH.nil
        go_simp
        refine kr.mono ?_
        rintro e wp ⟨up, rfl, rp_, hbp⟩
        obtain ⟨q1, qc1, rfl⟩ := own_formK rp_
        have hBp := trBK HBo.out hbp HBo.out.size
        have sp := HSC.out wp hBp
        have HBP := S.hid hBp
        have HOT2 := S.hid (S.own_kept HOT.out fun i e hi => hbp.block i hi)
        have HQT := S.hid (show S.RowK wp wo.heap.size (.slice q1 R2.length qc1) R2 from rp_)
        clear kr rp_ hbp hBp so HBo HOT
        refine hK.out _ _ sp (fun hHeld => ?_)
        clear hK K
        try simp only [Act.put, List.getElem_toArray, List.getElem_cons_zero, List.getElem_cons_succ, List.setIfInBounds_toArray, List.set_cons_zero, List.set_cons_succ]
        refine wpAnyH_ready (rs := [10]) (by kernel_rfl) (by simp) ?_
        refine AllReadyH.cons rfl (fun K hK => ?_) AllReadyH.nil
        go_simp
        refine hK.out _ _ sp (fun hHeld => ?_)
        clear hK K
        refine wpAnyH_ready (rs := [11]) (by kernel_rfl) (by simp) ?_
        refine AllReadyH.cons rfl (fun K hK => ?_) AllReadyH.nil
        go_simp
        refine hK.out _ _ sp (fun hHeld => ?_)
        clear hK K
        refine wpAnyH_done (by kernel_rfl) ?_ _
        clear hHeld sp
        try simp only [Act.put, List.getElem_toArray, List.getElem_cons_zero, List.getElem_cons_succ, List.setIfInBounds_toArray, List.set_cons_zero, List.set_cons_succ]
        have hNp := S.own_kept HNC.out fun i e hi => HBP.out.block i hi
        have hCp := S.own_kept HCC.out fun i e hi => HBP.out.block i hi
        have k1 := sameL n1 o1 nc1 oc1 D2 (by unfold S.room; omega) wp (slUK hNp) (slUK (show S.RowU wp wx.heap.size (.slice o1 D2.length oc1) D2 from HOT2.out))
        have k2 := fun q => sameRet c1 q1 cc1 qc1 R2 R2 R2.length (Nat.le_refl _) (Nat.le_refl _) hRl2 (fun _ _ => rfl) (wp.drewN q) (slKK hCp) (slKK HQT.out)
        have HBE := S.hid (bel2 HBC.out HBP.out)
        clear hNp hCp HOT2 HQT HBC HBP HNC HCC HQC HSC HD HBr
        go_wp2_with fail
        refine k1.mono ?_
        rintro e wl ⟨rfl, q, rfl⟩
        go_wp2_with fail
        refine (k2 q).mono ?_
        rintro e wz ⟨rfl, q2, hwz⟩
        have HBF := S.hid (show Below w.heap.size w wz by rw [hwz]; exact bel2 (bel2 HBE.out (bdN _ q)) (bdN _ q2))
        clear k1 k2 HBE hwz
        go_wp2
        go_roundw
        case rel =>
          first
            | exact ⟨n + 1, by omega, by omega, (by first | rfl | rw [w1']), HBF.out⟩
            | ((repeat apply Exists.intro); refine ⟨⟨n + 1, by omega, by omega, ?_, HBF.out⟩, rfl⟩; first | rfl | rw [w1'])
        case measure => exact msrK 64 _ _ n (by first | rfl | rw [w1']) rfl hn
end Go.Proofs.YtgponcjjnjpfkaaGreat.L
/-! What arguments give a walk: lists of cells. -/
namespace Go.Proofs.YtgponcjjnjpfkaaGreat.L
open Go.RowKit Go.ChangeShapes Go.WideShapes Go.ChangeAt
open Go.Proofs
set_option linter.unusedVariables false
set_option linter.unusedSimpArgs false
theorem add_none {a : Addr} {W : World} {v : Value} (h : W.cell? (a.add 0) = some v) : a.spot = none := by
  have := World.cell?_spot h
  simpa [Addr.add] using this
theorem add_at (b o k : Nat) : (⟨b, o, none⟩ : Addr).add k = ⟨b, o + k, none⟩ := Addr.add_lit _ _ _
theorem wf_C {x : Int} (h : (Lit.int .u16 x).wf = true) : C.C x := by
  have := bounds_u16 h
  unfold C.C; omega
set_option maxRecDepth 100000
set_option maxHeartbeats 2000000
section
variable {H : Type} {enc : TypeId × Value → H}
/-- Cells that came in. -/
theorem open_us0 {W : World} {fuel : Nat} {cs : List Value} {x : DataW H × List MemPlace} (h : DataW.trod enc Tryz.prog W 0 (fun _ => true) true fuel 27 cs = some x) :
    ∃ (l : List Int) (pp : Option Addr) (c : Nat), cs = [.slice pp l.length c] ∧ l.length ≤ c ∧ (pp = none → c = 0) ∧ S.Sl S.eU 1 W pp l ∧ ((x.1.weights Tryz.prog 27).all (· ≤ reachBytes) = true → l.length * 2 + 4096 ≤ S.room) ∧ ∀ z ∈ l, C.C z := by
  rcases open_ints Tryz.underlying27 Tryz.underlying26 (by kernel_rfl) h with ⟨hcs, hx⟩ | ⟨y, l, c, zs, hcs, _, hl, hm, hz, hx, hcell, hwz⟩
  · exact ⟨[], none, 0, hcs, by simp, fun _ => rfl, fun i a hi => by simp at hi, fun _ => by decide, by simp⟩
  · obtain ⟨x1, x2⟩ := x
    simp only [Prod.mk.injEq] at hx
    obtain ⟨rfl, rfl⟩ := hx
    simp only [if_true] at hz
    have hlen : (zs.take l).length = l := by simp; omega
    refine ⟨zs.take l, some y, c, by rw [hlen]; exact hcs, by rw [hlen]; exact hl, (fun e => by cases e), fun i z hi => ?_, fun hw => ?_, fun z hz => wf_C (hwz z (List.mem_of_mem_take hz))⟩
    · have hjl : i < l := by
        by_cases h : i < l
        · exact h
        · rw [List.getElem?_eq_none (by rw [hlen]; omega)] at hi; cases hi
      have hc := hcell i (by omega)
      rw [List.getElem?_take, if_pos hjl, List.getElem?_eq_getElem (by omega)] at hi
      simp only [Option.some.injEq] at hi
      subst hi
      have e : zs.getD i 0 = zs[i]'(by omega) := by simp [List.getD, List.getElem?_eq_getElem (show i < zs.length by omega)]
      rw [e] at hc
      have hsp : y.spot = none := add_none (hcell 0 (by omega))
      obtain ⟨b, o, sp⟩ := y
      simp only at hsp
      subst hsp
      rw [add_at] at hc
      refine ⟨b, o, rfl, fun j u hj => ?_⟩
      cases j with
      | zero => simp only [S.eU, List.getElem?_cons_zero, Option.some.injEq] at hj; subst hj; rw [Nat.mul_one, Nat.add_zero]; exact hc
      | succ j => simp [S.eU] at hj
    · rw [hlen]
      have hby : Tryz.prog.bytesOf 26 = 2 := by kernel_rfl
      simp only [DataW.weights, Tryz.underlying27, List.all_cons, hby, Bool.and_eq_true, decide_eq_true_eq] at hw
      have h2 : (lits (H := H) .u16 (zs.take l)).length = l := by simp [lits]; omega
      have h3 := hw.1
      rw [h2] at h3
      unfold reachBytes at h3
      unfold S.room
      omega
theorem open_us {W : World} {base : Nat} {v : Value} {d : DataW H} {p : List MemPlace} (hval : Value.okWide Tryz.prog W .any base 27 v) (h : DataW.Trod enc Tryz.prog W 0 (fun _ => true) true 27 v d p)
    (hw : (d.weights Tryz.prog 27).all (· ≤ reachBytes) = true) :
    ∃ (l : List Int) (pp : Option Addr) (c : Nat), v = .slice pp l.length c ∧ l.length ≤ c ∧ (pp = none → c = 0) ∧ S.Sl S.eU 1 W pp l ∧ l.length * 2 + 4096 ≤ S.room ∧ ∀ z ∈ l, C.C z := by
  obtain ⟨a, len, cap, rfl⟩ := okWide_slice Tryz.underlying27 hval
  obtain ⟨fuel, hf⟩ := h
  obtain ⟨l, pp, c, e1, e2, e5, e3, e4, e6⟩ := open_us0 hf
  simp [Value.cells] at e1
  obtain ⟨rfl, rfl, rfl⟩ := e1
  exact ⟨l, _, _, rfl, e2, e5, e3, e4 hw, e6⟩
theorem weights_all (P : Program) (e : TypeId) (D : Nat → DataW H) (q : Nat → Bool) : ∀ (is : List Nat), (DataW.weightsAll P e (is.map D)).all q = true → ∀ i ∈ is, ((D i).weights P e).all q = true := by
  intro is
  induction is with
  | nil => intro _ i hi; simp at hi
  | cons j is ih =>
    intro h i hi
    simp only [List.map_cons, DataW.weightsAll, List.all_append, Bool.and_eq_true] at h
    rcases List.mem_cons.1 hi with rfl | hi
    · exact h.1
    · exact ih h.2 i hi
theorem und43 : Tryz.prog.underlying 44 = some (.struct #[⟨ "Kind", 3, 0, false, "", "", 0⟩, ⟨ "Value", 26, 1, false, "", "", 8⟩]) := by kernel_rfl
/-- Cells with kinds that came in. -/
theorem open_ks0 {W : World} {fuel : Nat} {cs : List Value} {x : DataW H × List MemPlace} (h : DataW.trod enc Tryz.prog W 0 (fun _ => true) true fuel 38 cs = some x) :
    ∃ (l : List (Int × Int)) (pp : Option Addr) (c : Nat), cs = [.slice pp l.length c] ∧ l.length ≤ c ∧ (pp = none → c = 0) ∧ S.Sl S.eK 2 W pp l ∧ ((x.1.weights Tryz.prog 38).all (· ≤ reachBytes) = true → l.length * 16 + 4096 ≤ S.room) ∧ ∀ t ∈ l, C.C t.2 := by
  rcases Deep.open_slice_pairs Tryz.underlying38 und43 (by kernel_rfl) rfl rfl (by kernel_rfl) (by kernel_rfl) h with ⟨hcs, hx⟩ | ⟨y, len, c, m, n, V0, V1, D0, D1, P0, P1, hcs, _, hl, hm, hmm, hx, hel⟩
  · exact ⟨[], none, 0, hcs, by simp, fun _ => rfl, fun i a hi => by simp at hi, fun _ => by decide, by simp⟩
  · obtain ⟨x1, x2⟩ := x
    simp only [Prod.mk.injEq] at hx
    obtain ⟨rfl, rfl⟩ := hx
    simp only [if_true] at hmm
    have hsp0 : 0 < len → y.spot = none := fun hp => add_none (hel 0 (by omega)).1
    have hex : ∀ i, i < len → ∃ t : Int × Int, ∃ b o, some y = some (⟨b, o, none⟩ : Addr) ∧ W.cell? ⟨b, o + i * 2, none⟩ = some (.int .i64 t.1) ∧ W.cell? ⟨b, o + i * 2 + 1, none⟩ = some (.int .u16 t.2) ∧ C.C t.2 := by
      intro i hi
      obtain ⟨g0, g1, t0, t1⟩ := hel i (by omega)
      obtain ⟨k, e0, _, w0⟩ := DataW.trod_int Tryz.underlying3 t0
      obtain ⟨v, e1, _, w1⟩ := DataW.trod_int Tryz.underlying26 t1
      simp at e0 e1
      rw [e0] at g0
      rw [e1] at g1
      have hsp := hsp0 (by omega)
      obtain ⟨b, o, sp⟩ := y
      simp only at hsp
      subst hsp
      rw [add_at] at g0 g1
      exact ⟨(k, v), b, o, rfl, g0, by rw [Nat.add_assoc]; exact g1, wf_C w1⟩
    obtain ⟨f, hf2⟩ := Deep.choose_lt hex
    refine ⟨(List.range len).map f, some y, c, by simpa using hcs, by simpa using hl, (fun e => by cases e), fun i t hi => ?_, fun hw => ?_, fun t ht => ?_⟩
    · have hil : i < len := by
        by_cases h : i < len
        · exact h
        · rw [List.getElem?_eq_none (by simp; omega)] at hi; cases hi
      simp [hil] at hi
      subst hi
      obtain ⟨b, o, e1, e2, e3, _⟩ := hf2 i hil
      refine ⟨b, o, e1, fun j u hj => ?_⟩
      match j, hj with
      | 0, hj => simp only [S.eK, List.getElem?_cons_zero, Option.some.injEq] at hj; subst hj; exact e2
      | 1, hj => simp only [S.eK, List.getElem?_cons_succ, List.getElem?_cons_zero, Option.some.injEq] at hj; subst hj; exact e3
      | j + 2, hj => simp [S.eK] at hj
    · have hby : Tryz.prog.bytesOf 44 = 16 := by kernel_rfl
      simp only [DataW.weights, Tryz.underlying38, List.all_cons, List.all_append, Bool.and_eq_true, decide_eq_true_eq, hby, List.length_map, List.length_range] at hw
      have hw1 := hw.1
      unfold reachBytes at hw1
      simp only [List.length_map, List.length_range]
      unfold S.room
      omega
    · obtain ⟨i, hi, rfl⟩ := List.mem_map.1 ht
      obtain ⟨_, _, _, _, _, hC⟩ := hf2 i (by simpa using hi)
      exact hC
theorem open_ks {W : World} {base : Nat} {v : Value} {d : DataW H} {p : List MemPlace} (hval : Value.okWide Tryz.prog W .any base 38 v) (h : DataW.Trod enc Tryz.prog W 0 (fun _ => true) true 38 v d p)
    (hw : (d.weights Tryz.prog 38).all (· ≤ reachBytes) = true) :
    ∃ (l : List (Int × Int)) (pp : Option Addr) (c : Nat), v = .slice pp l.length c ∧ l.length ≤ c ∧ (pp = none → c = 0) ∧ S.Sl S.eK 2 W pp l ∧ l.length * 16 + 4096 ≤ S.room ∧ ∀ t ∈ l, C.C t.2 := by
  obtain ⟨a, len, cap, rfl⟩ := okWide_slice Tryz.underlying38 hval
  obtain ⟨fuel, hf⟩ := h
  obtain ⟨l, pp, c, e1, e2, e5, e3, e4, e6⟩ := open_ks0 hf
  simp [Value.cells] at e1
  obtain ⟨rfl, rfl, rfl⟩ := e1
  exact ⟨l, _, _, rfl, e2, e5, e3, e4 hw, e6⟩
end
end Go.Proofs.YtgponcjjnjpfkaaGreat.L
