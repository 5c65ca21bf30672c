import Derived.Test.YtcnhfgoflfnocaaFixed
import Derived.Deep.DeepCutAuto
/-! StackKinds, walked. -/
namespace Go.Proofs.Ytcnhfgoflfnocaa
open Go.RowKit
open Go.Proofs
set_option linter.unusedVariables false
set_option linter.unusedSimpArgs false
structure KS (w : World) (b : Nat) (wr : World) (l : List (Int × Int)) : Prop where
  d : HasR wr b l
  hb : w.heap.size ≤ b
  bel : Below w.heap.size w wr
theorem KS.next {w wr wr' : World} {b : Nat} {l : List (Int × Int)} (h : KS w b wr l) (k : Below wr.heap.size wr wr') : KS w b wr' l := ⟨h.d.below k, h.hb, h.bel.trans (k.mono h.bel.size)⟩
theorem KS.at {w wr wr' : World} {b : Nat} {l l' : List (Int × Int)} (h : KS w b wr l) (d : HasR wr' b l') (k : At b wr wr') : KS w b wr' l' := ⟨d, h.hb, h.bel.trans (k.below h.hb h.bel.size)⟩
theorem KS.drewN {w wr : World} {b : Nat} {l : List (Int × Int)} (h : KS w b wr l) (q : Nat) : KS w b (wr.drewN q) l := ⟨h.d, h.hb, ⟨h.bel.os, h.bel.tape, h.bel.output, h.bel.size, h.bel.block⟩⟩
theorem wrap_ne (k : Int) : k ≠ IntKind.i64.wrap (k + 1) := by
  intro h
  simp [IntKind.wrap, IntKind.bits, IntKind.signed] at h
  omega
set_option maxHeartbeats 4000000
set_option maxRecDepth 100000
theorem kinds_pos (p : Option Addr) (c : Nat) (ret : List (Int × Int)) (hpos : 0 < ret.length) (hc : ret.length ≤ c) (hr : ret.length ≤ room) (kind n x : Int) (w : World) (h1 : Sl eK 2 w p ret) :
    Calls Try.prog 5 #[.slice p ret.length c, .int .i64 kind, .int .i64 n, .int .u16 x] w fun e w' => e = .returned (.bool true) ∧ Below w.heap.size w w' := by
  have H1 := hid h1
  clear h1
  go_enter Try.func5, Try.ntmps5
  go_upto_if 31 with fail
  go_cut [0] (fun s0 wc => ∃ L : List (Int × Int), L.length = min ret.length 128 ∧ s0 = .slice p L.length c ∧ Sl eK 2 w p L ∧ wc = w)
  case first =>
    by_cases a : 128 < ret.length
    · have d1 : decide ((128 : Int) < (ret.length : Int)) = true := decide_eq_true (by omega)
      have hcc : 128 ≤ c := by omega
      go_wp2
      go_meet
      case rel => exact ⟨ret.take 128, by rw [List.length_take]; omega, by rw [List.length_take, Nat.min_eq_left (by omega)], H1.out.take 128, rfl⟩
    · have d1 : decide ((128 : Int) < (ret.length : Int)) = false := decide_eq_false (by omega)
      go_wp2
      go_meet
      case rel => exact ⟨ret, by omega, rfl, H1.out, rfl⟩
  case rest =>
    obtain ⟨L, hLm, rfl, hS, hwc⟩ := hcut
    have hL : L.length ≤ 128 := by omega
    have HL := hid (show 0 < L.length by omega)
    clear hLm hpos
    obtain rfl := hwc.symm
    clear H1 hc hr
    obtain ⟨wA, hwA⟩ : ∃ wA, w.alloc (.cells z50.toArray 50) = wA := ⟨_, rfl⟩
    have a1 := hasR0 w
    rw [hwA] at a1
    have bA : Below w.heap.size w wA := by rw [← hwA]; exact (Below.refl _ _).alloc (Nat.le_refl _) _
    have S1 := hid hS
    have hp := rpush_yes w.heap.size [] L p c wA a1 (hS.below bA) (by simpa using hL)
    have NA := hid (KS.mk a1 (Nat.le_refl _) bA)
    clear hS a1 bA
    go_wp2_with (first | (refine wpList_build50 rfl rfl ?_))
    refine hp.mono ?_
    rintro e w1 ⟨rfl, g1, t1⟩
    have N1 := hid (NA.out.at g1 t1)
    clear hp g1 t1 NA hwA
    generalize hb : w.heap.size = b at *
    go_wp2_with fail
    refine (fixed_any w1).mono ?_
    rintro e w2 ⟨rfl, bel⟩
    have N2 := hid (N1.out.next bel)
    clear bel N1
    simp only [List.nil_append] at N2
    go_wp2
    go_loopw [10] (fun j wr => ∃ k : Nat, k ≤ L.length ∧ j = .int .i64 (k : Int) ∧ KS w b wr L) (fun j _ => L.length - (intOf j).toNat)
    case atStart => exact ⟨0, by omega, rfl, N2.out⟩
    case round =>
      obtain ⟨k, hk, rfl, hN⟩ := hrel
      by_cases hlt : k < L.length
      · have i1 : decide ((k : Int) < (L.length : Int)) = true := decide_eq_true (by omega)
        as_aux_lemma =>
          obtain ⟨m, hm⟩ : ∃ m, L.length = m + k + 1 := ⟨L.length - k - 1, by omega⟩
          have hml : m < L.length := by omega
          have ha := List.getElem?_eq_getElem hml
          obtain ⟨bc, oc, hpc, ec, ed⟩ := (S1.out.below hN.bel).k m L[m] ha
          have e1 : IntKind.i64.wrap ((L.length : Int) - 1) = (L.length : Int) - 1 := i64_id _ (by omega) (by omega)
          have e2 : IntKind.i64.wrap ((L.length : Int) - 1 - (k : Int)) = (m : Int) := by rw [i64_id _ (by omega) (by omega)]; omega
          have e3 : (m : Int) < (L.length : Int) := by omega
          generalize L[m] = a at *
          obtain ⟨wB, hwB⟩ : ∃ wB, wr.alloc (.cells #[.int .i64 a.1, .int .u16 a.2] 43) = wB := ⟨_, rfl⟩
          have bB : Below wr.heap.size wr wB := by rw [← hwB]; exact (Below.refl _ _).alloc (Nat.le_refl _) _
          have NB := hid (hN.next bB)
          have hnb : wB.heap[wr.heap.size]? = some (.cells [Value.int .i64 a.1, Value.int .u16 a.2].toArray 43 (0, 0)) := by rw [← hwB]; exact heap_alloc_new wr _
          have x1 : ∀ q, (wB.drewN q).cell? ⟨wr.heap.size, 0, none⟩ = some (.int .i64 a.1) := fun q => cell_of wB _ 0 _ 43 _ hnb rfl
          have x2 : ∀ q, (wB.drewN q).cell? ⟨wr.heap.size, 1, none⟩ = some (.int .u16 a.2) := fun q => cell_of wB _ 1 _ 43 _ hnb rfl
          have y1 := x1 0
          have hok := rat_ok b L m k hm.symm a.1 a.2 ha wB NB.out.d
          obtain ⟨K1, hK1⟩ : ∃ K1, IntKind.i64.wrap (a.1 + 1) = K1 := ⟨_, rfl⟩
          have hkk := fun q => rat_kind b L m k hm.symm a.1 a.2 ha K1 (by rw [← hK1]; exact wrap_ne a.1) (wB.drewN q) NB.out.d
          have HK := hid hkk
          have X1 := hid x1
          have X2 := hid x2
          clear hN bB hnb ha hm hkk N2 x1 x2
          subst hpc
          have z0 : wB.drewN 0 = wB := rfl
          rw [z0] at y1
          clear z0
          go_wp2_with fail
          refine hok.mono ?_
          rintro e w3 ⟨rfl, q, hq⟩
          have u1 : w3.cell? ⟨wr.heap.size, 0, none⟩ = some (.int .i64 a.1) := by rw [hq]; exact X1.out q
          have hkq := HK.out q
          rw [← hq] at hkq
          have HQ := hid hq
          clear hok y1 hwB ec ed hq
          go_wp2_with fail
          refine hkq.mono ?_
          rintro e w4 ⟨rfl, q2, hq2⟩
          have NC := hid (show KS w b w4 L by rw [hq2, HQ.out]; exact (NB.out.drewN q).drewN q2)
          have v2 : w4.cell? ⟨wr.heap.size, 1, none⟩ = some (.int .u16 a.2) := by rw [hq2, HQ.out]; exact X2.out q
          clear u1 HK X1 X2 NB hkq hK1 hq2 HQ
          go_wp2
          go_roundw
          case rel => exact ⟨k + 1, by omega, by go_num, NC.out⟩
          case measure => first | (simp [intOf]; done) | (simp [intOf]; omega)
      · obtain rfl : k = L.length := by omega
        have i1 : decide ((L.length : Int) < (L.length : Int)) = false := decide_eq_false (by omega)
        have N3 := hid hN
        clear hN N2
        go_upto_region 14 with fail
        go_cut [98] (fun s wc => ∃ g : Bool, s = .bool g ∧ (g = true → n < 0 ∨ (L.length : Int) ≤ n) ∧ wc = wr)
        case first =>
          by_cases a1 : n < 0
          · have d1 : decide (n < 0) = true := decide_eq_true a1
            go_wp2
            go_meet
            case rel => exact ⟨_, rfl, fun _ => .inl a1, rfl⟩
          · have d1 : decide (n < 0) = false := decide_eq_false a1
            by_cases a2 : (L.length : Int) ≤ n
            · have d2 : decide ((L.length : Int) ≤ n) = true := decide_eq_true a2
              go_wp2
              go_meet
              case rel => exact ⟨_, rfl, fun _ => .inr a2, rfl⟩
            · have d2 : decide ((L.length : Int) ≤ n) = false := decide_eq_false a2
              go_wp2
              go_meet
              case rel => exact ⟨_, rfl, fun h => by simp at h, rfl⟩
        case rest =>
          obtain ⟨g, rfl, hg, hwc⟩ := hcut
          obtain rfl := hwc.symm
          have HG := hid hg
          clear hg
          go_upto_if 98 with fail
          go_cut [] (fun wc => wc = wr)
          case first =>
            cases g with
            | false =>
              go_wp2
              go_meet
              case rel => trivial
            | true =>
              go_wp2_with fail
              refine (rat_under b L n kind (HG.out trivial) wr N3.out.d).mono ?_
              rintro e w4 ⟨rfl, hw4⟩
              obtain rfl := hw4.symm
              go_wp2
              go_meet
              case rel => trivial
          case rest =>
            obtain rfl := hcut.symm
            as_aux_lemma =>
              have h0 : 0 < L.length := by have := HL.out; omega
              obtain ⟨T, t, hLT⟩ : ∃ T t, L = T ++ [t] := ⟨L.dropLast, L.getLast (by intro c; rw [c] at h0; simp at h0), (List.dropLast_concat_getLast _).symm⟩
              obtain ⟨k0, v0⟩ := t
              have hTl : L.length = T.length + 1 := by rw [hLT]; simp
              have ht : L[T.length]? = some (k0, v0) := by rw [hLT]; simp
              have d0 : ((L.length : Int) == 0) = false := beq_eq_false_iff_ne.2 (by omega)
              have e1 : IntKind.i64.wrap ((L.length : Int) - 1) = (T.length : Int) := by rw [i64_id _ (by omega) (by omega)]; omega
              have e3 : (T.length : Int) < (L.length : Int) := by omega
              obtain ⟨bc, oc, hpc, ec, ed⟩ := (S1.out.below N3.out.bel).k T.length (k0, v0) ht
              dsimp only at ec ed
              obtain ⟨wB, hwB⟩ : ∃ wB, wr.alloc (.cells #[.int .i64 k0, .int .u16 v0] 43) = wB := ⟨_, rfl⟩
              have bB : Below wr.heap.size wr wB := by rw [← hwB]; exact (Below.refl _ _).alloc (Nat.le_refl _) _
              have NB := hid (N3.out.next bB)
              have hnb : wB.heap[wr.heap.size]? = some (.cells [Value.int .i64 k0, Value.int .u16 v0].toArray 43 (0, 0)) := by rw [← hwB]; exact heap_alloc_new wr _
              have hbt : b < wr.heap.size := lt_of N3.out.d.1
              have x1 : wB.cell? ⟨wr.heap.size, 0, none⟩ = some (.int .i64 k0) := cell_of wB _ 0 _ 43 _ hnb rfl
              have HNB := hid hnb
              obtain ⟨K1, hK1⟩ : ∃ K1, IntKind.i64.wrap (k0 + 1) = K1 := ⟨_, rfl⟩
              have hkk := rpop_kind b T k0 v0 K1 (by rw [← hK1]; exact wrap_ne k0) wB (hLT ▸ NB.out.d)
              have HLT := hid hLT
              have HTl := hid hTl
              clear bB hnb ht N3 hLT hTl
              have HP := hid hpc
              subst hpc
              go_wp2_with fail
              refine hkk.mono ?_
              rintro e w4 ⟨rfl, q, hq⟩
              have NC := hid (show KS w b w4 L by rw [hq]; exact NB.out.drewN q)
              have H4 := hid (show w4.heap[wr.heap.size]? = some (.cells [Value.int .i64 k0, Value.int .u16 v0].toArray 43 (0, 0)) by rw [hq]; exact HNB.out)
              clear hkk hK1 hwB ec ed hq NB HNB x1
              go_wp2_with fail
              refine (rlen b L w4 NC.out.d).mono ?_
              rintro e w5 ⟨rfl, hw5⟩
              obtain rfl := hw5.symm
              go_wp2_with fail
              refine (rset b T k0 v0 x w4 (HLT.out ▸ NC.out.d)).mono ?_
              rintro e w5 ⟨rfl, g5, t5⟩
              have N5 := hid (NC.out.at g5 t5)
              have H5 := hid ((t5.block _ (lt_of H4.out) (by omega)).trans H4.out)
              have S5 := hid (lt_of g5.1)
              clear g5 t5 NC H4
              obtain ⟨L', hL'⟩ : ∃ L', L' = T ++ [(k0, x)] := ⟨_, rfl⟩
              rw [← hL'] at N5
              have hlen : L'.length = L.length := by rw [hL', HLT.out]; simp
              have hsame : ∀ i, i < T.length → L'[i]? = L[i]? := fun i hi => by rw [hL', HLT.out, List.getElem?_append_left hi, List.getElem?_append_left hi]
              have htop : L'[T.length]? = some (k0, x) := by rw [hL']; simp
              have hok : okR L' = okR L := by rw [hL', HLT.out]; simp [okR, okK]
              have HS := hid hsame
              have HTo := hid htop
              have HOk := hid hok
              have HL' := hid hL'
              clear hsame htop hok hL'
              go_wp2_with fail
              refine (rcells b L' w5 N5.out.d).mono ?_
              rintro e w6 ⟨u, rfl, g6, b6⟩
              obtain ⟨pu, cu, rfl, _, su⟩ := g6.ls.ex
              have hpu : ∀ g o, pu = some ⟨g, o, none⟩ → b < g := by
                intro g o e
                subst e
                have := (g6.lt g rfl).1
                have := S5.out
                omega
              have N6 := hid (N5.out.next b6)
              have H6 := hid ((b6.block _ (lt_of H5.out)).trans H5.out)
              have SU := hid su
              have HPU := hid hpu
              have HLen := hid hlen
              have SP := hid (S1.out.below N6.out.bel)
              clear g6 b6 su hpu N5 H5 S5
              rw [hlen]
              clear hlen
              go_wp2
              go_loopw [24] (fun j wz => ∃ k q : Nat, k ≤ T.length ∧ j = .int .i64 (k : Int) ∧ wz = w6.drewN q) (fun j _ => T.length - (intOf j).toNat)
              case atStart => exact ⟨0, 0, by omega, rfl, rfl⟩
              case round =>
                obtain ⟨k, q, hk, rfl, rfl⟩ := hrel
                have e8 : IntKind.i64.wrap ((k : Int) + 1) = (k : Int) + 1 := i64_id _ (by omega) (by omega)
                by_cases hlt : k < T.length
                · have i1 : decide ((k : Int) + 1 < (L.length : Int)) = true := decide_eq_true (by have := HTl.out; omega)
                  have i2 : (k : Int) < (L.length : Int) := by omega
                  have hkl : k < L.length := by omega
                  have ha := List.getElem?_eq_getElem hkl
                  obtain ⟨b1, o1, r1, f1, f2⟩ := SP.out.k k L[k] ha
                  obtain ⟨b2, o2, r2, f3, f4⟩ := SU.out.k k L[k] (by rw [HS.out k hlt]; exact ha)
                  generalize L[k] = a at *
                  have m1 : ∀ q, (w6.drewN q).cell? ⟨b1, o1 + k * 2, none⟩ = some (.int .i64 a.1) := fun q => f1
                  have m2 : ∀ q, (w6.drewN q).cell? ⟨b1, o1 + k * 2 + 1, none⟩ = some (.int .u16 a.2) := fun q => f2
                  have m3 : ∀ q, (w6.drewN q).cell? ⟨b2, o2 + k * 2, none⟩ = some (.int .i64 a.1) := fun q => f3
                  have m4 : ∀ q, (w6.drewN q).cell? ⟨b2, o2 + k * 2 + 1, none⟩ = some (.int .u16 a.2) := fun q => f4
                  clear f1 f2 f3 f4 ha
                  simp only [Option.some.injEq, Addr.mk.injEq] at r1
                  obtain ⟨rfl, rfl, _⟩ := r1
                  subst r2
                  go_wp2_with fail
                  go_quiet (fail)
                  go_wp2
                  go_roundw
                  case rel =>
                    first
                      | exact ⟨k + 1, _, by omega, by go_num, rfl⟩
                      | ((repeat apply Exists.intro); refine ⟨⟨k + 1, _, by omega, ?_, rfl⟩, rfl⟩; go_num)
                  case measure => first | (simp [intOf]; done) | (simp [intOf]; omega)
                · obtain rfl : k = T.length := by omega
                  as_aux_lemma =>
                    have i1 : decide ((T.length : Int) + 1 < (L.length : Int)) = false := decide_eq_false (by have := HTl.out; omega)
                    obtain ⟨w7, hw7⟩ : ∃ w7, w7 = w6.drewN q := ⟨_, rfl⟩
                    have N7 := hid (show KS w b w7 L' by rw [hw7]; exact N6.out.drewN q)
                    have H7 := hid (show w7.heap[wr.heap.size]? = some (.cells [Value.int .i64 k0, Value.int .u16 v0].toArray 43 (0, 0)) by rw [hw7]; exact H6.out)
                    have SU7 := hid (show Sl eK 2 w7 pu L' by rw [hw7]; exact SU.out)
                    rw [← hw7]
                    clear hw7 N6 H6 SU SP
                    have y1 : w7.cell? ⟨wr.heap.size, 0, none⟩ = some (.int .i64 k0) := cell_of w7 _ 0 _ 43 _ H7.out rfl
                    have hp := rpop_ok b T k0 x w7 (HL'.out ▸ N7.out.d)
                    go_wp2_with fail
                    refine hp.mono ?_
                    rintro e w8 ⟨rfl, g8, t8⟩
                    have N8 := hid (N7.out.at g8 t8)
                    have H8 := hid ((t8.block _ (lt_of H7.out) (by omega)).trans H7.out)
                    have SU8 := hid (SU7.out.tc t8 (fun g o e c => by have := HPU.out g o e; omega))
                    clear hp g8 t8 N7 H7 SU7 y1
                    obtain ⟨b2, o2, r2, f3, f4⟩ := SU8.out.k T.length (k0, x) HTo.out
                    dsimp only at f3 f4
                    have m3 : ∀ q, (w8.drewN q).cell? ⟨b2, o2 + T.length * 2, none⟩ = some (.int .i64 k0) := fun q => f3
                    have m4 : ∀ q, (w8.drewN q).cell? ⟨b2, o2 + T.length * 2 + 1, none⟩ = some (.int .u16 x) := fun q => f4
                    have m5 : ∀ q, (w8.drewN q).cell? ⟨wr.heap.size, 0, none⟩ = some (.int .i64 k0) := fun q => cell_of w8 _ 0 _ 43 _ H8.out rfl
                    have hln := fun q => rlen b T (w8.drewN q) N8.out.d
                    have HPE := hid r2
                    clear f3 f4
                    subst r2
                    go_wp2_with fail
                    go_quiet ((go_at_call 18; exact Calls.quiet_of_same (hln _)))
                    have hst : ∀ q, Calls Try.prog 7 #[.slice none 0 0, .slice (some ⟨b2, o2, none⟩) L.length cu] (w8.drewN q) fun e w' => Below (w8.drewN q).heap.size (w8.drewN q) w' ∧ ((mayS [] L' = true ∧ ∃ b1 b2, e = .returned (.tuple #[.pointer (some ⟨b1, 0, none⟩), .pointer (some ⟨b2, 0, none⟩), .int .i64 0]) ∧ HasD w' b1 [] ∧ HasR w' b2 L' ∧ (w8.drewN q).heap.size ≤ b1 ∧ (w8.drewN q).heap.size ≤ b2 ∧ b1 ≠ b2) ∨
                        (mayS [] L' = false ∧ e = .returned (.tuple #[.pointer none, .pointer none, .int .i64 2]))) := fun q => by
                      have := stacks_any none (some ⟨b2, o2, none⟩) 0 cu [] L' (by decide) (by rw [HLen.out]; unfold room; omega) (w8.drewN q) (fun i a h => by simp at h) SU8.out
                      rw [HLen.out] at this
                      exact this
                    have hmy : mayS [] L = mayS [] L' := by rw [mayS, mayS, HOk.out, HLen.out]
                    have HMY := hid hmy
                    have SUA := hid (fun q => show Sl eK 2 (w8.drewN q) (some ⟨b2, o2, none⟩) L' from SU8.out)
                    have N8A := hid (fun q => N8.out.drewN q)
                    clear hmy m3 m4 m5 hln SU8 N8 H8
                    go_wp2_with fail
                    refine (hst _).mono ?_
                    rintro e w9 ⟨bel, hor⟩
                    have N9 := hid ((N8A.out _).next bel)
                    have SU9 := hid ((SUA.out _).below bel)
                    have hlt9 : b < w9.heap.size := lt_of N9.out.d.1
                    have SP9 := hid (S1.out.below N9.out.bel)
                    have hmay := may_any none (some ⟨bc, oc, none⟩) 0 c [] L (by decide) (by unfold room; omega) w9 SP9.out
                    rw [HMY.out] at hmay
                    have hb8 := hid (lt_of (N8A.out 0).d.1)
                    clear hst bel N8A SUA SP9
                    rcases hor with ⟨cm, b5, b6, rfl, _, g9, _, l6, _⟩ | ⟨cm, rfl⟩
                    · rw [cm] at hmay
                      have G9 := hid g9
                      have l6' : b ≠ b6 := by have l8 : b < w8.heap.size := hb8.out; have l7 : w8.heap.size ≤ b6 := l6; omega
                      clear g9 l6 cm
                      go_wp2_with fail
                      refine hmay.mono ?_
                      rintro e w10 ⟨rfl, hw10⟩
                      obtain rfl := hw10.symm
                      obtain ⟨wC, hwC⟩ : ∃ wC, w9.alloc (.cells #[.int .i64 1, .int .u16 5, .int .i64 2, .int .u16 6] 43) = wC := ⟨_, rfl⟩
                      have bC : Below w9.heap.size w9 wC := by rw [← hwC]; exact (Below.refl _ _).alloc (Nat.le_refl _) _
                      have NC := hid (N9.out.next bC)
                      have GC := hid (G9.out.below bC)
                      have SUC := hid (SU9.out.below bC)
                      have SN := hid (show Sl eK 2 wC (some ⟨w9.heap.size, 0, none⟩) [(1, 5), (2, 6)] from sl_block hK wC _ 43 _ (by rw [← hwC]; exact heap_alloc_new w9 _))
                      have hfin : ∀ wD, Below w.heap.size w wD → HasR wD b6 L' → Sl eK 2 wD (some ⟨b2, o2, none⟩) L' → Calls Try.prog 18 #[.pointer (some ⟨b6, 0, none⟩)] wD (fun e w' => e = .returned (.int .i64 (L.length : Int)) ∧ w' = wD) ∧ Calls Try.prog 19 #[.pointer (some ⟨b6, 0, none⟩)] wD (fun e w' => ∃ pz cz, e = .returned (.slice pz L.length cz) ∧ Below w.heap.size w w' ∧
                          Calls Try.prog 21 #[.slice pz L.length cz, .slice (some ⟨b2, o2, none⟩) L.length cu] w' (fun e w'' => e = .returned (.bool true) ∧ Below w.heap.size w w'')) := by
                        intro wD hB hD hs
                        refine ⟨by have := rlen b6 L' wD hD; rwa [HLen.out] at this, (rcells b6 L' wD hD).mono ?_⟩
                        rintro e w11 ⟨u, rfl, g11, b11⟩
                        obtain ⟨pz, cz, rfl, _, sz⟩ := g11.ls.ex
                        have hB11 : Below w.heap.size w w11 := hB.trans (b11.mono hB.size)
                        refine ⟨pz, cz, by rw [HLen.out], hB11, ?_⟩
                        have := sameK pz (some ⟨b2, o2, none⟩) cz cu L' (by rw [HLen.out]; unfold room; omega) w11 sz (hs.below b11)
                        rw [HLen.out] at this
                        refine this.mono ?_
                        rintro e w12 ⟨rfl, q, rfl⟩
                        exact ⟨rfl, hB11.os, hB11.tape, hB11.output, hB11.size, hB11.block⟩
                      have HFin := hid hfin
                      clear hmay bC N9 G9 SU9 hfin
                      by_cases c2 : T.length + 2 ≤ 128
                      · have hps := rpush_yes b T [(1, 5), (2, 6)] _ 2 wC NC.out.d SN.out c2
                        go_wp2_with fail
                        refine hps.mono ?_
                        rintro e wD ⟨rfl, gD, tD⟩
                        have ND := hid (NC.out.at gD tD)
                        have GD := hid (GC.out.kept (tD.block _ (lt_of GC.out.1) l6'.symm))
                        have SD := hid (SUC.out.tc tD (fun g o e c => by simp only [Option.some.injEq, Addr.mk.injEq] at e; have := HPU.out b2 o2 rfl; omega))
                        obtain ⟨f1, f2⟩ := HFin.out wD ND.out.bel GD.out SD.out
                        clear hps gD tD NC GC SUC SN hwC HFin
                        go_wp2_with fail
                        refine f1.mono ?_
                        rintro e w13 ⟨rfl, hw13⟩
                        obtain rfl := hw13.symm
                        go_wp2_with fail
                        refine f2.mono ?_
                        rintro e w13 ⟨pz, cz, rfl, _, f3⟩
                        clear f1 f2
                        go_wp2_with fail
                        refine f3.mono ?_
                        rintro e w14 ⟨rfl, f4⟩
                        clear f3
                        have F4 := hid f4
                        clear f4
                        go_wp2
                        go_ret
                        exact ⟨rfl, F4.out⟩
                      · have hps := rpush_no b T [(1, 5), (2, 6)] (some ⟨w9.heap.size, 0, none⟩) 2 wC NC.out.d (by simp only [List.length_cons, List.length_nil]; omega) (by decide)
                        obtain ⟨f1, f2⟩ := HFin.out wC NC.out.bel GC.out SUC.out
                        clear HFin
                        go_wp2_with fail
                        refine hps.mono ?_
                        rintro e wD ⟨rfl, hwD⟩
                        obtain rfl := hwD.symm
                        clear hps NC GC SUC SN hwC
                        go_wp2_with fail
                        refine f1.mono ?_
                        rintro e w13 ⟨rfl, hw13⟩
                        obtain rfl := hw13.symm
                        go_wp2_with fail
                        refine f2.mono ?_
                        rintro e w13 ⟨pz, cz, rfl, _, f3⟩
                        clear f1 f2
                        go_wp2_with fail
                        refine f3.mono ?_
                        rintro e w14 ⟨rfl, f4⟩
                        clear f3
                        have F4 := hid f4
                        clear f4
                        go_wp2
                        go_ret
                        exact ⟨rfl, F4.out⟩
                    · rw [cm] at hmay
                      clear cm SU9
                      go_wp2_with fail
                      refine hmay.mono ?_
                      rintro e w10 ⟨rfl, hw10⟩
                      obtain rfl := hw10.symm
                      go_wp2
                      go_ret
                      exact ⟨rfl, N9.out.bel⟩
end Go.Proofs.Ytcnhfgoflfnocaa
