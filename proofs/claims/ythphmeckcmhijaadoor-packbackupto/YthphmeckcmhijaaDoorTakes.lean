import Derived.Test.YthphmeckcmhijaaDoorRefN
import Derived.Test.YthphmeckcmhijaaDoorApart
/-! takes: one call of both readers. -/
namespace Go.Proofs.YthphmeckcmhijaaDoor
open Go.RowKit
set_option linter.unusedVariables false

theorem Rd.rstep {W W' : World} {br gr b2 : Nat} {v : Value} {l : List UInt8} {e : Nat} (h : Rd W br gr v l e) (s : RStep b2 W W') (h1 : br ≠ b2) (h2 : gr ≠ b2) : Rd W' br gr v l e :=
  ⟨(s.block br h.lt h1).trans h.blk, h.sl.kept fun a u hc ho => by
    have hlt := World.block_lt_of_cell? W a hc
    have hg : a.block ≠ b2 := by
      rcases h.own with e | e
      · rw [e] at ho; cases ho
      · rw [e] at ho; simp at ho; omega
    rw [World.cell?_of_block (w := W) (s.block a.block hlt hg)]; exact hc, h.own, h.len⟩
theorem Rm.rstep {W W' : World} {br gr b2 : Nat} {v : Value} {l : List UInt8} {e : Nat} (h : Rm W br gr v l e) (s : RStep b2 W W') (h1 : br ≠ b2) (h2 : gr ≠ b2) : Rm W' br gr v l e :=
  ⟨(s.block br h.lt h1).trans h.blk, h.sl.kept fun a u hc ho => by
    have hlt := World.block_lt_of_cell? W a hc
    have hg : a.block ≠ b2 := by
      rcases h.own with e | e
      · rw [e] at ho; cases ho
      · rw [e] at ho; simp at ho; omega
    rw [World.cell?_of_block (w := W) (s.block a.block hlt hg)]; exact hc, h.own, h.len⟩
/-- Both readers, at one place. -/
structure RR (W : World) (br gr bm gm : Nat) (v vm : Value) (l : List UInt8) (e : Nat) : Prop where
  rd : Rd W br gr v l e
  rm : Rm W bm gm vm l e
  n1 : br ≠ bm
  n2 : gr ≠ bm
  n3 : gm ≠ br
  le : e < 1000
  lg : gr < W.heap.size ∨ v.ownBlock = none
  lm : gm < W.heap.size ∨ vm.ownBlock = none
structure TStep (br bm : Nat) (W W' : World) : Prop where
  os : W'.os = W.os
  tape : W'.tape = W.tape
  output : W'.output = W.output
  size : W.heap.size ≤ W'.heap.size
  block : ∀ k, k < W.heap.size → k ≠ br → k ≠ bm → W'.heap[k]? = W.heap[k]?
theorem TStep.refl (br bm : Nat) (W : World) : TStep br bm W W := ⟨rfl, rfl, rfl, Nat.le_refl _, fun _ _ _ _ => rfl⟩
theorem TStep.trans {br bm : Nat} {a b c : World} (h : TStep br bm a b) (k : TStep br bm b c) : TStep br bm a c :=
  ⟨k.os.trans h.os, k.tape.trans h.tape, k.output.trans h.output, Nat.le_trans h.size k.size, fun x hx h1 h2 => (k.block x (Nat.lt_of_lt_of_le hx h.size) h1 h2).trans (h.block x hx h1 h2)⟩
theorem TStep.r {br bm : Nat} {W W' : World} (h : RStep br W W') : TStep br bm W W' := ⟨h.os, h.tape, h.output, h.size, fun k hk h1 _ => h.block k hk h1⟩
theorem TStep.m {br bm : Nat} {W W' : World} (h : RStep bm W W') : TStep br bm W W' := ⟨h.os, h.tape, h.output, h.size, fun k hk _ h2 => h.block k hk h2⟩
theorem TStep.b {br bm : Nat} {W W' : World} (h : Below W.heap.size W W') : TStep br bm W W' := ⟨h.os, h.tape, h.output, h.size, fun k hk _ _ => h.block k hk⟩
theorem TStep.drewN {br bm : Nat} {W W' : World} (h : TStep br bm W W') (q : Nat) : TStep br bm W (W'.drewN q) := ⟨h.os, h.tape, h.output, h.size, h.block⟩
/-- What one call leaves. -/
def stp (k n : Int) (l : List UInt8) (e : Nat) : List UInt8 × Nat :=
  if k = 1 then (tk l e 1).2 else if k = 2 then (tk l e 2).2 else if k = 3 then (tk l e 4).2 else if k = 4 then (tk l e n).2 else if k = 5 then (nr l e).2 else (l, e)
theorem tk_lt (l : List UInt8) (e : Nat) (n : Int) (he : e < 1000) : (tk l e n).2.2 < 1000 := by
  unfold tk
  split
  · exact he
  · split <;> simp
theorem nr_lt (l : List UInt8) (e : Nat) (he : e < 1000) : (nr l e).2.2 < 1000 := by
  unfold nr
  split
  · exact he
  · exact (nmA_err 5 0 0 l).1
theorem apart_one (W : World) (B : Nat) (hB : B ≤ W.heap.size) (u1 : Value) (l1 : List UInt8) (h1 : Row W B u1 l1) (hl1 : l1.length + 200 ≤ room) :
    Calls Tryd.prog 16 #[.slice (some ⟨W.heap.size, 0, none⟩) 1 1] (W.alloc (.cells #[u1] 22)) fun r w' => r = .returned (.bool true) ∧ Below B W w' := by
  have hal : Below W.heap.size W (W.alloc (.cells #[u1] 22)) := (Below.refl _ _).alloc (Nat.le_refl _) _
  have hnew := heap_alloc_any W (.cells #[u1] 22)
  have hB' : B ≤ (W.alloc (.cells #[u1] 22)).heap.size := Nat.le_trans hB hal.size
  refine (apart_any B W.heap.size 1 (by decide) (fun _ => u1) (fun _ => l1.length) (fun _ => l1) (W.alloc (.cells #[u1] 22)) ?_ ?_).mono fun r w' ⟨e, hb⟩ => ⟨e, (hal.mono hB).trans hb⟩
  · refine ⟨Below.refl _ _, hB', fun i hi => ?_, ⟨_, hnew⟩, fun i hi => h1.below hal, fun i hi => rfl, fun i j hi hj hij x hx => by omega⟩
    rw [cell_of_any _ _ i _ _ _ hnew]
    match i, hi with
    | 0, _ => rfl
  · intro i hi; exact hl1
def TK (br gr bm gm : Nat) (w : World) (t : List UInt8 × Nat) (r : Ending) (w' : World) : Prop := r = .returned (.bool true) ∧ ∃ v' vm', Rd w' br gr v' t.1 t.2 ∧ Rm w' bm gm vm' t.1 t.2 ∧ TStep br bm w w'

set_option maxHeartbeats 4000000 in
set_option maxRecDepth 100000 in
theorem takes_any (br gr bm gm : Nat) (v vm : Value) (l : List UInt8) (e : Nat) (he : e < 1000) (k n : Int) (w : World) (hd : Rd w br gr v l e) (hm : Rm w bm gm vm l e) (n1 : br ≠ bm) (n2 : gr ≠ bm) (n3 : gm ≠ br) (hlg : gr < w.heap.size) (hlm : gm < w.heap.size) (hroom : l.length + 200 ≤ room) :
    Calls Tryd.prog 21 #[.pointer (some ⟨br, 0, none⟩), .pointer (some ⟨bm, 0, none⟩), .agg #[.int .i64 k, .int .i64 n]] w fun r w' => TK br gr bm gm w (stp k n l e) r w' := by
  have hal : Below w.heap.size w (w.alloc (.cells #[.int .i64 k, .int .i64 n] 53)) := (Below.refl _ _).alloc (Nat.le_refl _) _
  have hcl : ∀ j, (w.alloc (.cells #[.int .i64 k, .int .i64 n] 53)).cell? ⟨w.heap.size, j, none⟩ = (#[.int .i64 k, .int .i64 n] : Array Value)[j]? := fun j => cell_of_any _ _ j _ _ _ (heap_alloc_any w _)
  have hwbt : w.heap.size < (w.alloc (.cells #[.int .i64 k, .int .i64 n] 53)).heap.size := by simp
  have hd1 := hd.below hal
  have hm1 := hm.below hal
  have ht1 : TStep br bm w _ := TStep.b hal
  have hbrlt := hd.lt
  have hbmlt := hm.lt
  generalize hbt : w.heap.size = bt at *
  generalize hW1 : w.alloc (.cells #[.int .i64 k, .int .i64 n] 53) = W1 at *
  have c0 : W1.cell? ⟨bt, 0, none⟩ = some (.int .i64 k) := hcl 0
  have c1 : W1.cell? ⟨bt, 1, none⟩ = some (.int .i64 n) := hcl 1
  clear hcl hal hd hm
  by_cases k1 : k = 1
  · subst k1
    rw [show stp 1 n l e = (tk l e 1).2 by simp [stp]]
    have hr := rbyte_any br gr v l e he W1 hd1
    have hq := tk_lt l e 1 he
    go_enter Tryd.func21, Tryd.ntmps21
    go_wp2_with fail
    refine hr.mono ?_
    rintro r w2 ⟨rfl, v2, hd2, s2⟩
    have hm2 := hm1.rstep s2 (Ne.symm n1) n3
    have hf := rfixed_any bm gm vm l e he 1 (by decide) w2 hm2
    have hN : numL (tk l e 1).1 < 4294967296 := by
      have h1 := numL_lt (tk l e 1).1
      have h2 : (tk l e 1).1.length ≤ 1 := tk_len l e 1
      have h3 : 2 ^ (8 * (tk l e 1).1.length) ≤ 2 ^ 32 := Nat.pow_le_pow_right (by decide) (by omega)
      omega
    rw [show (((1 : Nat) : Int)) = 1 by rfl] at hf
    generalize numL (tk l e 1).1 = NN at *
    clear hr
    go_wp2_with fail
    refine hf.mono ?_
    rintro r w3 ⟨rfl, vm3, hm3, s3⟩
    have hd3 := hd2.rstep s3 n1 n2
    have ht3 := (ht1.trans (TStep.r s2)).trans (TStep.m s3)
    clear hf hd2 hm2
    have ho := hd3.own
    have hcL := hm3.c0
    have hcE := hm3.c1
    obtain ⟨pL, cL, eL, _⟩ := hm3.sl.ex
    rw [eL] at hcL
    have qL := fun q => left_any br gr _ _ _ (w3.drewN q) ⟨hd3.blk, hd3.sl, hd3.own, hd3.len⟩
    have qE := fun q => err_any br gr _ _ _ (w3.drewN q) ⟨hd3.blk, hd3.sl, hd3.own, hd3.len⟩
    have kL : ∀ q, (w3.drewN q).cell? ⟨bm, 0, none⟩ = _ := fun q => hcL
    have kE : ∀ q, (w3.drewN q).cell? ⟨bm, 1, none⟩ = _ := fun q => hcE
    have HD : Hid _ := hd3
    have HM : Hid _ := hm3
    have HT : Hid _ := ht3
    generalize hte : (tk l e 1).2 = t at *
    obtain ⟨tl, te⟩ := t
    simp only at qL qE kL kE
    have HTE : Hid _ := hte
    clear hte
    clear ho hcL hcE
    go_wp2_with fail
    go_quiet (first | (go_at_call 24; exact Calls.quiet_of_same (qL _)) | (go_at_call 23; exact Calls.quiet_of_same (qE _)) | (go_at_call 22; exact Calls.quiet_of_same (num_any _ _)))
    go_wp2
    go_ret
    rw [HTE.out]
    exact ⟨rfl, _, _, ⟨HD.out.blk, HD.out.sl, HD.out.own, HD.out.len⟩, ⟨HM.out.blk, HM.out.sl, HM.out.own, HM.out.len⟩, HT.out.drewN _⟩
  by_cases k2 : k = 2
  · subst k2
    rw [show stp 2 n l e = (tk l e 2).2 by simp [stp]]
    have hr := rcell_any br gr v l e he W1 hd1
    have hq := tk_lt l e 2 he
    go_enter Tryd.func21, Tryd.ntmps21
    go_wp2_with fail
    refine hr.mono ?_
    rintro r w2 ⟨rfl, v2, hd2, s2⟩
    have hm2 := hm1.rstep s2 (Ne.symm n1) n3
    have hf := rfixed_any bm gm vm l e he 2 (by decide) w2 hm2
    have hN : numL (tk l e 2).1 < 4294967296 := by
      have h1 := numL_lt (tk l e 2).1
      have h2 : (tk l e 2).1.length ≤ 2 := tk_len l e 2
      have h3 : 2 ^ (8 * (tk l e 2).1.length) ≤ 2 ^ 32 := Nat.pow_le_pow_right (by decide) (by omega)
      omega
    rw [show (((2 : Nat) : Int)) = 2 by rfl] at hf
    generalize numL (tk l e 2).1 = NN at *
    clear hr
    go_wp2_with fail
    refine hf.mono ?_
    rintro r w3 ⟨rfl, vm3, hm3, s3⟩
    have hd3 := hd2.rstep s3 n1 n2
    have ht3 := (ht1.trans (TStep.r s2)).trans (TStep.m s3)
    clear hf hd2 hm2
    have ho := hd3.own
    have hcL := hm3.c0
    have hcE := hm3.c1
    obtain ⟨pL, cL, eL, _⟩ := hm3.sl.ex
    rw [eL] at hcL
    have qL := fun q => left_any br gr _ _ _ (w3.drewN q) ⟨hd3.blk, hd3.sl, hd3.own, hd3.len⟩
    have qE := fun q => err_any br gr _ _ _ (w3.drewN q) ⟨hd3.blk, hd3.sl, hd3.own, hd3.len⟩
    have kL : ∀ q, (w3.drewN q).cell? ⟨bm, 0, none⟩ = _ := fun q => hcL
    have kE : ∀ q, (w3.drewN q).cell? ⟨bm, 1, none⟩ = _ := fun q => hcE
    have HD : Hid _ := hd3
    have HM : Hid _ := hm3
    have HT : Hid _ := ht3
    generalize hte : (tk l e 2).2 = t at *
    obtain ⟨tl, te⟩ := t
    simp only at qL qE kL kE
    have HTE : Hid _ := hte
    clear hte
    clear ho hcL hcE
    go_wp2_with fail
    go_quiet (first | (go_at_call 24; exact Calls.quiet_of_same (qL _)) | (go_at_call 23; exact Calls.quiet_of_same (qE _)) | (go_at_call 22; exact Calls.quiet_of_same (num_any _ _)))
    go_wp2
    go_ret
    rw [HTE.out]
    exact ⟨rfl, _, _, ⟨HD.out.blk, HD.out.sl, HD.out.own, HD.out.len⟩, ⟨HM.out.blk, HM.out.sl, HM.out.own, HM.out.len⟩, HT.out.drewN _⟩
  by_cases k3 : k = 3
  · subst k3
    rw [show stp 3 n l e = (tk l e 4).2 by simp [stp]]
    have hr := rword_any br gr v l e he W1 hd1
    have hq := tk_lt l e 4 he
    go_enter Tryd.func21, Tryd.ntmps21
    go_wp2_with fail
    refine hr.mono ?_
    rintro r w2 ⟨rfl, v2, hd2, s2⟩
    have hm2 := hm1.rstep s2 (Ne.symm n1) n3
    have hf := rfixed_any bm gm vm l e he 4 (by decide) w2 hm2
    have hN : numL (tk l e 4).1 < 4294967296 := by
      have h1 := numL_lt (tk l e 4).1
      have h2 : (tk l e 4).1.length ≤ 4 := tk_len l e 4
      have h3 : 2 ^ (8 * (tk l e 4).1.length) ≤ 2 ^ 32 := Nat.pow_le_pow_right (by decide) (by omega)
      omega
    rw [show (((4 : Nat) : Int)) = 4 by rfl] at hf
    generalize numL (tk l e 4).1 = NN at *
    clear hr
    go_wp2_with fail
    refine hf.mono ?_
    rintro r w3 ⟨rfl, vm3, hm3, s3⟩
    have hd3 := hd2.rstep s3 n1 n2
    have ht3 := (ht1.trans (TStep.r s2)).trans (TStep.m s3)
    clear hf hd2 hm2
    have ho := hd3.own
    have hcL := hm3.c0
    have hcE := hm3.c1
    obtain ⟨pL, cL, eL, _⟩ := hm3.sl.ex
    rw [eL] at hcL
    have qL := fun q => left_any br gr _ _ _ (w3.drewN q) ⟨hd3.blk, hd3.sl, hd3.own, hd3.len⟩
    have qE := fun q => err_any br gr _ _ _ (w3.drewN q) ⟨hd3.blk, hd3.sl, hd3.own, hd3.len⟩
    have kL : ∀ q, (w3.drewN q).cell? ⟨bm, 0, none⟩ = _ := fun q => hcL
    have kE : ∀ q, (w3.drewN q).cell? ⟨bm, 1, none⟩ = _ := fun q => hcE
    have HD : Hid _ := hd3
    have HM : Hid _ := hm3
    have HT : Hid _ := ht3
    generalize hte : (tk l e 4).2 = t at *
    obtain ⟨tl, te⟩ := t
    simp only at qL qE kL kE
    have HTE : Hid _ := hte
    clear hte
    clear ho hcL hcE
    go_wp2_with fail
    go_quiet (first | (go_at_call 24; exact Calls.quiet_of_same (qL _)) | (go_at_call 23; exact Calls.quiet_of_same (qE _)) | (go_at_call 22; exact Calls.quiet_of_same (num_any _ _)))
    go_wp2
    go_ret
    rw [HTE.out]
    exact ⟨rfl, _, _, ⟨HD.out.blk, HD.out.sl, HD.out.own, HD.out.len⟩, ⟨HM.out.blk, HM.out.sl, HM.out.own, HM.out.len⟩, HT.out.drewN _⟩
  by_cases k4 : k = 4
  · subst k4
    rw [show stp 4 n l e = (tk l e n).2 by simp [stp]]
    have hr := rbytes_any br gr v l e he n W1 hd1
    have hle := tk_le l e n
    go_enter Tryd.func21, Tryd.ntmps21
    go_wp2_with fail
    refine hr.mono ?_
    rintro r w2 ⟨u2, v2, rfl, hu2, hd2, s2⟩
    have hm2 := hm1.rstep s2 (Ne.symm n1) n3
    have hf := rtake_any bm gm vm l e he n w2 hm2
    have c1' : w2.cell? ⟨bt, 1, none⟩ = some (.int .i64 n) := by rw [World.cell?_of_block (w := W1) (s2.block bt (by omega) (by omega))]; exact c1
    clear hr
    go_wp2_with fail
    refine hf.mono ?_
    rintro r w3 ⟨u3, vm3, ok, rfl, hu3, hm3, s3⟩
    have hd3 := hd2.rstep s3 n1 n2
    have hbm2 : bm < W1.heap.size := by omega
    have hu2' : Row w3 W1.heap.size u2 (tk l e n).1 := hu2.kept fun g e2 hlt => s3.block g hlt (by have := (hu2.lt g e2).1; omega)
    have hz2 := s2.size
    have hz3 := s3.size
    have hap := apart_one w3 W1.heap.size (by omega) u2 (tk l e n).1 hu2' (by omega)
    have cv1 := hu2'.sl.conv (by unfold maxLen; unfold room at hroom; omega)
    have cv2 := hu3.sl.conv (by unfold maxLen; unfold room at hroom; omega)
    obtain ⟨pu, cu, eu, _⟩ := hu2.sl.ex
    subst eu
    have ht3 := (ht1.trans (TStep.r s2)).trans (TStep.m s3)
    clear hf hd2 hm2 hu2 hu2' hu3
    generalize (tk l e n).1 = T1 at *
    go_wp2_with fail
    refine hap.mono ?_
    rintro r w4 ⟨rfl, hb4⟩
    have hd4 : Rd w4 br gr v2 (tk l e n).2.1 (tk l e n).2.2 := ⟨(hb4.block br (by omega)).trans hd3.blk, hd3.sl.kept fun a u hc ho => by
      have hg : a.block < W1.heap.size := by
        rcases hd3.own with e | e
        · rw [e] at ho; cases ho
        · rw [e] at ho; simp at ho; omega
      rw [hb4.cell hg]; exact hc, hd3.own, hd3.len⟩
    have hm4 : Rm w4 bm gm vm3 (tk l e n).2.1 (tk l e n).2.2 := ⟨(hb4.block bm (by omega)).trans hm3.blk, hm3.sl.kept fun a u hc ho => by
      have hg : a.block < W1.heap.size := by
        rcases hm3.own with e | e
        · rw [e] at ho; cases ho
        · rw [e] at ho; simp at ho; omega
      rw [hb4.cell hg]; exact hc, hm3.own, hm3.len⟩
    have ht4 : TStep br bm w w4 := ⟨hb4.os.trans ht3.os, hb4.tape.trans ht3.tape, hb4.output.trans ht3.output, Nat.le_trans ht3.size hb4.size, fun x hx h1 h2 => (hb4.block x (by omega)).trans (ht3.block x hx h1 h2)⟩
    clear hap hd3 hm3 cv1 cv2
    have ho := hd4.own
    have hcL := hm4.c0
    have hcE := hm4.c1
    obtain ⟨pL, cL, eL, _⟩ := hm4.sl.ex
    rw [eL] at hcL
    have qL := fun q => left_any br gr _ _ _ (w4.drewN q) ⟨hd4.blk, hd4.sl, hd4.own, hd4.len⟩
    have qE := fun q => err_any br gr _ _ _ (w4.drewN q) ⟨hd4.blk, hd4.sl, hd4.own, hd4.len⟩
    have kL : ∀ q, (w4.drewN q).cell? ⟨bm, 0, none⟩ = _ := fun q => hcL
    have kE : ∀ q, (w4.drewN q).cell? ⟨bm, 1, none⟩ = _ := fun q => hcE
    have HD : Hid _ := hd4
    have HM : Hid _ := hm4
    have HT : Hid _ := ht4
    generalize hte : (tk l e n).2 = t at *
    obtain ⟨tl, te⟩ := t
    simp only at qL qE kL kE
    have HTE : Hid _ := hte
    clear hte
    clear ho hcL hcE
    go_wp2_with fail
    go_quiet (first | (go_at_call 24; exact Calls.quiet_of_same (qL _)) | (go_at_call 23; exact Calls.quiet_of_same (qE _)) | (go_at_call 22; exact Calls.quiet_of_same (num_any _ _)))
    go_wp2
    go_ret
    rw [HTE.out]
    exact ⟨rfl, _, _, ⟨HD.out.blk, HD.out.sl, HD.out.own, HD.out.len⟩, ⟨HM.out.blk, HM.out.sl, HM.out.own, HM.out.len⟩, HT.out.drewN _⟩
  by_cases k5 : k = 5
  · subst k5
    rw [show stp 5 n l e = (nr l e).2 by simp [stp]]
    have hr := rnumber_any br gr v l e he W1 hd1
    go_enter Tryd.func21, Tryd.ntmps21
    go_wp2_with fail
    refine hr.mono ?_
    rintro r w2 ⟨rfl, v2, hd2, s2⟩
    have hm2 := hm1.rstep s2 (Ne.symm n1) n3
    have hf := rrnumber_any bm gm vm l e he w2 hm2
    unfold NR at hf
    generalize (nr l e).1 = NN at *
    clear hr
    go_wp2_with fail
    refine hf.mono ?_
    rintro r w3 ⟨rfl, vm3, hm3, s3⟩
    have hd3 := hd2.rstep s3 n1 n2
    have ht3 := (ht1.trans (TStep.r s2)).trans (TStep.m s3)
    clear hf hd2 hm2
    have ho := hd3.own
    have hcL := hm3.c0
    have hcE := hm3.c1
    obtain ⟨pL, cL, eL, _⟩ := hm3.sl.ex
    rw [eL] at hcL
    have qL := fun q => left_any br gr _ _ _ (w3.drewN q) ⟨hd3.blk, hd3.sl, hd3.own, hd3.len⟩
    have qE := fun q => err_any br gr _ _ _ (w3.drewN q) ⟨hd3.blk, hd3.sl, hd3.own, hd3.len⟩
    have kL : ∀ q, (w3.drewN q).cell? ⟨bm, 0, none⟩ = _ := fun q => hcL
    have kE : ∀ q, (w3.drewN q).cell? ⟨bm, 1, none⟩ = _ := fun q => hcE
    have HD : Hid _ := hd3
    have HM : Hid _ := hm3
    have HT : Hid _ := ht3
    generalize hte : (nr l e).2 = t at *
    obtain ⟨tl, te⟩ := t
    simp only at qL qE kL kE
    have HTE : Hid _ := hte
    clear hte
    clear ho hcL hcE
    go_wp2_with fail
    go_quiet (first | (go_at_call 24; exact Calls.quiet_of_same (qL _)) | (go_at_call 23; exact Calls.quiet_of_same (qE _)) | (go_at_call 22; exact Calls.quiet_of_same (num_any _ _)))
    go_wp2
    go_ret
    rw [HTE.out]
    exact ⟨rfl, _, _, ⟨HD.out.blk, HD.out.sl, HD.out.own, HD.out.len⟩, ⟨HM.out.blk, HM.out.sl, HM.out.own, HM.out.len⟩, HT.out.drewN _⟩
  · rw [show stp k n l e = (l, e) by simp [stp, k1, k2, k3, k4, k5]]
    have j1 : (k == 1) = false := by simp [k1]
    have j2 : (k == 2) = false := by simp [k2]
    have j3 : (k == 3) = false := by simp [k3]
    have j4 : (k == 4) = false := by simp [k4]
    have j5 : (k == 5) = false := by simp [k5]
    go_enter Tryd.func21, Tryd.ntmps21
    have ho := hd1.own
    have hcL := hm1.c0
    have hcE := hm1.c1
    obtain ⟨pL, cL, eL, _⟩ := hm1.sl.ex
    rw [eL] at hcL
    have qL := fun q => left_any br gr _ _ _ (W1.drewN q) ⟨hd1.blk, hd1.sl, hd1.own, hd1.len⟩
    have qE := fun q => err_any br gr _ _ _ (W1.drewN q) ⟨hd1.blk, hd1.sl, hd1.own, hd1.len⟩
    have kL : ∀ q, (W1.drewN q).cell? ⟨bm, 0, none⟩ = _ := fun q => hcL
    have kE : ∀ q, (W1.drewN q).cell? ⟨bm, 1, none⟩ = _ := fun q => hcE
    have HD : Hid _ := hd1
    have HM : Hid _ := hm1
    have HT : Hid _ := ht1
    clear ho hcL hcE
    go_wp2_with fail
    go_quiet (first | (go_at_call 24; exact Calls.quiet_of_same (qL _)) | (go_at_call 23; exact Calls.quiet_of_same (qE _)) | (go_at_call 22; exact Calls.quiet_of_same (num_any _ _)))
    go_wp2
    go_ret
    exact ⟨rfl, _, _, ⟨HD.out.blk, HD.out.sl, HD.out.own, HD.out.len⟩, ⟨HM.out.blk, HM.out.sl, HM.out.own, HM.out.len⟩, HT.out.drewN _⟩
end Go.Proofs.YthphmeckcmhijaaDoor
