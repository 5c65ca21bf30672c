import Derived.Test.YtlljelfplffglabDoorHRBy
import Derived.Test.YtlljelfplffglabDoorKSum
/-! The reference's Digest. -/
namespace Go.Proofs.YtlljelfplffglabDoor.H
open Go.RowKit
open Go.Proofs
open Go.Proofs.YtlljelfplffglabDoor.K
set_option linter.unusedVariables false
set_option linter.unusedSimpArgs false
set_option maxHeartbeats 4000000
set_option maxRecDepth 100000
theorem dgB_len (a b c d e : Int) (s : List UInt8) (ts : List Tn) : (dgB a b c d e s ts).length = 28 + s.length + 7 * ts.length := by
  unfold dgB
  rw [List.length_append, List.length_append, List.length_append, ws_len, w4_len, tbs_len]
  simp only [List.length_cons, List.length_nil]; omega
theorem rdigest_any (z0 z1 z2 z3 z4 : Int) (vs vt : Value) (sc : List UInt8) (ts : List Tn) (hl : sc.length + 7 * ts.length + 4096 ≤ room) (w : World) (hs : Sl w vs sc) (ht : S.Ls eT 3 w vt ts) :
    Calls Tryd.prog 15 #[.agg #[.int .i64 z0, .int .i64 z1, .int .i64 z2, .int .i64 z3, .int .i64 z4, vs, vt]] w fun e w' => e = .returned (.int .u32 (crc (dgB z0 z1 z2 z3 z4 sc ts) : Int)) ∧ Below w.heap.size w w' := by
  obtain ⟨ps, cs, rfl, _⟩ := hs.ex
  obtain ⟨pt, ct, rfl, _, _⟩ := ht.ex
  have hb0 : Below w.heap.size w (w.alloc (.cells #[.int .i64 z0, .int .i64 z1, .int .i64 z2, .int .i64 z3, .int .i64 z4, .slice ps sc.length cs, .slice pt ts.length ct] 50)) := (Below.refl _ _).alloc (Nat.le_refl _) _
  have hn := heap_alloc_new w (.cells #[.int .i64 z0, .int .i64 z1, .int .i64 z2, .int .i64 z3, .int .i64 z4, .slice ps sc.length cs, .slice pt ts.length ct] 50)
  obtain ⟨w0, hw0⟩ : ∃ w0, w.alloc (.cells #[.int .i64 z0, .int .i64 z1, .int .i64 z2, .int .i64 z3, .int .i64 z4, .slice ps sc.length cs, .slice pt ts.length ct] 50) = w0 := ⟨_, rfl⟩
  rw [hw0] at hb0 hn
  have hc := bytes_any z0 z1 z2 z3 z4 _ _ sc ts hl w0 (hs.below hb0) (ht.below hb0)
  have q0 : w0.cell? ⟨w.heap.size, 0, none⟩ = some (.int .i64 z0) := cell_of_any _ _ 0 _ _ _ hn
  have q1 : w0.cell? ⟨w.heap.size, 1, none⟩ = some (.int .i64 z1) := cell_of_any _ _ 1 _ _ _ hn
  have q2 : w0.cell? ⟨w.heap.size, 2, none⟩ = some (.int .i64 z2) := cell_of_any _ _ 2 _ _ _ hn
  have q3 : w0.cell? ⟨w.heap.size, 3, none⟩ = some (.int .i64 z3) := cell_of_any _ _ 3 _ _ _ hn
  have q4 : w0.cell? ⟨w.heap.size, 4, none⟩ = some (.int .i64 z4) := cell_of_any _ _ 4 _ _ _ hn
  have q5 : w0.cell? ⟨w.heap.size, 5, none⟩ = some (.slice ps sc.length cs) := cell_of_any _ _ 5 _ _ _ hn
  have q6 : w0.cell? ⟨w.heap.size, 6, none⟩ = some (.slice pt ts.length ct) := cell_of_any _ _ 6 _ _ _ hn
  have HB := hid hb0
  have hlen := dgB_len z0 z1 z2 z3 z4 sc ts
  obtain ⟨LL, hLL⟩ : ∃ LL, dgB z0 z1 z2 z3 z4 sc ts = LL := ⟨_, rfl⟩
  rw [hLL] at hc hlen ⊢
  clear hs ht hb0 hn hLL
  go_enter Tryd.func15, Tryd.ntmps15
  go_upto_region 1 with fail
  try rw [hw0]
  clear hw0
  go_wp2_with fail
  refine hc.mono ?_
  rintro e w1 ⟨v1, rfl, hr, hb1⟩
  have hb := HB.out.trans (hb1.mono HB.out.size)
  obtain ⟨p1, c1, rfl⟩ := own_val hr
  obtain ⟨p2, c2, e2, hB⟩ := hr.sl.ex
  simp only [Value.slice.injEq] at e2
  obtain ⟨rfl, _, rfl⟩ := e2
  have hs := rsum_any p1 c1 LL (by unfold room at hl; unfold maxLen; omega) w1 hB
  have HE := hid hb
  clear hc hr hb1 hb hB q0 q1 q2 q3 q4 q5 q6
  obtain ⟨n1, hn1⟩ : ∃ n1, LL.length = n1 := ⟨_, rfl⟩
  rw [hn1] at hs ⊢
  clear hn1 hlen
  go_wp2_with fail
  refine hs.mono ?_
  rintro e w2 ⟨rfl, rfl⟩
  clear hs
  go_wp2
  go_ret
  exact ⟨rfl, HE.out⟩
end Go.Proofs.YtlljelfplffglabDoor.H
