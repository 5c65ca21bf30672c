import Derived.Test.YtmlpijjjkpnioaaDoorCSame
/-! tiny, known: the empty cartridge, there and back. -/
namespace Go.Proofs.YtmlpijjjkpnioaaDoor.C
open Go.RowKit
open Go.Proofs
open Go.Proofs.YtmlpijjjkpnioaaDoor.K
set_option linter.unusedVariables false
set_option linter.unusedSimpArgs false
set_option maxHeartbeats 1000000
set_option maxRecDepth 100000
def tinyL : List UInt8 := [87, 73, 83, 80, 1, 2, 0, 0, 1, 0, 28, 0, 0, 0, 0, 0, 0, 0, 2, 0, 28, 0, 0, 0, 0, 0, 0, 0]
theorem tiny_enc : encB ct0 = tinyL ++ low 4 (crc tinyL) := rfl
theorem may0 : may ct0 = true := rfl
theorem fit0 : Fit ct0 := ⟨by decide, fun x hx => by simp [ct0] at hx⟩
theorem tiny_any (w : World) : Calls Tryd.prog 41 #[] w fun e w' => ∃ u, e = .returned u ∧ Row w' w.heap.size u (encB ct0) ∧ Below w.heap.size w w' := by
  obtain ⟨W1, hW1⟩ : ∃ W1, W1 = w.alloc (.cells (bv tinyL).toArray 5) := ⟨_, rfl⟩
  have hr1 : Row W1 w.heap.size (.slice (some ⟨w.heap.size, 0, none⟩) 28 28) tinyL := by rw [hW1]; exact row_of_alloc w w.heap.size (Nat.le_refl _) tinyL (by simp [tinyL, maxLen])
  have hb1 : Below w.heap.size w W1 := by rw [hW1]; exact (Below.refl _ _).alloc (Nat.le_refl _) _
  have hbs : Bs W1 (some ⟨w.heap.size, 0, none⟩) tinyL := by
    obtain ⟨p, c, e, h⟩ := hr1.sl.ex
    cases e
    exact h
  have hsu := rsum_any (some ⟨w.heap.size, 0, none⟩) 28 tinyL (by simp [tinyL, maxLen]) W1 hbs
  rw [show tinyL.length = 28 from rfl] at hsu
  have hlt := crc_lt tinyL
  rw [tiny_enc]
  generalize hC : crc tinyL = C at *
  have hlo := low_any C (by omega) 4 (by omega) W1
  have HR := hid hr1
  have HB := hid hb1
  have hwe : (w.alloc (.cells #[.int .u8 87, .int .u8 73, .int .u8 83, .int .u8 80, .int .u8 1, .int .u8 2, .int .u8 0, .int .u8 0, .int .u8 1, .int .u8 0, .int .u8 28, .int .u8 0, .int .u8 0, .int .u8 0, .int .u8 0, .int .u8 0, .int .u8 0, .int .u8 0, .int .u8 2, .int .u8 0, .int .u8 28, .int .u8 0, .int .u8 0, .int .u8 0, .int .u8 0, .int .u8 0, .int .u8 0, .int .u8 0] 5)) = W1 := by rw [hW1]; rfl
  have x1 : (C : Int) % 18446744073709551616 = C := by omega
  clear hr1 hb1 hbs hW1 hC
  go_enter Tryd.func41, Tryd.ntmps41
  go_wp2_with fail
  try rw [hwe]
  refine hsu.mono ?_
  rintro e w2 ⟨rfl, hw2⟩
  obtain rfl := hw2.symm
  clear hsu hwe
  go_wp2_with fail
  refine hlo.mono ?_
  rintro e w3 ⟨u, rfl, hu, hb3⟩
  have hr3 := HR.out.below hb3
  have hB3 := HB.out.trans (hb3.mono HB.out.size)
  have hsl := hu.sl
  obtain ⟨up, uc, huu, _⟩ := hu.sl.ex
  clear hlo hb3 hu
  subst huu
  go_wp2_with (first | (at_builtin; refine wpList_append_bytes _ rfl _ _ rfl w.heap.size _ tinyL rfl hr3 _ (low 4 C) rfl hsl (by rw [low_len]; simp [tinyL, room]) hB3.size ?_))
  intro v' w4 hr4 hg4
  have HR4 := hid hr4
  have HB4 := hid (hg4.belowAll (fun g e => (hr3.lt g e).1) hB3 (Nat.le_refl _))
  obtain ⟨vp, vc, hvv, _⟩ := hr4.sl.ex
  generalize (tinyL ++ low 4 C).length = nn at hvv
  subst hvv
  clear hr4 hg4 hr3 hB3 hsl
  go_wp2
  go_ret
  exact ⟨_, rfl, HR4.out, HB4.out⟩
theorem isc0 (W : World) : IsC W (.agg #[.slice none 0 0, .int .u16 0, .slice none 0 0, .slice none 0 0]) ct0 none 0 none 0 (.slice none 0 0) :=
  ⟨rfl, .inl ⟨rfl, rfl⟩, by simp [ct0], fun i t ht => by simp [ct0] at ht, by simp [ct0], fun i t ht => by simp [ct0] at ht, by simp [ct0], fit0, fun x hx => by simp [ct0] at hx, fun x hx => by simp [ct0] at hx⟩
end Go.Proofs.YtmlpijjjkpnioaaDoor.C
