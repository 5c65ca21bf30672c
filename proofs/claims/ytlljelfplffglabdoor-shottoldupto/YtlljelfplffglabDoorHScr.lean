import Derived.Test.YtlljelfplffglabDoorHPk
import Derived.Test.YtlljelfplffglabDoorHRm
/-! make([]byte, 3072); the statements' own fixed, screen. -/
namespace Go.Proofs.YtlljelfplffglabDoor.H
open Go.RowKit
open Go.Proofs
open Go.Proofs.YtlljelfplffglabDoor.K
set_option linter.unusedVariables false
set_option linter.unusedSimpArgs false
set_option maxHeartbeats 2000000
set_option maxRecDepth 100000
def zs : List UInt8 := List.replicate 3072 0
theorem zs_len : zs.length = 3072 := by simp [zs]
theorem made_bv (n : Nat) : madeCells (Value.int .u8 0).cells n = (bv (List.replicate n 0)).toArray := by
  apply Array.ext'
  have := toList_madeCells_one (.int .u8 0) n
  rw [show (Value.int IntKind.u8 0).cells = #[.int .u8 0] from rfl, this]
  simp [bv]
theorem make_full (W : World) : ∃ w', (Instr.makeSlice 23 (.int .i64 3072) (.int .i64 3072)).run Tryd.prog W = .ok (.slice (some ⟨W.heap.size, 0, none⟩) 3072 3072) w' ∧ Row w' W.heap.size (.slice (some ⟨W.heap.size, 0, none⟩) 3072 3072) zs ∧ Below W.heap.size W w' := by
  obtain ⟨i0, hi, hz0, hz1, hz2⟩ := info_parts info5
  have hr := run_make (P := Tryd.prog) W 23 5 i0 (.int .u8 0) Tryd.underlying23 hi hz0 .i64 .i64 3072 3072 (by omega) (by omega) (by rw [hz2]; decide) (by omega)
  refine ⟨_, hr, ?_, (Below.refl _ _).alloc (Nat.le_refl _) _⟩
  rw [hz1]
  have e : madeCells (Value.int .u8 0).cells (Int.toNat 3072 * 1) = (bv zs).toArray := made_bv 3072
  rw [e]
  have := row_of_alloc W W.heap.size (Nat.le_refl _) zs (by rw [zs_len]; decide)
  rw [zs_len] at this
  exact this
def s1 : List UInt8 := zs.set 1 171
theorem s1_len : s1.length = 3072 := by rw [s1, List.length_set, zs_len]
theorem s1_pk : pk s1 = [0, 0, 0, 171, 255, 0, 255, 0, 255, 0, 255, 0, 255, 0, 255, 0, 255, 0, 255, 0, 255, 0, 255, 0, 255, 0, 253, 0] := by kernel_rfl
theorem s1_at (k : Nat) (b : UInt8) (h : s1[k]? = some b) : s1.getD k 0 = b := by rw [List.getD_eq_getElem?_getD, h]; rfl
theorem s1_art6 : (art s1).take 6 = [46, 46, 97, 98, 46, 46] := by
  have hp := artTo_pre s1 3 3069
  obtain ⟨t, ht⟩ := hp
  have h3 : artTo s1 3 = [46, 46, 97, 98, 46, 46] := by kernel_rfl
  rw [art, show 3072 = 3 + 3069 from rfl, ht, h3]; rfl
theorem s1_art128 : (art s1)[128]? = some 10 := artTo_nl s1 63 3072 (by omega) (by omega)
theorem size_list (l : List UInt8) : (⟨l.toArray⟩ : ByteArray).size = l.length := by simp [ByteArray.size]
theorem ext_list (l : List UInt8) (n : Nat) : (⟨l.toArray⟩ : ByteArray).extract 0 n = ⟨(l.take n).toArray⟩ := by
  apply ByteArray.ext
  simp [ByteArray.data_extract]
theorem ix_list (W : World) (k : IntKind) (l : List UInt8) (n : Nat) (b : UInt8) (h : l[n]? = some b) : (Instr.index 9 (.string ⟨l.toArray⟩) (.int k (n : Int))).run Tryd.prog W = .ok (.int .u8 (b.toNat : Int)) W := by
  have hlt : n < l.length := (List.getElem?_eq_some_iff.1 h).1
  have hi : (0 : Int) ≤ n ∧ (n : Int) < (⟨l.toArray⟩ : ByteArray).size := by rw [size_list]; omega
  rw [run_index_string (P := Tryd.prog) W 9 ⟨l.toArray⟩ k n Tryd.underlying9, dif_pos hi]
  have e : (⟨l.toArray⟩ : ByteArray)[n]? = some b := by
    rw [ByteArray.getElem?_lt' _ _ (by rw [size_list]; exact hlt)]
    congr 1
    exact (List.getElem_eq_iff hlt).2 h
  rw [ByteArray.getElem?_lt' _ _ (by rw [size_list]; exact hlt)] at e
  simp only [Option.some.injEq] at e
  simp only [Int.toNat_natCast, e]
theorem fixed_any (w : World) : Calls Tryd.prog 5 #[] w fun e w' => e = .returned (.bool true) ∧ Below w.heap.size w w' := by
  obtain ⟨W0, hmk, hr0, hb0⟩ := make_full w
  have hr1 := row_store hr0 1 (by rw [zs_len]; omega) 171
  have hb1 : Below w.heap.size w (W0.setCell ⟨w.heap.size, 1, none⟩ (.int .u8 ((171 : UInt8).toNat : Int))) := hb0.setCell (p := ⟨w.heap.size, 1, none⟩) (Nat.le_refl _) _
  have hc0 := row_cell hr0 1 (by rw [zs_len]; omega)
  have hf0 := row_fz hr0 1
  have ha := art_any _ _ _ hr1.sl
  have hlen : (zs.set 1 171).length = 3072 := s1_len
  simp only [hlen, if_true] at ha
  have e1 : art (zs.set 1 171) = art s1 := rfl
  rw [e1] at ha
  have z0 : zs[1]'(by rw [zs_len]; omega) = 0 := by simp [zs]
  rw [z0] at hc0
  have HR := hid (And.intro hr1 hb1)
  clear hr1 hb1 hr0 hb0
  go_enter Tryd.func5, Tryd.ntmps5
  go_wp2_with fail
  refine ha.mono ?_
  rintro e w1 ⟨rfl, hb1⟩
  have hr2 := HR.out.1.below hb1
  have hp := pack_any _ _ _ hr2.sl
  simp only [hlen, if_true] at hp
  rw [show pk (zs.set 1 171) = pk s1 from rfl] at hp
  have hb2 := HR.out.2.trans (hb1.mono HR.out.2.size)
  have HB := hid hb2
  clear hb1 hb2 hr2 HR ha hmk hc0 hf0
  go_wp2_with fail
  refine hp.mono ?_
  rintro e w2 ⟨u, rfl, hu, hb3⟩
  have hb4 := HB.out.trans (hb3.mono HB.out.size)
  have HB4 := hid hb4
  clear hb3 hb4 HB hp
  obtain ⟨pu, cu, hue⟩ := own_val hu
  rw [s1_pk] at hu hue
  have hue2 : u = .slice pu 28 cu := hue
  subst hue2
  obtain ⟨gu, cu', hge⟩ := own_pos hu (by simp)
  have hge2 : Value.slice pu 28 cu = .slice (some ⟨gu, 0, none⟩) 28 cu' := hge
  simp only [Value.slice.injEq] at hge2
  obtain ⟨rfl, _, rfl⟩ := hge2
  have k26 : w2.cell? ⟨gu, 26, none⟩ = some (.int .u8 253) := rowAt hu 26 253 (by rfl)
  have hcap : 28 ≤ cu := by
    rcases hu.2 with ⟨h, _⟩ | ⟨_, _, _, h, _, _, h2, _⟩
    · cases h
    · simp only [Value.slice.injEq] at h; rw [h.2.2]; simpa using h2
  have h6 := Sl.conv (Sl.take hu.sl 6 (by simp)) (by simp [maxLen])
  have l6 : ([0, 0, 0, 171, 255, 0, 255, 0, 255, 0, 255, 0, 255, 0, 255, 0, 255, 0, 255, 0, 255, 0, 255, 0, 255, 0, 253, 0] : List UInt8).take 6 = [0, 0, 0, 171, 255, 0] := rfl
  rw [l6] at h6
  have hs6 := fun W => slice_to W (some ⟨gu, 0, none⟩) 28 cu 6 6 rfl (by omega)
  have hsz := size_list (art s1)
  rw [art_len] at hsz
  have hex := ext_list (art s1) 6
  rw [s1_art6] at hex
  have hix : ∀ W, (Instr.index 9 (.string ⟨(art s1).toArray⟩) (.int .i64 128)).run Tryd.prog W = .ok (.int .u8 10) W := fun W => ix_list W .i64 (art s1) 128 10 s1_art128
  obtain ⟨SA, hSA⟩ : ∃ SA : ByteArray, ⟨(art s1).toArray⟩ = SA := ⟨_, rfl⟩
  rw [hSA] at hsz hex hix ⊢
  clear hSA hue hge hu l6 e1 z0 hlen
  go_wp2
  go_ret
  exact ⟨rfl, HB4.out⟩
end Go.Proofs.YtlljelfplffglabDoor.H
