import Derived.Test.YtcmaccefjlgbfaaAwake
/-! SameBanks, SameImage, image. -/
namespace Go.Proofs.Ytcmaccefjlgbfaa
open Go.RowKit
open Go.Proofs
set_option linter.unusedVariables false
set_option linter.unusedSimpArgs false
theorem Sl.conv {W : World} {v : Value} {l : List UInt8} (h : Sl W v l) : (convert 35 9 v).run Try.prog W = .ok (.string ⟨l.toArray⟩) W := by
  rcases h with ⟨rfl, rfl⟩ | ⟨x, c, rfl, _, h⟩
  · rw [run_convert_bytes_string W 35 9 5 none 0 0 Try.underlying35 Try.underlying5 Try.underlying9]; rfl
  · exact run_convert_bytes_back (P := Try.prog) W 35 9 5 x c l Try.underlying35 Try.underlying5 Try.underlying9 (fun j hj => h j _ (by simp))
set_option maxHeartbeats 2000000
set_option maxRecDepth 100000
theorem sameBanks_any (p p' : Option Addr) (c c' : Nat) (bs : List (Int × List UInt8)) (hl : bs.length ≤ room) (w : World) (h : BnS w p bs) (h' : BnS w p' bs) :
    Calls Try.prog 46 #[.slice p bs.length c, .slice p' bs.length c'] w fun e w' => e = .returned (.bool true) ∧ ∃ q, w' = w.drewN q := by
  unfold room at hl
  go_enter Try.func46, Try.ntmps46
  go_wp2
  go_loopw [13] (fun i wr => ∃ k q : Nat, k ≤ bs.length ∧ i = .int .i64 (k : Int) ∧ wr = w.drewN q) (fun i _ => bs.length - (intOf i).toNat)
  case atStart => exact ⟨0, 0, by omega, rfl, rfl⟩
  case round =>
    obtain ⟨k, q, hk, rfl, rfl⟩ := hrel
    by_cases hlt : k < bs.length
    · have i1 : (k : Int) < bs.length := by omega
      obtain ⟨b, o, dv, rfl, e1, e2, e3, e4⟩ := h k bs[k] (List.getElem?_eq_getElem hlt)
      obtain ⟨b', o', dv', rfl, f1, f2, f3, f4⟩ := h' k bs[k] (List.getElem?_eq_getElem hlt)
      have v1 := fun q => Sl.conv (W := w.drewN q) e3
      have v2 := fun q => Sl.conv (W := w.drewN q) f3
      obtain ⟨dp, dc, rfl, _⟩ := e3.ex
      obtain ⟨dp', dc', rfl, _⟩ := f3.ex
      generalize hn : (bs[k]).1 = n at *
      generalize hL : (bs[k]).2.length = L at *
      generalize hs : (⟨(bs[k]).2.toArray⟩ : ByteArray) = s at *
      clear e3 f3
      have g1 : ∀ q, (w.drewN q).cell? ⟨b, o + k * 2, none⟩ = some (.int .i64 n) := fun q => e1
      have g2 : ∀ q, (w.drewN q).cell? ⟨b, o + k * 2 + 1, none⟩ = some (.slice dp L dc) := fun q => e2
      have g3 : ∀ q, (w.drewN q).cell? ⟨b', o' + k * 2, none⟩ = some (.int .i64 n) := fun q => f1
      have g4 : ∀ q, (w.drewN q).cell? ⟨b', o' + k * 2 + 1, none⟩ = some (.slice dp' L dc') := fun q => f2
      go_wp2_with fail
      go_quiet (fail)
      go_wp2
      go_roundw
      case rel =>
        first
          | exact ⟨k + 1, _, by omega, by go_num, rfl⟩
          | ((repeat apply Exists.intro); refine ⟨⟨k + 1, _, by omega, ?_, rfl⟩, rfl⟩; go_num)
      case measure => simp [intOf]; omega
    · obtain rfl : k = bs.length := by omega
      go_wp2
      go_ret
      exact ⟨rfl, _, rfl⟩
/-- An image, as a value. -/
def img (pb : Option Addr) (nb cb : Nat) (rv sv : Value) (m : MS) : Value := .agg #[.slice pb nb cb, rv, sv, .int .u8 m.ch, .int .u8 m.pad, .int .u16 m.pitch, .int .u8 m.vol, .int .u16 m.time]
theorem sameImage_any (p p' : Option Addr) (c c' : Nat) (bs : List (Int × List UInt8)) (hl : bs.length ≤ room) (rv rv' sv sv' : Value) (ram scr : List UInt8) (m : MS) (w : World) (h : BnS w p bs) (h' : BnS w p' bs)
    (r : Sl w rv ram) (r' : Sl w rv' ram) (s : Sl w sv scr) (s' : Sl w sv' scr) :
    Calls Try.prog 26 #[img p bs.length c rv sv m, img p' bs.length c' rv' sv' m] w fun e w' => e = .returned (.bool true) ∧ Below w.heap.size w w' := by
  obtain ⟨W1, hW1⟩ : ∃ W1, W1 = (w.alloc (.cells #[.slice p bs.length c, rv, sv, .int .u8 m.ch, .int .u8 m.pad, .int .u16 m.pitch, .int .u8 m.vol, .int .u16 m.time] 56)).alloc (.cells #[.slice p' bs.length c', rv', sv', .int .u8 m.ch, .int .u8 m.pad, .int .u16 m.pitch, .int .u8 m.vol, .int .u16 m.time] 56) := ⟨_, rfl⟩
  have hB1 : Below w.heap.size w W1 := by rw [hW1]; exact ((Below.refl _ w).alloc (Nat.le_refl _) _).alloc (by simp) _
  have hsb := sameBanks_any p p' c c' bs hl W1 (h.below hB1) (h'.below hB1)
  have v1 := fun q => Sl.conv (W := W1.drewN q) (Sl.below (W' := W1) r hB1)
  have v2 := fun q => Sl.conv (W := W1.drewN q) (Sl.below (W' := W1) r' hB1)
  have v3 := fun q => Sl.conv (W := W1.drewN q) (Sl.below (W' := W1) s hB1)
  have v4 := fun q => Sl.conv (W := W1.drewN q) (Sl.below (W' := W1) s' hB1)
  obtain ⟨rp, rc, rfl, _⟩ := r.ex
  obtain ⟨rp', rc', rfl, _⟩ := r'.ex
  obtain ⟨sp, sc', rfl, _⟩ := s.ex
  obtain ⟨sp', sc'', rfl, _⟩ := s'.ex
  have HB : Hid _ := hB1
  clear hB1 h h' r r' s s'
  subst hW1
  unfold img
  go_enter Try.func26, Try.ntmps26
  go_wp2_with fail
  refine hsb.mono ?_
  rintro e w2 ⟨rfl, q, rfl⟩
  go_wp2
  go_ret
  exact ⟨rfl, HB.out.os, HB.out.tape, HB.out.output, HB.out.size, HB.out.block⟩
theorem image_any (p : Option Addr) (n c : Nat) (rp sp : Option Addr) (rn rc sn sc' : Nat) (m : MS) (w : World) :
    Calls Try.prog 27 #[img p n c (.slice rp rn rc) (.slice sp sn sc') m] w fun e w' => e = .returned (img p n c (.slice rp rn rc) (.slice sp sn sc') m) ∧ Below w.heap.size w w' := by
  unfold img
  go_enter Try.func27, Try.ntmps27
  go_wp2
  exact bodyPost_ret (v := .agg #[.slice p n c, .slice rp rn rc, .slice sp sn sc', .int .u8 m.ch, .int .u8 m.pad, .int .u16 m.pitch, .int .u8 m.vol, .int .u16 m.time]) (by simp [results, Try.results27, go_sem]) rfl ⟨rfl, ((Below.refl _ w).alloc (Nat.le_refl _) _).alloc (by simp) _⟩
end Go.Proofs.Ytcmaccefjlgbfaa
