import Derived.Test.YtoemoiehjdmheaaGreatTMath
import Derived.Test.YtoemoiehjdmheaaGreatProg
import Derived.WalkKit
import Derived.WalkSpells
import Derived.WalkLawsBesides
import Derived.Laws.RangeAny
import Derived.Lib.OthersKept
import Derived.Lib.Strings
import Derived.Below
namespace Go.Proofs.YtoemoiehjdmheaaGreat.T
open Go.RowKit
set_option linter.unusedVariables false
theorem digit_yes (r : Nat) (h : dig r < 99) (w : World) :
  Calls Tryz.prog 165 #[.int .i32 r] w fun e w' => e = .returned (.tuple #[.int .i64 (dig r), .bool true]) /\ w' = w := by
 by_cases h1 : 48 <= r /\ r <= 57
 ·have hd : (dig r : Int) = r - 48 := by unfold dig; rw [if_pos h1]; omega
  obtain ⟨a, b⟩ := h1
  rw [hd]
  go_enter Tryz.func165, Tryz.ntmps165
  go_wp2
  go_ret2
  exact ⟨rfl, rfl⟩
 ·by_cases h2 : 97 <= r /\ r <= 102
  ·have hd : (dig r : Int) = r - 97 + 10 := by unfold dig; rw [if_neg h1, if_pos h2]; omega
   obtain ⟨a, b⟩ := h2
   have c : ¬ r <= 57 := by omega
   rw [hd]
   go_enter Tryz.func165, Tryz.ntmps165
   go_wp2
   go_ret2
   exact ⟨rfl, rfl⟩
  ·exfalso; unfold dig at h; rw [if_neg h1, if_neg h2] at h; omega
theorem digit_no (r : Nat) (h : dig r = 99) (w : World) :
  Calls Tryz.prog 165 #[.int .i32 r] w fun e w' => e = .returned (.tuple #[.int .i64 0, .bool false]) /\ w' = w := by
 have hn : ¬ (48 <= r /\ r <= 57) /\ ¬ (97 <= r /\ r <= 102) := by
  unfold dig at h
  by_cases h1 : 48 <= r /\ r <= 57
  ·rw [if_pos h1] at h; omega
  ·by_cases h2 : 97 <= r /\ r <= 102
   ·rw [if_neg h1, if_pos h2] at h; omega
   ·exact ⟨h1, h2⟩
 obtain ⟨h1, h2⟩ := hn
 clear h
 by_cases a : r < 48
 ·have b : r < 97 := by omega
  go_enter Tryz.func165, Tryz.ntmps165
  go_wp2
  go_ret2
  exact ⟨rfl, rfl⟩
 ·have a' : 57 < r := by omega
  by_cases b : r < 97
  ·go_enter Tryz.func165, Tryz.ntmps165
   go_wp2
   go_ret2
   exact ⟨rfl, rfl⟩
  ·have b' : 102 < r := by omega
   go_enter Tryz.func165, Tryz.ntmps165
   go_wp2
   go_ret2
   exact ⟨rfl, rfl⟩
theorem ret_bool {a b : Bool} (h : a = b) : Ending.returned (.bool a) = .returned (.bool b) := by rw [h]
theorem ret_int {k : IntKind} {a b : Int} (h : a = b) : Ending.returned (.int k a) = .returned (.int k b) := by rw [h]
theorem visible_yes (r : Nat) (h : seen r = true) (w : World) :
  Calls Tryz.prog 145 #[.int .i32 r] w fun e w' => e = .returned (.bool true) /\ w' = w := by
 obtain ⟨a, b⟩ : 33 <= r /\ r <= 126 := by simpa [seen] using h
 clear h
 go_enter Tryz.func145, Tryz.ntmps145
 go_wp2
 go_ret
 exact ⟨ret_bool (by simp; omega), rfl⟩
theorem visible_no (r : Nat) (h : seen r = false) (w : World) :
  Calls Tryz.prog 145 #[.int .i32 r] w fun e w' => e = .returned (.bool false) /\ w' = w := by
 have h' : ¬ (33 <= r /\ r <= 126) := by simpa [seen] using h
 clear h
 by_cases a : r < 33
 ·go_enter Tryz.func145, Tryz.ntmps145
  go_wp2
  go_ret
  exact ⟨rfl, rfl⟩
 ·have b : 126 < r := by omega
  go_enter Tryz.func145, Tryz.ntmps145
  go_wp2
  go_ret
  exact ⟨ret_bool (by simp; omega), rfl⟩
theorem visible_any (r : Nat) (w : World) :
  Calls Tryz.prog 145 #[.int .i32 r] w fun e w' => e = .returned (.bool (seen r)) /\ w' = w := by
 cases h : seen r
 ·exact visible_no r h w
 ·exact visible_yes r h w
theorem three (s : ByteArray) (h : s.size = 3) : ∃ a b c : UInt8, s = ⟨#[a, b, c]⟩ := by
 obtain ⟨⟨l⟩⟩ := s
 match l, h with
 | [a, b, c], _ => exact ⟨a, b, c, rfl⟩
theorem quo_three (s : ByteArray) (h : s.size = 3) :
  quo s.data.toList = (decide ((s[0]'(by omega)).toNat = 39) && (decide ((s[2]'(by omega)).toNat = 39) && seen (s[1]'(by omega)).toNat)) := by
 obtain ⟨a, b, c, rfl⟩ := three s h
 rfl
theorem quo_else (s : ByteArray) (h3 : ¬ s.size = 3) : quo s.data.toList = false := by
 unfold quo
 split
 ·rename_i a c d e; exact absurd (show s.size = 3 by show s.data.size = 3; rw [<- Array.length_toList, e]; rfl) h3
 ·rfl
theorem quoted_any (s : ByteArray) (hs : s.size <= maxLen) (w : World) :
  Calls Tryz.prog 158 #[.string s] w fun e w' => e = .returned (.bool (quo s.data.toList)) /\ w' = w := by
 by_cases h3 : s.size = 3
 ·have hq := quo_three s h3
  have l0 : 0 < s.size := by omega
  have l1 : 1 < s.size := by omega
  have l2 : 2 < s.size := by omega
  by_cases ha : s[0].toNat = 39
  ·by_cases hc : s[2].toNat = 39
   ·have hq : quo s.data.toList = seen s[1].toNat := by rw [hq]; simp [ha, hc]
    rw [hq]
    clear hq hs; have hb1 : s[1].toNat < 256 := s[1].toNat_lt
    go_enter Tryz.func158, Tryz.ntmps158
    go_wp2_with (go_at_call 145; refine (visible_any s[1].toNat _).mono ?_; rintro e w' ⟨rfl, rfl⟩)
    go_ret
    exact ⟨rfl, rfl⟩
   ·have hq : quo s.data.toList = false := by rw [hq]; simp [hc]
    rw [hq]
    clear hq hs
    have hc' : ¬ ((s[2].toNat : Int) = 39) := by omega
    go_enter Tryz.func158, Tryz.ntmps158
    go_wp2_with (go_at_call 145; refine (visible_any _ _).mono ?_; rintro e w' ⟨rfl, rfl⟩)
    go_ret
    exact ⟨rfl, rfl⟩
  ·have hq : quo s.data.toList = false := by rw [hq]; simp [ha]
   rw [hq]
   clear hq hs
   have ha' : ¬ ((s[0].toNat : Int) = 39) := by omega
   go_enter Tryz.func158, Tryz.ntmps158
   go_wp2_with (go_at_call 145; refine (visible_any _ _).mono ?_; rintro e w' ⟨rfl, rfl⟩)
   go_ret
   exact ⟨rfl, rfl⟩
 ·have hq := quo_else s h3
  rw [hq]
  clear hq
  unfold maxLen at hs
  go_enter Tryz.func158, Tryz.ntmps158
  go_wp2
  go_ret
  exact ⟨rfl, rfl⟩
theorem size_list (s : ByteArray) : s.data.toList.length = s.size := by simp
theorem take_snoc (s : ByteArray) (k : Nat) (h : k < s.size) : s.data.toList.take (k + 1) = s.data.toList.take k ++ [s[k]] := by
 rw [List.take_succ_eq_append_getElem (by simpa using h)]; rfl
theorem width_pos (s : ByteArray) (pos : Nat) (h : pos < s.size) : 1 <= (Utf8.decode s pos).2 := by
 by_cases ha : (s[pos]'h).toNat < 128
 ·rw [decode_ascii s pos h ha]; exact Nat.le_refl _
 ·exact (decode_high s pos h (by omega)).2
theorem dig_rune (s : ByteArray) (pos : Nat) (h : pos < s.size) : dig (Utf8.decode s pos).1 = dig (s[pos]'h).toNat /\ (dig (Utf8.decode s pos).1 < 99 -> (Utf8.decode s pos).2 = 1) := by
 by_cases ha : (s[pos]'h).toNat < 128
 ·rw [decode_ascii s pos h ha]; exact ⟨rfl, fun _ => rfl⟩
 ·have := (decode_high s pos h (by omega)).1
  rw [dig_high _ (by omega), dig_high _ (by omega)]
  exact ⟨rfl, fun x => absurd x (by omega)⟩
def nv (b : Nat) (l : List UInt8) : Int := match val b l with | none => 0 | some v => ((min v 65536 : Nat) : Int)
def nb (b : Nat) (l : List UInt8) : Bool := decide (l ≠ []) && (val b l).isSome
theorem nv_some {b : Nat} {l : List UInt8} {v : Nat} (h : val b l = some v) : nv b l = ((min v 65536 : Nat) : Int) := by unfold nv; rw [h]
theorem nv_none {b : Nat} {l : List UInt8} (h : val b l = none) : nv b l = 0 := by unfold nv; rw [h]
theorem nb_none {b : Nat} {l : List UInt8} (h : val b l = none) : nb b l = false := by unfold nb; rw [h]; simp
theorem nb_some {b : Nat} {l : List UInt8} {v : Nat} (h : val b l = some v) : nb b l = decide (l ≠ []) := by unfold nb; rw [h]; simp
theorem ret_pair {a a' : Int} {b b' : Bool} (h1 : a = a') (h2 : b = b') : Ending.returned (.tuple #[.int .i64 a, .bool b]) = .returned (.tuple #[.int .i64 a', .bool b']) := by rw [h1, h2]
theorem str_ne (s : ByteArray) : (!s.toList.isEmpty) = decide (s.data.toList ≠ []) := by
 rw [ByteArray.toList_eq]; cases s.data.toList <;> rfl
set_option maxHeartbeats 1000000 in
set_option maxRecDepth 100000 in
theorem number_any (s : ByteArray) (b : Nat) (hs : s.size <= maxLen) (hb2 : 2 <= b) (hb16 : b <= 16) (w : World) :
  Calls Tryz.prog 160 #[.string s, .int .i64 b] w fun e w' => e = .returned (.tuple #[.int .i64 (nv b s.data.toList), .bool (nb b s.data.toList)]) /\ Below w.heap.size w w' := by
 unfold maxLen at hs
 go_enter Tryz.func160, Tryz.ntmps160
 go_wp2
 go_loopw [6] (fun n wr => ∃ (pos v : Nat), pos <= s.size /\ wr.heap[w.heap.size]? = some (.stringIter s pos) /\ Below w.heap.size w wr /\ val b (s.data.toList.take pos) = some v /\ n = .int .i64 ((min v 65536 : Nat) : Int)) (fun _ wr => s.size - wr.iterPos w.heap.size)
 case atStart =>
  refine ⟨0, 0, Nat.zero_le _, ?_, (Below.refl _ w).alloc (Nat.le_refl _) _, rfl, rfl⟩
  have := World.iter_heap w s 0
  simpa using this
 case round =>
  obtain ⟨pos, v, hpos, hit, hbw, hval, rfl⟩ := hrel
  have hsz : w.heap.size < wr.heap.size := (Array.getElem?_eq_some_iff.1 hit).1
  by_cases hp : pos < s.size
  ·have hnx : ∀ ty, (Instr.next (.pointer (some ⟨w.heap.size, 0, none⟩)) true ty).run Tryz.prog wr = _ := fun ty => Lib.run_next_any_at wr w.heap.size s pos ty hit hp
   have hwd := width_pos s pos hp
   obtain ⟨hdr, hd1⟩ := dig_rune s pos hp
   have hle := decode_le s pos
   have hit2 := Lib.iterAt_heap wr w.heap.size s pos (pos + (Utf8.decode s pos).2) hit
   have hbw2 := Lib.below_iterAt hbw (k := w.heap.size) (Nat.le_refl _) s (pos + (Utf8.decode s pos).2)
   have hts := take_snoc s pos hp
   have HV : Hid (val b (s.data.toList.take (pos + 1)) = stepV b (some v) (dig (Utf8.decode s pos).1)) := by show _ = _; rw [hts, val_snoc, hval, hdr]
   have hnone : ¬ dig (Utf8.decode s pos).1 < b -> val b s.data.toList = none := by
    intro hn
    refine val_take_none b _ (pos + 1) ?_
    rw [HV.out]; unfold stepV; simp [hn]
   clear hts hdr
   generalize hr : (Utf8.decode s pos).1 = r at *
   generalize hw1 : (Utf8.decode s pos).2 = wd at *
   by_cases hd : dig r < b
   ·have hmul : min v 65536 * b <= 65536 * 16 := Nat.mul_le_mul (Nat.min_le_right _ _) hb16
    have hcs := cap_step v b (dig r) 65536 (by omega)
    have hd99 : dig r < 99 := by omega
    have hwd1 : wd = 1 := hd1 hd99
    clear hnone hr hw1 hd1
    subst hwd1
    generalize hm : min v 65536 = m at *
    generalize hmb : m * b = mb at *
    have hmbI : (m : Int) * (b : Int) = (mb : Int) := by rw [<- hmb]; simp
    have hdb : ((dig r : Nat) : Int) < (b : Int) := by omega
    go_wp2_with (go_at_call 165; refine (digit_yes r hd99 _).mono ?_; rintro e w' ⟨rfl, rfl⟩)
    all_goals
     go_roundw
     case rel =>
      refine ⟨pos + 1, v * b + dig r, by omega, hit2, hbw2, ?_, ?_⟩
      ·rw [HV.out]; unfold stepV; simp [hd]
      ·rw [<- hcs]; congr 1; first | omega | (simp; omega)
     case measure =>
      simp only [World.iterPos, hit2, hit]
      omega
   ·have hn := hnone hd
    have Hn : Hid (nv b s.data.toList = 0 /\ nb b s.data.toList = false) := ⟨nv_none hn, nb_none hn⟩
    clear hnone hn HV hr hw1 hd1
    by_cases hd9 : dig r < 99
    ·have hdb : (b : Int) <= ((dig r : Nat) : Int) := by omega
     go_wp2_with (go_at_call 165; refine (digit_yes r hd9 _).mono ?_; rintro e w' ⟨rfl, rfl⟩)
     go_ret2
     exact ⟨ret_pair Hn.out.1.symm Hn.out.2.symm, hbw2⟩
    ·have hd9' : dig r = 99 := by have := dig_le r; omega
     go_wp2_with (go_at_call 165; refine (digit_no r hd9' _).mono ?_; rintro e w' ⟨rfl, rfl⟩)
     go_ret2
     exact ⟨ret_pair Hn.out.1.symm Hn.out.2.symm, hbw2⟩
  ·have hnx : ∀ ty, (Instr.next (.pointer (some ⟨w.heap.size, 0, none⟩)) true ty).run Tryz.prog wr = _ := fun ty => Lib.run_next_end_at wr w.heap.size s pos ty hit hp
   have hall : s.data.toList.take pos = s.data.toList := List.take_of_length_le (by rw [size_list]; omega)
   rw [hall] at hval
   have Hn : Hid (nv b s.data.toList = ((min v 65536 : Nat) : Int) /\ nb b s.data.toList = decide (s.data.toList ≠ [])) := ⟨nv_some hval, nb_some hval⟩
   clear hval hall
   go_wp2
   go_ret2
   exact ⟨ret_pair Hn.out.1.symm (by rw [Hn.out.2]; exact str_ne s), hbw⟩
end Go.Proofs.YtoemoiehjdmheaaGreat.T
