import Derived.Test.YtdnklgceghllaaaGreatDoorKLeaf
import Derived.Test.YtdnklgceghllaaaGreatDoorTParts
import Derived.Test.YtdnklgceghllaaaGreatDoorTLeaf
import Derived.Lib.Bytealg
namespace Go.Proofs.YtdnklgceghllaaaGreatDoor.K
open Go.RowKit
open Go.Proofs.YtdnklgceghllaaaGreatDoor
open Go.Proofs.YtdnklgceghllaaaGreatDoor.T (size_list)
set_option linter.unusedVariables false
theorem ext_list (s : ByteArray) (i j : Nat) : (s.extract i j).data.toList = wd s.data.toList i j := by
  rw [ByteArray.data_extract, Array.toList_extract]
  simp [wd, List.extract]
theorem wd_all (l : List UInt8) (i : Nat) : wd l i l.length = l.drop i := by
  unfold wd; rw [List.take_of_length_le (by rw [List.length_drop]; exact Nat.le_refl _)]
theorem ixb_lib (l : List UInt8) (c : UInt8) : Lib.indexByte l c = match ixb c.toNat l with | none => -1 | some k => (k : Int) := by
  induction l with
  | nil => rfl
  | cons x t ih =>
    rw [Lib.indexByte, ixb]
    by_cases h : x = c
    · subst h; simp
    · have h1 : (x == c) = false := by simpa using h
      have h2 : ¬ x.toNat = c.toNat := fun e => h (UInt8.toNat_inj.1 e)
      rw [if_neg h2, h1, ih]
      cases ixb c.toNat t with
      | none => rfl
      | some k => have h3 : ¬ ((k : Int) = -1) := by omega
                  simp [h3]
theorem ixb_some (l : List UInt8) (c : UInt8) (k : Nat) (h : ixb c.toNat l = some k) : Lib.indexByte l c = (k : Int) := by rw [ixb_lib, h]
theorem ixb_none (l : List UInt8) (c : UInt8) (h : ixb c.toNat l = none) : Lib.indexByte l c = -1 := by rw [ixb_lib, h]
theorem ixb_lt (c : Nat) (l : List UInt8) (k : Nat) (h : ixb c l = some k) : k < l.length := by
  induction l generalizing k with
  | nil => cases h
  | cons x t ih =>
    rw [ixb] at h
    split at h
    · cases h; simp
    · cases hq : ixb c t with
      | none => rw [hq] at h; cases h
      | some q => rw [hq] at h; simp at h; have := ih q hq; simp; omega
theorem wordAt_any (s : ByteArray) (a : Nat) (hs : s.size <= maxLen) (ha : a <= s.size) (w : World) :
    Calls Tryz.prog 56 #[.string s, .int .i64 a] w fun e w' => e = .returned (.string (s.extract a (wend s.data.toList a))) /\ w' = w := by
  unfold maxLen at hs
  go_enter Tryz.func56, Tryz.ntmps56
  go_wp2
  go_loopw [5] (fun x wr => ∃ p : Nat, x = .int .i64 (p : Int) /\ a <= p /\ p <= s.size /\ wend s.data.toList p = wend s.data.toList a /\ wr = w) (fun x wr => s.size - (Lib.intOf x).toNat)
  case atStart => exact ⟨a, rfl, Nat.le_refl _, ha, rfl, rfl⟩
  case round =>
    obtain ⟨p, rfl, hap, hp, hw, rfl⟩ := hrel
    by_cases h : p < s.size
    · have hl : p < s.data.toList.length := by rw [size_list]; exact h
      cases hv : T.seen s[p].toNat with
      | true =>
        have hw2 : Hid (wend s.data.toList (p + 1) = wend s.data.toList a) := by show _ = _; rw [<- hw, wend_yes _ p hl hv]
        clear hw
        go_wp2_with (go_at_call 91; refine (vis_yes s[p].toNat hv _).mono ?_; rintro e w' ⟨rfl, rfl⟩)
        go_roundw
        case rel => exact ⟨p + 1, by simp, by omega, by omega, hw2.out, trivial⟩
        case measure => simp only [Lib.intOf]; omega
      | false =>
        have hw2 : Hid (wend s.data.toList a = p) := by show _ = _; rw [<- hw, wend_no _ p hl hv]
        clear hw
        go_wp2_with (go_at_call 91; refine (vis_no s[p].toNat hv _).mono ?_; rintro e w' ⟨rfl, rfl⟩)
        go_ret
        rw [hw2.out]
        exact ⟨rfl, rfl⟩
    · have hw2 : Hid (wend s.data.toList a = p) := by show _ = _; rw [<- hw, wend_out _ p (by rw [size_list]; omega)]
      clear hw
      go_wp2_with fail
      go_ret
      rw [hw2.out]
      exact ⟨rfl, rfl⟩
theorem behindNext_any (s : ByteArray) (a : Nat) (c : UInt8) (hs : s.size <= 65536) (ha : a <= s.size) (w : World) :
    Calls Tryz.prog 58 #[.string s, .int .i64 a, .int .u8 c.toNat] w fun e w' => e = .returned (.int .i64 (((nxt c.toNat s.data.toList a).getD s.size : Nat) : Int)) /\ w' = w := by
  have he : (s.extract a s.size).data.toList = s.data.toList.drop a := by rw [ext_list, <- size_list, wd_all]
  have hcc : ((c.toNat : Int).toNat.toUInt8) = c := by simp
  cases hx : ixb c.toNat (s.data.toList.drop a) with
  | none =>
    have hn : Hid (nxt c.toNat s.data.toList a = none) := by show _ = _; unfold nxt; rw [hx]; rfl
    have hL : Lib.indexByte (s.extract a s.size).data.toList ((c.toNat : Int).toNat.toUInt8) = -1 := by rw [he, hcc, ixb_none _ _ hx]
    clear hx he hcc
    go_enter Tryz.func58, Tryz.ntmps58
    go_wp2_with (go_at_call 92; refine (Tryz.strings_IndexByte _ _ _).mono ?_; rintro e w' ⟨rfl, rfl⟩; rw [hL])
    go_ret
    rw [hn.out]
    exact ⟨rfl, rfl⟩
  | some k =>
    have hn : Hid (nxt c.toNat s.data.toList a = some (a + k + 1)) := by show _ = _; unfold nxt; rw [hx]; rfl
    have hL : Lib.indexByte (s.extract a s.size).data.toList ((c.toNat : Int).toNat.toUInt8) = (k : Int) := by rw [he, hcc, ixb_some _ _ k hx]
    have hk := ixb_lt _ _ k hx
    rw [List.length_drop, size_list] at hk
    clear hx he hcc
    go_enter Tryz.func58, Tryz.ntmps58
    go_wp2_with (go_at_call 92; refine (Tryz.strings_IndexByte _ _ _).mono ?_; rintro e w' ⟨rfl, rfl⟩; rw [hL])
    go_ret
    rw [hn.out]
    exact ⟨T.ret_int (by simp), rfl⟩
theorem contains_any (s : ByteArray) (a : Nat) (c : UInt8) (w : World) :
    Calls Tryz.prog 59 #[.string (s.extract a s.size), .string ⟨#[c]⟩] w fun e w' => e = .returned (.bool (nxt c.toNat s.data.toList a).isSome) /\ w' = w := by
  have he : (s.extract a s.size).data.toList = s.data.toList.drop a := by rw [ext_list, <- size_list, wd_all]
  refine (Tryz.strings_Contains_one _ _ _).mono ?_
  rintro e w' ⟨rfl, rfl⟩
  refine ⟨T.ret_bool ?_, rfl⟩
  rw [he, ixb_lib]
  unfold nxt
  cases ixb c.toNat (s.data.toList.drop a) with
  | none => rfl
  | some k => simp
end Go.Proofs.YtdnklgceghllaaaGreatDoor.K
