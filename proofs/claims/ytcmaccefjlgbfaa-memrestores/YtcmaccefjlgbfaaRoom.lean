import Derived.Test.YtcmaccefjlgbfaaMem
import Derived.BigQuiet
/-! Where the byte of an address stands. -/
namespace Go.Proofs.Ytcmaccefjlgbfaa
open Go.RowKit
open Go.Proofs
set_option linter.unusedVariables false
set_option linter.unusedSimpArgs false

def ptr (b : Nat) : Value := .pointer (some ⟨b, 0, none⟩)
set_option maxHeartbeats 1000000
set_option maxRecDepth 100000
theorem room_low (b : Nat) (z : Int) (w : World) (h : z < 16384) :
    Calls Try.prog 40 #[.pointer (some ⟨b, 0, none⟩), .int .u16 z] w fun e w' => e = .returned (.pointer none) ∧ ∃ q, w' = w.drewN q := by
  go_enter Try.func40, Try.ntmps40
  go_wp2
  go_ret
  exact ⟨rfl, 0, rfl⟩
theorem room_high (b : Nat) (z : Int) (w : World) (h : 52224 ≤ z) :
    Calls Try.prog 40 #[.pointer (some ⟨b, 0, none⟩), .int .u16 z] w fun e w' => e = .returned (.pointer none) ∧ ∃ q, w' = w.drewN q := by
  have i1 : decide (z < 16384) = false := by simp; omega
  have i2 : decide (z < 32768) = false := by simp; omega
  have i3 : decide (z < 49152) = false := by simp; omega
  have i4 : decide (z < 52224) = false := by simp; omega
  go_enter Try.func40, Try.ntmps40
  go_wp2
  go_ret
  exact ⟨rfl, 0, rfl⟩
theorem room_ram (b : Nat) (z : Int) (w : World) (h : 32768 ≤ z) (h2 : z < 49152) :
    Calls Try.prog 40 #[.pointer (some ⟨b, 0, none⟩), .int .u16 z] w fun e w' => e = .returned (.pointer (some ⟨b, 1 + (z - 32768).toNat, none⟩)) ∧ ∃ q, w' = w.drewN q := by
  have i1 : decide (z < 16384) = false := by simp; omega
  have i2 : decide (z < 32768) = false := by simp; omega
  obtain ⟨k, rfl⟩ : ∃ k : Nat, z = k + 32768 := ⟨(z - 32768).toNat, by omega⟩
  have e1 : IntKind.u16.wrap ((k : Int) + 32768 - 32768) = (k : Int) := by simp [IntKind.wrap, IntKind.bits, IntKind.signed]; omega
  have hk : (k : Int) < 16384 := by omega
  have e2 : ((k : Int) + 32768 - 32768).toNat = k := by omega
  go_enter Try.func40, Try.ntmps40
  go_wp2
  go_ret
  exact ⟨by rw [e2]; rfl, 0, rfl⟩
theorem room_scr (b : Nat) (z : Int) (w : World) (h : 49152 ≤ z) (h2 : z < 52224) :
    Calls Try.prog 40 #[.pointer (some ⟨b, 0, none⟩), .int .u16 z] w fun e w' => e = .returned (.pointer (some ⟨b, 16385 + (z - 49152).toNat, none⟩)) ∧ ∃ q, w' = w.drewN q := by
  have i1 : decide (z < 16384) = false := by simp; omega
  have i2 : decide (z < 32768) = false := by simp; omega
  have i3 : decide (z < 49152) = false := by simp; omega
  obtain ⟨k, rfl⟩ : ∃ k : Nat, z = k + 49152 := ⟨(z - 49152).toNat, by omega⟩
  have e1 : IntKind.u16.wrap ((k : Int) + 49152 - 49152) = (k : Int) := by simp [IntKind.wrap, IntKind.bits, IntKind.signed]; omega
  have hk : (k : Int) < 3072 := by omega
  have e2 : ((k : Int) + 49152 - 49152).toNat = k := by omega
  go_enter Try.func40, Try.ntmps40
  go_wp2
  go_ret
  exact ⟨by rw [e2]; rfl, 0, rfl⟩
theorem room_nobank (b mb n : Nat) (L : List (Nat × Nat)) (z : Int) (w : World) (h : 16384 ≤ z) (h2 : z < 32768) (hn : n < 16)
    (hb : w.cell? ⟨b, 0, none⟩ = some (.map (some mb))) (hc : w.cell? ⟨b, 19457, none⟩ = some (.int .u8 (n : Int))) (hm : w.heap[mb]? = some (.map (ents 0 L).toArray L.length)) (hg : ∀ p ∈ L, p.1 ≠ n) :
    Calls Try.prog 40 #[.pointer (some ⟨b, 0, none⟩), .int .u16 z] w fun e w' => e = .returned (.pointer none) ∧ ∃ q, w' = w.drewN q := by
  have i1 : decide (z < 16384) = false := by simp; omega
  have hl := fun q => look_none (w.drewN q) mb n L hm hg
  go_enter Try.func40, Try.ntmps40
  go_wp2_with fail
  go_quiet (fail)
  go_wp2
  go_ret
  exact ⟨rfl, _, rfl⟩
theorem room_bank (b mb n g : Nat) (L : List (Nat × Nat)) (z : Int) (w : World) (h : 16384 ≤ z) (h2 : z < 32768) (hn : n < 16)
    (hb : w.cell? ⟨b, 0, none⟩ = some (.map (some mb))) (hc : w.cell? ⟨b, 19457, none⟩ = some (.int .u8 (n : Int))) (hm : w.heap[mb]? = some (.map (ents 0 L).toArray L.length)) (hd : (L.map Prod.fst).Nodup) (hg : (n, g) ∈ L) :
    Calls Try.prog 40 #[.pointer (some ⟨b, 0, none⟩), .int .u16 z] w fun e w' => e = .returned (.pointer (some ⟨g, (z - 16384).toNat, none⟩)) ∧ ∃ q, w' = w.drewN q := by
  have i1 : decide (z < 16384) = false := by simp; omega
  have hl := fun q => look_some (w.drewN q) mb n g L hm hd hg
  obtain ⟨k, rfl⟩ : ∃ k : Nat, z = k + 16384 := ⟨(z - 16384).toNat, by omega⟩
  have e1 : IntKind.u16.wrap ((k : Int) + 16384 - 16384) = (k : Int) := by simp [IntKind.wrap, IntKind.bits, IntKind.signed]; omega
  have hk : (k : Int) < 16384 := by omega
  have e2 : ((k : Int) + 16384 - 16384).toNat = k := by omega
  go_enter Try.func40, Try.ntmps40
  go_wp2_with fail
  go_quiet (fail)
  go_wp2
  go_ret
  exact ⟨by rw [e2]; rfl, _, rfl⟩
end Go.Proofs.Ytcmaccefjlgbfaa
