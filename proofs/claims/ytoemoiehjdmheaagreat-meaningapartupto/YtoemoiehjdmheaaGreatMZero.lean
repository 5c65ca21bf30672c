import Derived.Test.YtoemoiehjdmheaaGreatProg
import Derived.WalkKit
import Derived.KernelRfl
namespace Go.Proofs.YtoemoiehjdmheaaGreat.M
open Go.Proofs
def lf (f : Nat -> Value) : Nat -> Nat -> List Value
 | _, 0 => []
 | lo, n + 1 => f lo :: lf f (lo + 1) n
def tr (f : Nat -> Value) : Nat -> Nat -> Nat -> List Value
 | 0, lo, hi => lf f lo (hi - lo)
 | d + 1, lo, hi => List.append (tr f d lo ((lo + hi) / 2)) (tr f d ((lo + hi) / 2) hi)
theorem lf_eq (f : Nat -> Value) : ∀ n lo, lf f lo n = (List.range' lo n).map f
 | 0, _ => rfl
 | n + 1, lo => by simp [lf, lf_eq f n (lo + 1), List.range'_succ]
theorem tr_eq (f : Nat -> Value) : ∀ d lo hi, lo <= hi -> tr f d lo hi = (List.range' lo (hi - lo)).map f
 | 0, lo, hi, _ => lf_eq f _ _
 | d + 1, lo, hi, h => by
  have e1 := tr_eq f d lo ((lo + hi) / 2) (by omega)
  have e2 := tr_eq f d ((lo + hi) / 2) hi (by omega)
  show tr f d lo ((lo + hi) / 2) ++ tr f d ((lo + hi) / 2) hi = _
  rw [e1, e2, <- List.map_append]
  congr 1
  have h1 : hi - lo = ((lo + hi) / 2 - lo) + (hi - (lo + hi) / 2) := by omega
  have h2 : (lo + hi) / 2 = lo + 1 * ((lo + hi) / 2 - lo) := by omega
  generalize (lo + hi) / 2 = m at *
  obtain ⟨k, rfl⟩ : ∃ k, m = lo + k := ⟨m - lo, by omega⟩
  have := @List.range'_append lo (lo + k - lo) (hi - (lo + k)) 1
  rw [h1, <- this]
  simp
def fz (_ : Nat) : Value := Value.int .u8 0
def fm (i : Nat) : Value := bif Nat.beq i 0 then Value.map none else bif Nat.ble 19463 i then Value.slice none 0 0 else bif Nat.beq i 19462 then Value.int .i64 0 else bif Nat.beq i 19461 then Value.int .u16 0 else bif Nat.beq i 19459 then Value.int .u16 0 else Value.int .u8 0
theorem zinfo83 : (Tryz.prog.info? 119).map (fun i => i.zero) = some (some (.agg (tr fz 8 0 16384).toArray)) := by kernel_rfl
theorem zinfo86 : (Tryz.prog.info? 122).map (fun i => i.zero) = some (some (.agg (tr fm 9 0 19464).toArray)) := by kernel_rfl
def zero83 : List Value := (List.range' 0 16384).map fz
def zero86 : List Value := (List.range' 0 19464).map fm
theorem zero83_len : zero83.length = 16384 := by rw [zero83, List.length_map, List.length_range']
theorem zero86_len : zero86.length = 19464 := by rw [zero86, List.length_map, List.length_range']
theorem zero83_get (i : Nat) (h : i < 16384) : zero83[i]? = some (.int .u8 0) := by
 rw [zero83, List.getElem?_map, List.getElem?_range' h]; rfl
theorem zero86_get (i : Nat) (h : i < 19464) : zero86[i]? = some (fm i) := by
 rw [zero86, List.getElem?_map, List.getElem?_range' h]; simp
theorem zeroValue83 (w : World) : (zeroValue 119).run Tryz.prog w = .ok (.agg zero83.toArray) w := by
 have h := zinfo83
 cases hq : Tryz.prog.info? 119 with
 | none => rw [hq] at h; cases h
 | some i =>
  rw [hq, tr_eq fz 8 0 16384 (by omega)] at h
  have hz : i.zero = some (.agg zero83.toArray) := Option.some.inj h
  simp [zeroValue, typeInfo, hq, hz]
theorem zeroValue86 (w : World) : (zeroValue 122).run Tryz.prog w = .ok (.agg zero86.toArray) w := by
 have h := zinfo86
 cases hq : Tryz.prog.info? 122 with
 | none => rw [hq] at h; cases h
 | some i =>
  rw [hq, tr_eq fm 9 0 19464 (by omega)] at h
  have hz : i.zero = some (.agg zero86.toArray) := Option.some.inj h
  simp [zeroValue, typeInfo, hq, hz]
theorem zc83 (w : World) : Tryz.zeroCells119 = zero83.toArray := by
 have h := (Tryz.zeroValue119 w).symm.trans (zeroValue83 w)
 injection h with h1
 injection h1
theorem zc86 (w : World) : Tryz.zeroCells122 = zero86.toArray := by
 have h := (Tryz.zeroValue122 w).symm.trans (zeroValue86 w)
 injection h with h1
 injection h1
end Go.Proofs.YtoemoiehjdmheaaGreat.M
