import Derived.Test.YteeanomkbclinaaYROf
/-! same: places of the program, places of the document. -/
namespace Go.Proofs.Yteeanomkbclinaa.Y
open Go.RowKit
open Go.Proofs
set_option linter.unusedVariables false
set_option linter.unusedSimpArgs false
set_option maxHeartbeats 4000000
set_option maxRecDepth 100000
theorem same_any (l : List Pl) (hl : l.length ≤ 140737488355328) (v u : Value) (W : World) (h1 : S.Ls plc 4 W v l) (h2 : S.Ls plc 4 W u l) :
    Calls Try.prog 13 #[v, u] W fun e w' => e = .returned (.bool true) ∧ Below W.heap.size W w' := by
  obtain ⟨p1, c1, rfl, _, s1⟩ := h1.ex
  obtain ⟨p2, c2, rfl, _, s2⟩ := h2.ex
  have HS := hid (And.intro s1 s2)
  clear h1 h2 s1 s2
  go_enter Try.func13, Try.ntmps13
  go_wp2
  go_loopw [5] (fun i wr => ∃ k : Nat, k ≤ l.length ∧ i = .int .i64 (k : Int) ∧ Below W.heap.size W wr) (fun i _ => l.length - (intOf i).toNat)
  case atStart => exact ⟨0, by omega, rfl, Below.refl _ _⟩
  case round =>
    obtain ⟨k, hk, rfl, hB⟩ := hrel
    by_cases hlt : k < l.length
    · have i1 : (k : Int) < l.length := by omega
      have ea := List.getElem?_eq_getElem hlt
      generalize l[k] = x at *
      obtain ⟨b, o, rfl, hc1⟩ := (HS.out.1.below hB) k x ea
      obtain ⟨b2, o2, rfl, hc2⟩ := (HS.out.2.below hB) k x ea
      have s0 : (fun wz : World => wz.cell? ⟨b, o + k * 4, none⟩ = some (.string x.nm) ∧ wz.cell? ⟨b, o + k * 4 + 1, none⟩ = some (.int .u16 x.at_) ∧ wz.cell? ⟨b, o + k * 4 + 2, none⟩ = some (.int .i64 x.sz) ∧ wz.cell? ⟨b, o + k * 4 + 3, none⟩ = some (.int .u16 x.ram) ∧ wz.cell? ⟨b2, o2 + k * 4, none⟩ = some (.string x.nm) ∧ wz.cell? ⟨b2, o2 + k * 4 + 1, none⟩ = some (.int .u16 x.at_) ∧ wz.cell? ⟨b2, o2 + k * 4 + 2, none⟩ = some (.int .i64 x.sz) ∧ wz.cell? ⟨b2, o2 + k * 4 + 3, none⟩ = some (.int .u16 x.ram)) wr := ⟨hc1 0 _ rfl, hc1 1 _ rfl, hc1 2 _ rfl, hc1 3 _ rfl, hc2 0 _ rfl, hc2 1 _ rfl, hc2 2 _ rfl, hc2 3 _ rfl⟩
      obtain ⟨a0, a1, a2, a3, d0, d1, d2, d3⟩ := s0
      have HB := hid hB.drew
      clear hc1 hc2 ea hB
      go_upto_region 6 with fail
      go_cut [66] (fun s wc => s = .bool false ∧ Below W.heap.size W wc)
      case first =>
        go_region_held (fun wz : World => wz.cell? ⟨b, o + k * 4, none⟩ = some (.string x.nm) ∧ wz.cell? ⟨b, o + k * 4 + 1, none⟩ = some (.int .u16 x.at_) ∧ wz.cell? ⟨b, o + k * 4 + 2, none⟩ = some (.int .i64 x.sz) ∧ wz.cell? ⟨b, o + k * 4 + 3, none⟩ = some (.int .u16 x.ram) ∧ wz.cell? ⟨b2, o2 + k * 4, none⟩ = some (.string x.nm) ∧ wz.cell? ⟨b2, o2 + k * 4 + 1, none⟩ = some (.int .u16 x.at_) ∧ wz.cell? ⟨b2, o2 + k * 4 + 2, none⟩ = some (.int .i64 x.sz) ∧ wz.cell? ⟨b2, o2 + k * 4 + 3, none⟩ = some (.int .u16 x.ram)) (go_keep) (fail)
        go_wp2
        go_meet
        case rel => exact ⟨rfl, HB.out⟩
      case rest =>
        obtain ⟨rfl, hb⟩ := hcut
        have HB2 := hid hb
        clear hb a0 a1 a2 a3 d0 d1 d2 d3
        go_wp2
        go_roundw
        case rel => exact ⟨k + 1, by omega, by go_num, HB2.out⟩
        case measure => simp [intOf]; omega
    · have i1 : ¬ (k : Int) < l.length := by omega
      go_wp2
      go_ret
      exact ⟨rfl, hB⟩
end Go.Proofs.Yteeanomkbclinaa.Y
