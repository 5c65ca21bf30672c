import Derived.Test.YtcmaccefjlgbfaaOpen
import Derived.Test.YtcmaccefjlgbfaaImageKit
/-! An image that came in. -/
namespace Go.Proofs.Ytcmaccefjlgbfaa
open Go.RowKit Go.ChangeShapes Go.WideShapes Go.ChangeAt
set_option linter.unusedVariables false
set_option linter.unusedSimpArgs false
theorem list8 {α : Type} (l : List α) (h : l.length = 8) : ∃ a0 a1 a2 a3 a4 a5 a6 a7, l = [a0, a1, a2, a3, a4, a5, a6, a7] := by
  rcases l with _ | ⟨a0, _ | ⟨a1, _ | ⟨a2, _ | ⟨a3, _ | ⟨a4, _ | ⟨a5, _ | ⟨a6, _ | ⟨a7, _ | ⟨b, l⟩⟩⟩⟩⟩⟩⟩⟩⟩
  all_goals first | exact ⟨_, _, _, _, _, _, _, _, rfl⟩ | (simp at h)
section
variable {H : Type} {enc : TypeId × Value → H}
theorem und56 : Try.prog.underlying 56 = some (.struct #[⟨ "Banks", 22, 0, false, "", "", 0⟩, ⟨ "Ram", 35, 1, false, "", "", 24⟩, ⟨ "Screen", 35, 2, false, "", "", 48⟩, ⟨ "Chosen", 5, 3, false, "", "", 72⟩, ⟨ "Pad", 5, 4, false, "", "", 73⟩, ⟨ "Pitch", 23, 5, false, "", "", 74⟩, ⟨ "Volume", 5, 6, false, "", "", 76⟩, ⟨ "Time", 23, 7, false, "", "", 78⟩]) := by kernel_rfl
/-- The fields of an image that came in. -/
theorem open_image {W : World} {base : Nat} {v : Value} {d : DataW H} {p : List MemPlace} (hval : Value.okWide Try.prog W .any base 56 v) (h : DataW.Trod enc Try.prog W 0 (fun _ => true) true 56 v d p)
    (hw : (d.weights Try.prog 56).all (· ≤ reachBytes) = true) :
    ∃ (bs : List (Int × List UInt8)) (pb : Option Addr) (c : Nat) (rp sp : Option Addr) (rc sc' : Nat) (ram scr : List UInt8) (m : MS), v = .agg (imgC (.slice pb bs.length c) (.slice rp ram.length rc) (.slice sp scr.length sc') m).toArray ∧ BnS W pb bs ∧ bs.length * 32 ≤ room ∧ (∀ t ∈ bs, t.2.length + 1 ≤ room) ∧
      Sl W (.slice rp ram.length rc) ram ∧ Sl W (.slice sp scr.length sc') scr ∧ ram.length ≤ room ∧ scr.length ≤ room ∧ (0 ≤ m.ch ∧ m.ch < 256) ∧ (0 ≤ m.pad ∧ m.pad < 256) ∧ (0 ≤ m.pitch ∧ m.pitch < 65536) ∧ (0 ≤ m.vol ∧ m.vol < 256) ∧ (0 ≤ m.time ∧ m.time < 65536) := by
  obtain ⟨cs, rfl, hsz⟩ := okWide_struct und56 hval
  obtain ⟨fuel, hf⟩ := h
  obtain ⟨xs, q, _, hxy, hcl, hxl, hff⟩ := DataW.trod_struct und56 hf
  have hc8 : Try.prog.cellsOf 56 = 8 := by kernel_rfl
  rw [hc8] at hcl
  have k22 : Try.prog.cellsOf 22 = 1 := by kernel_rfl
  have k35 : Try.prog.cellsOf 35 = 1 := by kernel_rfl
  have k5 : Try.prog.cellsOf 5 = 1 := by kernel_rfl
  have k23 : Try.prog.cellsOf 23 = 1 := by kernel_rfl
  have hcs : ∃ a0 a1 a2 a3 a4 a5 a6 a7, cs = #[a0, a1, a2, a3, a4, a5, a6, a7] := by
    obtain ⟨l⟩ := cs
    simp [Value.cells] at hcl
    obtain ⟨a0, a1, a2, a3, a4, a5, a6, a7, e⟩ := list8 l hcl
    exact ⟨a0, a1, a2, a3, a4, a5, a6, a7, by rw [e]⟩
  obtain ⟨a0, a1, a2, a3, a4, a5, a6, a7, rfl⟩ := hcs
  obtain ⟨x0, x1, x2, x3, x4, x5, x6, x7, rfl⟩ := list8 xs hxl
  · skip
    have f0 := hff 0 _ rfl
    have f1 := hff 1 _ rfl
    have f2 := hff 2 _ rfl
    have f3 := hff 3 _ rfl
    have f4 := hff 4 _ rfl
    have f5 := hff 5 _ rfl
    have f6 := hff 6 _ rfl
    have f7 := hff 7 _ rfl
    replace f0 : DataW.trod enc Try.prog W 0 (fun _ => true) true q 22 [a0] = some x0 := by simpa [k22, Value.cells] using f0
    replace f1 : DataW.trod enc Try.prog W 0 (fun _ => true) true q 35 [a1] = some x1 := by simpa [k35, Value.cells] using f1
    replace f2 : DataW.trod enc Try.prog W 0 (fun _ => true) true q 35 [a2] = some x2 := by simpa [k35, Value.cells] using f2
    replace f3 : DataW.trod enc Try.prog W 0 (fun _ => true) true q 5 [a3] = some x3 := by simpa [k5, Value.cells] using f3
    replace f4 : DataW.trod enc Try.prog W 0 (fun _ => true) true q 5 [a4] = some x4 := by simpa [k5, Value.cells] using f4
    replace f5 : DataW.trod enc Try.prog W 0 (fun _ => true) true q 23 [a5] = some x5 := by simpa [k23, Value.cells] using f5
    replace f6 : DataW.trod enc Try.prog W 0 (fun _ => true) true q 5 [a6] = some x6 := by simpa [k5, Value.cells] using f6
    replace f7 : DataW.trod enc Try.prog W 0 (fun _ => true) true q 23 [a7] = some x7 := by simpa [k23, Value.cells] using f7
    have hd : d = .agg [x0.1, x1.1, x2.1, x3.1, x4.1, x5.1, x6.1, x7.1] := by
      simp only [Prod.mk.injEq] at hxy; rw [hxy.1]; rfl
    rw [hd] at hw
    simp only [DataW.weights, und56, List.map_cons, List.map_nil, DataW.weightsEach, List.all_append, Bool.and_eq_true] at hw
    obtain ⟨w0, w1, w2, _⟩ := hw
    have hv0 : ∃ p n c, a0 = .slice p n c := by
      rcases Deep.open_slice Try.underlying22 f0 with ⟨hcs, _⟩ | ⟨x, l, c, m, n, D, Pl, hcs, _⟩ <;> (simp at hcs; exact ⟨_, _, _, hcs⟩)
    obtain ⟨pb, n0, c, rfl⟩ := hv0
    obtain ⟨bs, rfl, hb1, hb2, hb3⟩ := open_banks0 (d := x0.1) (p := x0.2) ⟨q, f0⟩ w0
    obtain ⟨rv, ram, er, hr, hrl⟩ := open_bytes0 f1
    obtain ⟨sv, scr, es, hs, hsl⟩ := open_bytes0 f2
    simp at er es
    subst er es
    obtain ⟨rp, rc, rfl, _⟩ := hr.ex
    obtain ⟨sp, sc', rfl, _⟩ := hs.ex
    obtain ⟨z3, e3, _, b3⟩ := DataW.trod_int Try.underlying5 f3
    obtain ⟨z4, e4, _, b4⟩ := DataW.trod_int Try.underlying5 f4
    obtain ⟨z5, e5, _, b5⟩ := DataW.trod_int Try.underlying23 f5
    obtain ⟨z6, e6, _, b6⟩ := DataW.trod_int Try.underlying5 f6
    obtain ⟨z7, e7, _, b7⟩ := DataW.trod_int Try.underlying23 f7
    simp at e3 e4 e5 e6 e7
    subst e3 e4 e5 e6 e7
    have c3 := bounds_u8 b3
    have c4 := bounds_u8 b4
    have c5 := bounds_u16 b5
    have c6 := bounds_u8 b6
    have c7 := bounds_u16 b7
    have l1 := hrl w1
    have l2 := hsl w2
    refine ⟨bs, pb, c, rp, sp, rc, sc', ram, scr, { ram := [], scr := [], ch := z3, pad := z4, pitch := z5, vol := z6, time := z7, cyc := 0, tones := [], banks := fun _ => none }, rfl, hb1, hb2, hb3, hr, hs, by omega, by omega, ⟨by simp only; omega, by simp only; omega⟩, ⟨by simp only; omega, by simp only; omega⟩, ⟨by simp only; omega, by simp only; omega⟩, ⟨by simp only; omega, by simp only; omega⟩, ⟨by simp only; omega, by simp only; omega⟩⟩
end
end Go.Proofs.Ytcmaccefjlgbfaa
