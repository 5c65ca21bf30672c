import Derived.Test.YtcmaccefjlgbfaaKeepMath
import Derived.Test.YtcmaccefjlgbfaaRows
import Derived.WalkKit
import Derived.ProofKit
import Derived.OpenShut
import Derived.ChangeOld
import Derived.Below
import Derived.Deep.Slices
import Derived.Deep.SlicePairs
import Derived.SizedLaws
/-! What arguments give a walk. -/
namespace Go.Proofs.Ytcmaccefjlgbfaa
open Go.RowKit Go.ChangeShapes Go.WideShapes Go.ChangeAt
set_option linter.unusedVariables false
set_option linter.unusedSimpArgs false
theorem own : ownKnob Try.prog.godebug = none := by kernel_rfl
theorem laidOut : laidOutB Try.prog = true := by kernel_rfl
section
variable {H : Type} {enc : TypeId × Value → H}
theorem bytes5 : Try.prog.bytesOf 5 = 1 := by kernel_rfl
theorem byte_nat (n : Int) (h0 : 0 ≤ n) (h1 : n ≤ 255) : (((UInt8.ofNat n.toNat).toNat : Nat) : Int) = n := by
  rw [UInt8.toNat_ofNat']
  have : n.toNat % 2 ^ 8 = n.toNat := Nat.mod_eq_of_lt (by omega)
  rw [this]; omega
/-- A slice of bytes that came in. -/
theorem open_bytes1 {W : World} {a : Option Addr} {len cap : Nat} {d : DataW H} {p : List MemPlace} (h : DataW.Trod enc Try.prog W 0 (fun _ => true) true 35 (.slice a len cap) d p) :
    ∃ l : List UInt8, Sl W (.slice a len cap) l ∧ ((d.weights Try.prog 35).all (· ≤ reachBytes) = true → l.length + 4096 ≤ room) := by
  obtain ⟨fuel, hf⟩ := h
  rcases open_ints Try.underlying35 Try.underlying5 (by kernel_rfl) hf with ⟨hcs, hx⟩ | ⟨x, l, c, zs, hcs, _, hl, hm, hz, hx, hcell, hwz⟩
  · simp [Value.cells] at hcs
    obtain ⟨rfl, rfl, rfl⟩ := hcs
    exact ⟨[], .inl ⟨rfl, rfl⟩, fun _ => by decide⟩
  · simp [Value.cells] at hcs
    obtain ⟨rfl, rfl, rfl⟩ := hcs
    simp only [Prod.mk.injEq] at hx
    obtain ⟨rfl, rfl⟩ := hx
    simp only [if_true] at hz
    have hlen : ((zs.take len).map fun n => UInt8.ofNat n.toNat).length = len := by simp; omega
    refine ⟨(zs.take len).map fun n => UInt8.ofNat n.toNat, .inr ⟨x, cap, by rw [hlen], by rw [hlen]; exact hl, fun j b hj => ?_⟩, fun hw => ?_⟩
    · have hjl : j < len := by
        by_cases h : j < len
        · exact h
        · rw [List.getElem?_eq_none (by rw [hlen]; omega)] at hj; cases hj
      have hc := hcell j (by omega)
      rw [hc]
      have hb := range_u8 hwz j
      rw [List.getElem?_map, List.getElem?_take, if_pos hjl, List.getElem?_eq_getElem (by omega)] at hj
      simp only [Option.map_some, Option.some.injEq] at hj
      subst hj
      have e : zs.getD j 0 = zs[j]'(by omega) := by simp [List.getD, List.getElem?_eq_getElem (show j < zs.length by omega)]
      have e2 : zs[j]?.getD 0 = zs[j]'(by omega) := by rw [List.getElem?_eq_getElem (show j < zs.length by omega)]; rfl
      rw [e2] at hb
      rw [e, byte_nat _ (by omega) (by omega)]
    · rw [hlen]
      simp only [DataW.weights, Try.underlying35, List.all_cons, bytes5, Bool.and_eq_true, decide_eq_true_eq] at hw
      have h2 : (lits (H := H) .u8 (zs.take len)).length = len := by simp [lits]; omega
      have h3 := hw.1
      rw [h2] at h3
      unfold reachBytes at h3
      unfold room
      omega
theorem open_bytes0 {W : World} {fuel : Nat} {cs : List Value} {x : DataW H × List MemPlace} (h : DataW.trod enc Try.prog W 0 (fun _ => true) true fuel 35 cs = some x) :
    ∃ (v : Value) (l : List UInt8), cs = [v] ∧ Sl W v l ∧ ((x.1.weights Try.prog 35).all (· ≤ reachBytes) = true → l.length + 4096 ≤ room) := by
  have hcs : ∃ v, cs = [v] := by
    rcases open_ints Try.underlying35 Try.underlying5 (by kernel_rfl) h with ⟨hcs, hx⟩ | ⟨x, l, c, zs, hcs, _⟩
    · exact ⟨_, hcs⟩
    · exact ⟨_, hcs⟩
  obtain ⟨v, rfl⟩ := hcs
  have hv : ∃ a len cap, v = .slice a len cap := by
    rcases open_ints Try.underlying35 Try.underlying5 (by kernel_rfl) h with ⟨hcs, hx⟩ | ⟨x, l, c, zs, hcs, _⟩
    · simp at hcs; exact ⟨_, _, _, hcs⟩
    · simp at hcs; exact ⟨_, _, _, hcs⟩
  obtain ⟨a, len, cap, rfl⟩ := hv
  obtain ⟨l, h1, h3⟩ := open_bytes1 (a := a) (len := len) (cap := cap) (d := x.1) (p := x.2) ⟨fuel, h⟩
  exact ⟨_, l, rfl, h1, h3⟩
theorem weights_all (P : Program) (e : TypeId) (D : Nat → DataW H) (q : Nat → Bool) : ∀ (is : List Nat), (DataW.weightsAll P e (is.map D)).all q = true → ∀ i ∈ is, ((D i).weights P e).all q = true := by
  intro is
  induction is with
  | nil => intro _ i hi; simp at hi
  | cons j is ih =>
    intro h i hi
    simp only [List.map_cons, DataW.weightsAll, List.all_append, Bool.and_eq_true] at h
    rcases List.mem_cons.1 hi with rfl | hi
    · exact h.1
    · exact ih h.2 i hi
theorem und37 : Try.prog.underlying 37 = some (.struct #[⟨ "Num", 3, 0, false, "", "", 0⟩, ⟨ "Data", 35, 1, false, "", "", 8⟩]) := by kernel_rfl
theorem add_none {a : Addr} {W : World} {v : Value} (h : W.cell? (a.add 0) = some v) : a.spot = none := by
  have := World.cell?_spot h
  simpa [Addr.add] using this
theorem add_at (b o k : Nat) : (⟨b, o, none⟩ : Addr).add k = ⟨b, o + k, none⟩ := Addr.add_lit _ _ _
/-- Banks that came in. -/
theorem open_banks0 {W : World} {a : Option Addr} {len cap : Nat} {d : DataW H} {p : List MemPlace} (h : DataW.Trod enc Try.prog W 0 (fun _ => true) true 22 (.slice a len cap) d p)
    (hw : (d.weights Try.prog 22).all (· ≤ reachBytes) = true) :
    ∃ (bs : List (Int × List UInt8)), len = bs.length ∧ BnS W a bs ∧ bs.length * 32 ≤ room ∧ (∀ t ∈ bs, t.2.length + 1 ≤ room) := by
  obtain ⟨fuel, hf⟩ := h
  rcases Deep.open_slice_pairs Try.underlying22 und37 (by kernel_rfl) rfl rfl (by kernel_rfl) (by kernel_rfl) hf with ⟨hcs, hx⟩ | ⟨x, l, c, m, n, V0, V1, D0, D1, P0, P1, hcs, _, hl, hm, hmm, hx, hel⟩
  · simp [Value.cells] at hcs
    obtain ⟨rfl, rfl, rfl⟩ := hcs
    exact ⟨[], rfl, fun i l hi => by simp at hi, by simp, by simp⟩
  · simp [Value.cells] at hcs
    obtain ⟨rfl, rfl, rfl⟩ := hcs
    simp only [Prod.mk.injEq] at hx
    obtain ⟨rfl, rfl⟩ := hx
    simp only [if_true] at hmm
    have hby : Try.prog.bytesOf 37 = 32 := by kernel_rfl
    simp only [DataW.weights, Try.underlying22, List.all_cons, List.all_append, Bool.and_eq_true, decide_eq_true_eq, hby, List.length_map, List.length_range] at hw
    have hw1 := hw.1
    unfold reachBytes at hw1
    have hwi := weights_all Try.prog 37 _ _ (List.range len) hw.2.1
    have hsp0 : 0 < len → x.spot = none := fun hp => add_none (hel 0 (by omega)).1
    have hex : ∀ i, i < len → ∃ t : Int × List UInt8, (∃ b o dv, some x = some (⟨b, o, none⟩ : Addr) ∧ W.cell? ⟨b, o + i * 2, none⟩ = some (.int .i64 t.1) ∧ W.cell? ⟨b, o + i * 2 + 1, none⟩ = some dv ∧ Sl W dv t.2 ∧ t.2.length + 4096 ≤ room) := fun i hi => by
      obtain ⟨g0, g1, t0, t1⟩ := hel i (by omega)
      obtain ⟨k, e0, _, w0⟩ := DataW.trod_int Try.underlying3 t0
      obtain ⟨dv, l, e1, hs, hlw⟩ := open_bytes0 t1
      simp at e0 e1
      rw [e0] at g0
      rw [e1] at g1
      have hsp := hsp0 (by omega)
      obtain ⟨b, o, sp⟩ := x
      simp only at hsp
      subst hsp
      rw [add_at] at g0 g1
      refine ⟨(k, l), b, o, dv, rfl, g0, by rw [Nat.add_assoc]; exact g1, hs, hlw ?_⟩
      have hwk := hwi i (by simpa using hi)
      simp only [DataW.weights, und37, List.map_cons, List.map_nil, DataW.weightsEach, List.all_append, Bool.and_eq_true] at hwk
      exact hwk.2.1
    obtain ⟨f, hf2⟩ := Deep.choose_lt hex
    refine ⟨(List.range len).map f, by simp, fun i t hi => ?_, by simp; unfold room; omega, ?_⟩
    · have hil : i < len := by
        by_cases h : i < len
        · exact h
        · rw [List.getElem?_eq_none (by simp; omega)] at hi; cases hi
      simp [hil] at hi
      subst hi
      obtain ⟨b, o, dv, e1, e2, e3, e4, e5⟩ := hf2 i hil
      exact ⟨b, o, dv, e1, e2, e3, e4, by omega⟩
    · intro t ht
      simp only [List.mem_map, List.mem_range] at ht
      obtain ⟨i, hi, rfl⟩ := ht
      obtain ⟨b, o, dv, e1, e2, e3, e4, e5⟩ := hf2 i hi
      omega
theorem open_banks {W : World} {base : Nat} {v : Value} {d : DataW H} {p : List MemPlace} (hval : Value.okWide Try.prog W .any base 22 v) (h : DataW.Trod enc Try.prog W 0 (fun _ => true) true 22 v d p)
    (hw : (d.weights Try.prog 22).all (· ≤ reachBytes) = true) :
    ∃ (bs : List (Int × List UInt8)) (pp : Option Addr) (c : Nat), v = .slice pp bs.length c ∧ BnS W pp bs ∧ bs.length * 32 ≤ room ∧ (∀ t ∈ bs, t.2.length + 1 ≤ room) := by
  obtain ⟨a, len, cap, rfl⟩ := okWide_slice Try.underlying22 hval
  obtain ⟨bs, rfl, h1, h2, h3⟩ := open_banks0 h hw
  exact ⟨bs, a, cap, rfl, h1, h2, h3⟩
/-- Addresses that came in. -/
theorem open_os {W : World} {base : Nat} {v : Value} {d : DataW H} {p : List MemPlace} (hval : Value.okWide Try.prog W .any base 26 v) (h : DataW.Trod enc Try.prog W 0 (fun _ => true) true 26 v d p)
    (hw : (d.weights Try.prog 26).all (· ≤ reachBytes) = true) :
    ∃ (os : List Int) (pp : Option Addr) (c : Nat), v = .slice pp os.length c ∧ OsS W pp os ∧ os.length * 2 ≤ room := by
  obtain ⟨a, len, cap, rfl⟩ := okWide_slice Try.underlying26 hval
  obtain ⟨fuel, hf⟩ := h
  rcases open_ints Try.underlying26 Try.underlying23 (by kernel_rfl) hf with ⟨hcs, hx⟩ | ⟨x, l, c, zs, hcs, _, hl, hm, hz, hx, hcell, hwz⟩
  · simp [Value.cells] at hcs
    obtain ⟨rfl, rfl, rfl⟩ := hcs
    exact ⟨[], none, 0, rfl, fun i l hi => by simp at hi, by simp⟩
  · simp [Value.cells] at hcs
    obtain ⟨rfl, rfl, rfl⟩ := hcs
    simp only [Prod.mk.injEq] at hx
    obtain ⟨rfl, rfl⟩ := hx
    simp only [if_true] at hz
    have hlen : (zs.take len).length = len := by simp; omega
    have hby : Try.prog.bytesOf 23 = 2 := by kernel_rfl
    simp only [DataW.weights, Try.underlying26, List.all_cons, hby, Bool.and_eq_true, decide_eq_true_eq] at hw
    have h2 : (lits (H := H) .u16 (zs.take len)).length = len := by simp [lits]; omega
    have h3 := hw.1
    rw [h2] at h3
    unfold reachBytes at h3
    refine ⟨zs.take len, some x, cap, by rw [hlen], fun i z hi => ?_, by rw [hlen]; unfold room; omega⟩
    have hjl : i < len := by
      by_cases h : i < len
      · exact h
      · rw [List.getElem?_eq_none (by rw [hlen]; omega)] at hi; cases hi
    have hc := hcell i (by omega)
    have hb := range_u16 hwz i
    rw [List.getElem?_take, if_pos hjl, List.getElem?_eq_getElem (by omega)] at hi
    simp only [Option.some.injEq] at hi
    subst hi
    have e : zs.getD i 0 = zs[i]'(by omega) := by simp [List.getD, List.getElem?_eq_getElem (show i < zs.length by omega)]
    have e2 : zs[i]?.getD 0 = zs[i]'(by omega) := by rw [List.getElem?_eq_getElem (show i < zs.length by omega)]; rfl
    rw [e2] at hb
    rw [e] at hc
    have hsp : x.spot = none := add_none (hcell 0 (by omega))
    obtain ⟨b, o, sp⟩ := x
    simp only at hsp
    subst hsp
    rw [add_at] at hc
    exact ⟨b, o, rfl, hc, by omega, by omega⟩
end
end Go.Proofs.Ytcmaccefjlgbfaa
