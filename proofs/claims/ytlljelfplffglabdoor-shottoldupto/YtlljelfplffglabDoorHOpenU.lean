import Derived.Test.YtlljelfplffglabDoorHLd
import Derived.Test.YtlljelfplffglabDoorHDg
import Derived.Test.YtlljelfplffglabDoorHOpen
import Derived.Deep.Slices
import Derived.Deep.SlicePairs
import Derived.SizedLaws
import Derived.Lib.SmallJoins
/-! What an out that came in gives a walk, up to the bulk. -/
namespace Go.Proofs.YtlljelfplffglabDoor.H
open Go.RowKit Go.ChangeShapes Go.WideShapes Go.ChangeAt
open Go.Proofs.YtlljelfplffglabDoor.K
set_option linter.unusedVariables false
set_option linter.unusedSimpArgs false
set_option maxRecDepth 100000
set_option maxHeartbeats 4000000
section
variable {H : Type} {enc : TypeId × Value → H}
theorem bulk_one (d : DataW H) : 1 ≤ Rows.uptoBulk d := by
  unfold Rows.uptoBulk
  split <;> omega
theorem bulk_ge : ∀ es : List (DataW H), es.length ≤ Rows.uptoBulkAll es
  | [] => Nat.zero_le _
  | d :: r => by
    have h1 := bulk_one d
    have h2 := bulk_ge r
    rw [Rows.uptoBulkAll, List.length_cons]
    omega
theorem c_i64 {x : Int} (h : (Lit.int .i64 x).wf = true) : inI x := by
  have h0 : -9223372036854775808 ≤ x ∧ x ≤ 9223372036854775807 := by simpa [Lit.wf, IntKind.min, IntKind.max, IntKind.bits, IntKind.signed] using h
  exact h0
theorem open_bytesU {W : World} {a : Option Addr} {len cap : Nat} {d : DataW H} {p : List MemPlace} (h : DataW.Trod enc Tryd.prog W 0 (fun _ => true) true 23 (.slice a len cap) d p) :
    ∃ l : List UInt8, Sl W (.slice a len cap) l ∧ l.length ≤ Rows.uptoBulk d := by
  obtain ⟨fuel, hf⟩ := h
  rcases open_ints Tryd.underlying23 Tryd.underlying5 (by kernel_rfl) hf with ⟨hcs, hx⟩ | ⟨x, l, c, zs, hcs, _, hl, hm, hz, hx, hcell, hwz⟩
  · simp [Value.cells] at hcs
    obtain ⟨rfl, rfl, rfl⟩ := hcs
    exact ⟨[], .inl ⟨rfl, rfl⟩, Nat.zero_le _⟩
  · simp [Value.cells] at hcs
    obtain ⟨rfl, rfl, rfl⟩ := hcs
    simp only [Prod.mk.injEq] at hx
    obtain ⟨rfl, rfl⟩ := hx
    simp only [if_true] at hz
    have hlen : ((zs.take len).map fun n => UInt8.ofNat n.toNat).length = len := by simp; omega
    refine ⟨(zs.take len).map fun n => UInt8.ofNat n.toNat, .inr ⟨x, cap, by rw [hlen], by rw [hlen]; exact hl, fun j b hj => ?_⟩, ?_⟩
    · have hjl : j < len := by
        by_cases h : j < len
        · exact h
        · rw [List.getElem?_eq_none (by rw [hlen]; omega)] at hj; cases hj
      have hc := hcell j (by omega)
      rw [hc]
      have hb := range_u8 hwz j
      rw [List.getElem?_map, List.getElem?_take, if_pos hjl, List.getElem?_eq_getElem (by omega)] at hj
      simp only [Option.map_some, Option.some.injEq] at hj
      subst hj
      have e : zs.getD j 0 = zs[j]'(by omega) := by simp [List.getD, List.getElem?_eq_getElem (show j < zs.length by omega)]
      have e2 : zs[j]?.getD 0 = zs[j]'(by omega) := by rw [List.getElem?_eq_getElem (show j < zs.length by omega)]; rfl
      rw [e2] at hb
      rw [e, byte_nat _ (by omega) (by omega)]
    · rw [hlen]
      have h2 : (lits (H := H) .u8 (zs.take len)).length = len := by simp [lits]; omega
      have h3 := bulk_ge (lits (H := H) .u8 (zs.take len))
      rw [h2] at h3
      rw [Rows.uptoBulk]
      omega
theorem c_none {a : Addr} {W : World} {v : Value} (h : W.cell? (a.add 0) = some v) : a.spot = none := by
  have := World.cell?_spot h
  simpa [Addr.add] using this
theorem c_at (b o k : Nat) : (⟨b, o, none⟩ : Addr).add k = ⟨b, o + k, none⟩ := Addr.add_lit _ _ _
theorem undT : Tryd.prog.underlying 39 = some (.struct #[⟨ "Cycle", 3, 0, false, "", "", 0⟩, ⟨ "Pitch", 37, 1, false, "", "", 8⟩, ⟨ "Volume", 5, 2, false, "", "", 10⟩]) := by kernel_rfl
theorem undO : Tryd.prog.underlying 44 = some (.struct #[⟨ "Status", 41, 0, false, "", "", 0⟩, ⟨ "Fault", 42, 1, false, "", "", 8⟩, ⟨ "Steps", 3, 2, false, "", "", 16⟩, ⟨ "Spent", 3, 3, false, "", "", 24⟩, ⟨ "Idle", 3, 4, false, "", "", 32⟩, ⟨ "Screen", 23, 5, false, "", "", 40⟩, ⟨ "Tones", 40, 6, false, "", "", 64⟩]) := by kernel_rfl
theorem c_u8 {x : Int} (h : (Lit.int .u8 x).wf = true) : ∃ y : UInt8, x = (y.toNat : Int) := by
  have h0 : 0 ≤ x ∧ x ≤ 255 := by simpa [Lit.wf, IntKind.min, IntKind.max, IntKind.bits, IntKind.signed] using h
  exact ⟨UInt8.ofNat x.toNat, (byte_nat x h0.1 h0.2).symm⟩
theorem c_u16 {x : Int} (h : (Lit.int .u16 x).wf = true) : ∃ y : UInt16, x = (y.toNat : Int) := by
  have h0 : 0 ≤ x ∧ x ≤ 65535 := by simpa [Lit.wf, IntKind.min, IntKind.max, IntKind.bits, IntKind.signed] using h
  refine ⟨UInt16.ofNat x.toNat, ?_⟩
  rw [UInt16.toNat_ofNat']
  have : x.toNat % 2 ^ 16 = x.toNat := Nat.mod_eq_of_lt (by omega)
  rw [this]; omega
theorem open_tn {W : World} {n : Nat} {cs : List Value} {D : DataW H} {Pl : List MemPlace} (h : DataW.trod enc Tryd.prog W 0 (fun _ => true) true n 39 cs = some (D, Pl)) :
    ∃ t : Tn, cs = [.int .i64 t.c, .int .u16 (t.p.toNat : Int), .int .u8 (t.v.toNat : Int)] ∧ inI t.c := by
  obtain ⟨xs, q, _, hxy, hcl, hxl, hf⟩ := DataW.trod_struct undT h
  have hc5 : Tryd.prog.cellsOf 39 = 3 := by kernel_rfl
  rw [hc5] at hcl
  have c3 : Tryd.prog.cellsOf 3 = 1 := by kernel_rfl
  have c4 : Tryd.prog.cellsOf 37 = 1 := by kernel_rfl
  have c5 : Tryd.prog.cellsOf 5 = 1 := by kernel_rfl
  match xs, hxl, cs, hcl with
  | [x0, x1, x2], _, [a, b, c], _ =>
    have f0 := hf 0 _ rfl
    have f1 := hf 1 _ rfl
    have f2 := hf 2 _ rfl
    replace f0 : DataW.trod enc Tryd.prog W 0 (fun _ => true) true q 3 [a] = some x0 := by simpa [c3] using f0
    replace f1 : DataW.trod enc Tryd.prog W 0 (fun _ => true) true q 37 [b] = some x1 := by simpa [c4] using f1
    replace f2 : DataW.trod enc Tryd.prog W 0 (fun _ => true) true q 5 [c] = some x2 := by simpa [c5] using f2
    obtain ⟨k0, e0, q0, r0⟩ := DataW.trod_int Tryd.underlying3 f0
    obtain ⟨k1, e1, q1, r1⟩ := DataW.trod_int Tryd.underlying37 f1
    obtain ⟨k2, e2, q2, r2⟩ := DataW.trod_int Tryd.underlying5 f2
    simp only [List.cons.injEq, and_true] at e0 e1 e2
    subst e0 e1 e2
    obtain ⟨y1, rfl⟩ := c_u16 (by first | exact r1 | exact q1)
    obtain ⟨y2, rfl⟩ := c_u8 (by first | exact r2 | exact q2)
    exact ⟨⟨k0, y1, y2⟩, rfl, c_i64 (by first | exact r0 | exact q0)⟩
theorem open_tns {W : World} {a : Option Addr} {len cap : Nat} {d : DataW H} {p : List MemPlace} (h : DataW.Trod enc Tryd.prog W 0 (fun _ => true) true 40 (.slice a len cap) d p)
    : ∃ l : List Tn, S.Ls eT 3 W (.slice a len cap) l ∧ (∀ t ∈ l, inI t.c) ∧ l.length ≤ Rows.uptoBulk d := by
  obtain ⟨fuel, hf⟩ := h
  rcases Deep.open_slice Tryd.underlying40 hf with ⟨hcs, hx⟩ | ⟨x, l, c, m, n, D, Pl, hcs, _, hl, hm, hmm, hx, hel⟩
  · simp [Value.cells] at hcs
    obtain ⟨rfl, rfl, rfl⟩ := hcs
    exact ⟨[], .inl ⟨rfl, rfl⟩, (fun t ht => by simp at ht), Nat.zero_le _⟩
  · simp [Value.cells] at hcs
    obtain ⟨rfl, rfl, rfl⟩ := hcs
    simp only [Prod.mk.injEq] at hx
    obtain ⟨rfl, rfl⟩ := hx
    simp only [if_true] at hmm
    have hc5 : Tryd.prog.cellsOf 39 = 3 := by kernel_rfl
    rw [hc5] at hel
    have hsp0 : 0 < len → x.spot = none := fun hp => by
      obtain ⟨cs', h1, h2⟩ := hel 0 (by omega)
      obtain ⟨_, hlen, hcell⟩ := World.cells?_some h1
      obtain ⟨t, rfl, _⟩ := open_tn h2
      have g0 := hcell 0 (by simp)
      rw [Deep.add_add] at g0
      exact c_none g0
    have hex : ∀ i, i < len → ∃ t : Tn, ∃ b o, some x = some (⟨b, o, none⟩ : Addr) ∧ W.cell? ⟨b, o + i * 3, none⟩ = some (.int .i64 t.c) ∧ W.cell? ⟨b, o + i * 3 + 1, none⟩ = some (.int .u16 (t.p.toNat : Int)) ∧ W.cell? ⟨b, o + i * 3 + 2, none⟩ = some (.int .u8 (t.v.toNat : Int)) ∧ inI t.c := by
      intro i hi
      obtain ⟨cs', h1, h2⟩ := hel i (by omega)
      obtain ⟨_, hlen, hcell⟩ := World.cells?_some h1
      obtain ⟨t, rfl, hin⟩ := open_tn h2
      have g0 := hcell 0 (by simp)
      have g1 := hcell 1 (by simp)
      have g2 := hcell 2 (by simp)
      simp only [List.getElem?_cons_zero, List.getElem?_cons_succ] at g0 g1 g2
      rw [Deep.add_add] at g0 g1 g2
      have hsp := hsp0 (by omega)
      obtain ⟨b, o, sp⟩ := x
      simp only at hsp
      subst hsp
      rw [c_at] at g0 g1 g2
      exact ⟨t, b, o, rfl, g0, by rw [Nat.add_assoc]; exact g1, by rw [Nat.add_assoc]; exact g2, hin⟩
    have : Inhabited Tn := ⟨⟨0, 0, 0⟩⟩
    obtain ⟨f, hf2⟩ := Deep.choose_lt hex
    refine ⟨(List.range len).map f, .inr ⟨x, cap, by simp, by simpa using hl, fun i t hi => ?_⟩, ?_, ?_⟩
    rotate_left
    · intro t ht
      simp only [List.mem_map, List.mem_range] at ht
      obtain ⟨i, hi, rfl⟩ := ht
      obtain ⟨_, _, _, _, _, _, h⟩ := hf2 i hi
      exact h
    · rw [List.length_map, List.length_range, Rows.uptoBulk]
      have h3 := bulk_ge ((List.range len).map D)
      simp only [List.length_map, List.length_range] at h3
      first | omega | (simp only [List.length_map, List.length_range] at *; omega)
    have hil : i < len := by
      by_cases h : i < len
      · exact h
      · rw [List.getElem?_eq_none (by simp; omega)] at hi; cases hi
    simp [hil] at hi
    subst hi
    obtain ⟨b, o, e0, e1, e2, e3, _⟩ := hf2 i hil
    refine ⟨b, o, e0, fun j u hj => ?_⟩
    match j, hj with
    | 0, hj => simp only [eT, List.getElem?_cons_zero, Option.some.injEq] at hj; subst hj; exact e1
    | 1, hj => simp only [eT, List.getElem?_cons_succ, List.getElem?_cons_zero, Option.some.injEq] at hj; subst hj; exact e2
    | 2, hj => simp only [eT, List.getElem?_cons_succ, List.getElem?_cons_zero, Option.some.injEq] at hj; subst hj; exact e3
    | j + 3, hj => simp [eT] at hj
theorem list7 {α : Type} : ∀ l : List α, l.length = 7 → ∃ a b c d e f g, l = [a, b, c, d, e, f, g]
  | [a, b, c, d, e, f, g], _ => ⟨a, b, c, d, e, f, g, rfl⟩
theorem open_outU {W : World} {base : Nat} {v : Value} {d : DataW H} {p : List MemPlace} (hval : Value.okWide Tryd.prog W .any base 44 v) (h : DataW.Trod enc Tryd.prog W 0 (fun _ => true) true 44 v d p)
    (hw : Rows.uptoBulk d ≤ 1048576) :
    ∃ (z0 z1 z2 z3 z4 : Int) (vs vt : Value) (sc : List UInt8) (ts : List Tn), v = .agg #[.int .i64 z0, .int .i64 z1, .int .i64 z2, .int .i64 z3, .int .i64 z4, vs, vt] ∧ Sl W vs sc ∧ S.Ls eT 3 W vt ts ∧ (∀ t ∈ ts, inI t.c) ∧ sc.length ≤ 1048576 ∧ ts.length ≤ 1048576 := by
  obtain ⟨cs, rfl, hsz⟩ := okWide_struct undO hval
  obtain ⟨fuel, hf⟩ := h
  obtain ⟨xs, q, _, hxy, hcl, hxl, hff⟩ := DataW.trod_struct undO hf
  have hc4 : Tryd.prog.cellsOf 44 = 7 := by kernel_rfl
  rw [hc4] at hcl
  have k22 : Tryd.prog.cellsOf 41 = 1 := by kernel_rfl
  have k23 : Tryd.prog.cellsOf 42 = 1 := by kernel_rfl
  have k3 : Tryd.prog.cellsOf 3 = 1 := by kernel_rfl
  have k24 : Tryd.prog.cellsOf 23 = 1 := by kernel_rfl
  have k25 : Tryd.prog.cellsOf 40 = 1 := by kernel_rfl
  have hcs : ∃ a0 a1 a2 a3 a4 a5 a6, cs = #[a0, a1, a2, a3, a4, a5, a6] := by
    obtain ⟨l⟩ := cs
    simp [Value.cells] at hcl
    obtain ⟨a0, a1, a2, a3, a4, a5, a6, e⟩ := list7 l hcl
    exact ⟨a0, a1, a2, a3, a4, a5, a6, by rw [e]⟩
  obtain ⟨a0, a1, a2, a3, a4, a5, a6, rfl⟩ := hcs
  obtain ⟨x0, x1, x2, x3, x4, x5, x6, rfl⟩ := list7 xs hxl
  have f0 := hff 0 _ rfl
  have f1 := hff 1 _ rfl
  have f2 := hff 2 _ rfl
  have f3 := hff 3 _ rfl
  have f4 := hff 4 _ rfl
  have f5 := hff 5 _ rfl
  have f6 := hff 6 _ rfl
  replace f0 : DataW.trod enc Tryd.prog W 0 (fun _ => true) true q 41 [a0] = some x0 := by simpa [k22, Value.cells] using f0
  replace f1 : DataW.trod enc Tryd.prog W 0 (fun _ => true) true q 42 [a1] = some x1 := by simpa [k23, Value.cells] using f1
  replace f2 : DataW.trod enc Tryd.prog W 0 (fun _ => true) true q 3 [a2] = some x2 := by simpa [k3, Value.cells] using f2
  replace f3 : DataW.trod enc Tryd.prog W 0 (fun _ => true) true q 3 [a3] = some x3 := by simpa [k3, Value.cells] using f3
  replace f4 : DataW.trod enc Tryd.prog W 0 (fun _ => true) true q 3 [a4] = some x4 := by simpa [k3, Value.cells] using f4
  replace f5 : DataW.trod enc Tryd.prog W 0 (fun _ => true) true q 23 [a5] = some x5 := by simpa [k24, Value.cells] using f5
  replace f6 : DataW.trod enc Tryd.prog W 0 (fun _ => true) true q 40 [a6] = some x6 := by simpa [k25, Value.cells] using f6
  have hd : d = .agg [x0.1, x1.1, x2.1, x3.1, x4.1, x5.1, x6.1] := by
    simp only [Prod.mk.injEq] at hxy; rw [hxy.1]; rfl
  rw [hd] at hw
  simp only [Rows.uptoBulk, Rows.uptoBulkAll] at hw
  obtain ⟨z0, e0, _, b0⟩ := DataW.trod_int Tryd.underlying41 f0
  obtain ⟨z1, e1, _, b1⟩ := DataW.trod_int Tryd.underlying42 f1
  obtain ⟨z2, e2, _, b2⟩ := DataW.trod_int Tryd.underlying3 f2
  obtain ⟨z3, e3, _, b3⟩ := DataW.trod_int Tryd.underlying3 f3
  obtain ⟨z4, e4, _, b4⟩ := DataW.trod_int Tryd.underlying3 f4
  simp only [List.cons.injEq, and_true] at e0 e1 e2 e3 e4
  subst e0 e1 e2 e3 e4
  have hv5 : ∃ p n c, a5 = .slice p n c := by
    rcases Deep.open_slice Tryd.underlying23 f5 with ⟨hcs, _⟩ | ⟨x, l, c, m, n, D, Pl, hcs, _⟩ <;> (simp at hcs; exact ⟨_, _, _, hcs⟩)
  obtain ⟨sp, n5, sc5, rfl⟩ := hv5
  have hv6 : ∃ p n c, a6 = .slice p n c := by
    rcases Deep.open_slice Tryd.underlying40 f6 with ⟨hcs, _⟩ | ⟨x, l, c, m, n, D, Pl, hcs, _⟩ <;> (simp at hcs; exact ⟨_, _, _, hcs⟩)
  obtain ⟨tp, n6, tc6, rfl⟩ := hv6
  obtain ⟨sc, g1, g2⟩ := open_bytesU (d := x5.1) (p := x5.2) ⟨q, f5⟩
  obtain ⟨ts, j1, ji, j2⟩ := open_tns (d := x6.1) (p := x6.2) ⟨q, f6⟩
  exact ⟨z0, z1, z2, z3, z4, _, _, sc, ts, rfl, g1, j1, ji, by omega, by omega⟩
end
end Go.Proofs.YtlljelfplffglabDoor.H
