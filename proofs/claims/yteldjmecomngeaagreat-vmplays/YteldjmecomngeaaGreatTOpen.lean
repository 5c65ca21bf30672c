import Derived.Test.YteldjmecomngeaaGreatTKit
import Derived.Test.YteldjmecomngeaaGreatRows
import Derived.ProofKit
import Derived.OpenShut
import Derived.LaidMore
import Derived.Deep.DeepHandedRow
import Derived.Lib.LaidTab
import Derived.ChangeOld
import Derived.Below
import Derived.WalkKit
import Derived.Deep.Slices
import Derived.Deep.SlicePairs
import Derived.SizedLaws
namespace Go.Proofs.YteldjmecomngeaaGreat.T
open Go.RowKit Go.ChangeShapes Go.WideShapes Go.ChangeAt
open Go.Proofs.YteldjmecomngeaaGreat.M
set_option linter.unusedVariables false
set_option linter.unusedSimpArgs false
set_option maxRecDepth 100000
theorem own : ownKnob Tryz.prog.godebug = none := by kernel_rfl
theorem laidOut : laidOutB Tryz.prog = true := by kernel_rfl
section
variable {H : Type} {enc : TypeId × Value -> H}
theorem bytes5 : Tryz.prog.bytesOf 5 = 1 := by kernel_rfl
theorem byte_nat (n : Int) (h0 : 0 <= n) (h1 : n <= 255) : (((UInt8.ofNat n.toNat).toNat : Nat) : Int) = n := by
 rw [UInt8.toNat_ofNat']
 have : n.toNat % 2 ^ 8 = n.toNat := Nat.mod_eq_of_lt (by omega)
 rw [this]; omega
theorem open_bytes1 {W : World} {a : Option Addr} {len cap : Nat} {d : DataW H} {p : List MemPlace} (h : DataW.Trod enc Tryz.prog W 0 (fun _ => true) true 22 (.slice a len cap) d p) :
  ∃ l : List UInt8, Sl W (.slice a len cap) l /\ ((d.weights Tryz.prog 22).all (· <= reachBytes) = true -> l.length + 4096 <= room) := by
 obtain ⟨fuel, hf⟩ := h
 rcases open_ints Tryz.underlying22 Tryz.underlying5 (by kernel_rfl) hf with ⟨hcs, hx⟩ | ⟨x, l, c, zs, hcs, _, hl, hm, hz, hx, hcell, hwz⟩
 ·simp [Value.cells] at hcs
  obtain ⟨rfl, rfl, rfl⟩ := hcs; exact ⟨[], .inl ⟨rfl, rfl⟩, fun _ => by decide⟩
 ·simp [Value.cells] at hcs
  obtain ⟨rfl, rfl, rfl⟩ := hcs; simp only [Prod.mk.injEq] at hx; obtain ⟨rfl, rfl⟩ := hx; simp only [if_true] at hz; have hlen : ((zs.take len).map fun n => UInt8.ofNat n.toNat).length = len := by simp; omega
  refine ⟨(zs.take len).map fun n => UInt8.ofNat n.toNat, .inr ⟨x, cap, by rw [hlen], by rw [hlen]; exact hl, fun j b hj => ?_⟩, fun hw => ?_⟩
  ·have hjl : j < len := by
    by_cases h : j < len
    ·exact h
    ·rw [List.getElem?_eq_none (by rw [hlen]; omega)] at hj; cases hj
   have hc := hcell j (by omega); rw [hc]; have hb := range_u8 hwz j; rw [List.getElem?_map, List.getElem?_take, if_pos hjl, List.getElem?_eq_getElem (by omega)] at hj; simp only [Option.map_some, Option.some.injEq] at hj; subst hj; have e : zs.getD j 0 = zs[j]'(by omega) := by simp [List.getD, List.getElem?_eq_getElem (show j < zs.length by omega)]
   have e2 : zs[j]?.getD 0 = zs[j]'(by omega) := by rw [List.getElem?_eq_getElem (show j < zs.length by omega)]; rfl
   rw [e2] at hb; rw [e, byte_nat _ (by omega) (by omega)]
  ·rw [hlen]
   simp only [DataW.weights, Tryz.underlying22, List.all_cons, bytes5, Bool.and_eq_true, decide_eq_true_eq] at hw; have h2 : (lits (H := H) .u8 (zs.take len)).length = len := by simp [lits]; omega
   have h3 := hw.1; rw [h2] at h3; unfold reachBytes at h3; unfold room
   omega
theorem open_bytes0 {W : World} {fuel : Nat} {cs : List Value} {x : DataW H × List MemPlace} (h : DataW.trod enc Tryz.prog W 0 (fun _ => true) true fuel 22 cs = some x) :
  ∃ (v : Value) (l : List UInt8), cs = [v] /\ Sl W v l /\ ((x.1.weights Tryz.prog 22).all (· <= reachBytes) = true -> l.length + 4096 <= room) := by
 have hcs : ∃ v, cs = [v] := by
  rcases open_ints Tryz.underlying22 Tryz.underlying5 (by kernel_rfl) h with ⟨hcs, hx⟩ | ⟨x, l, c, zs, hcs, _⟩
  ·exact ⟨_, hcs⟩
  ·exact ⟨_, hcs⟩
 obtain ⟨v, rfl⟩ := hcs
 have hv : ∃ a len cap, v = .slice a len cap := by
  rcases open_ints Tryz.underlying22 Tryz.underlying5 (by kernel_rfl) h with ⟨hcs, hx⟩ | ⟨x, l, c, zs, hcs, _⟩
  ·simp at hcs; exact ⟨_, _, _, hcs⟩
  ·simp at hcs; exact ⟨_, _, _, hcs⟩
 obtain ⟨a, len, cap, rfl⟩ := hv
 obtain ⟨l, h1, h3⟩ := open_bytes1 (a := a) (len := len) (cap := cap) (d := x.1) (p := x.2) ⟨fuel, h⟩
 exact ⟨_, l, rfl, h1, h3⟩
theorem weights_all (P : Program) (e : TypeId) (D : Nat -> DataW H) (q : Nat -> Bool) : ∀ (is : List Nat), (DataW.weightsAll P e (is.map D)).all q = true -> ∀ i ∈ is, ((D i).weights P e).all q = true := by
 intro is
 induction is with
 | nil => intro _ i hi; simp at hi
 | cons j is ih =>
  intro h i hi; simp only [List.map_cons, DataW.weightsAll, List.all_append, Bool.and_eq_true] at h
  rcases List.mem_cons.1 hi with rfl | hi
  ·exact h.1
  ·exact ih h.2 i hi
theorem und37 : Tryz.prog.underlying 81 = some (.struct #[⟨ "Num", 3, 0, false, "", "", 0⟩, ⟨ "Data", 22, 1, false, "", "", 8⟩]) := by kernel_rfl
theorem add_none {a : Addr} {W : World} {v : Value} (h : W.cell? (a.add 0) = some v) : a.spot = none := by
 have := World.cell?_spot h
 simpa [Addr.add] using this
theorem add_at (b o k : Nat) : (⟨b, o, none⟩ : Addr).add k = ⟨b, o + k, none⟩ := Addr.add_lit _ _ _
theorem open_banks0 {W : World} {a : Option Addr} {len cap : Nat} {d : DataW H} {p : List MemPlace} (h : DataW.Trod enc Tryz.prog W 0 (fun _ => true) true 25 (.slice a len cap) d p)
  (hw : (d.weights Tryz.prog 25).all (· <= reachBytes) = true) :
  ∃ (bs : List (Int × List UInt8)), len = bs.length /\ BnS W a bs /\ bs.length * 32 <= room /\ (∀ t ∈ bs, t.2.length + 1 <= room) /\ ∀ t ∈ bs, (Lit.int .i64 t.1).wf = true := by
 obtain ⟨fuel, hf⟩ := h
 rcases Deep.open_slice_pairs Tryz.underlying25 und37 (by kernel_rfl) rfl rfl (by kernel_rfl) (by kernel_rfl) hf with ⟨hcs, hx⟩ | ⟨x, l, c, m, n, V0, V1, D0, D1, P0, P1, hcs, _, hl, hm, hmm, hx, hel⟩
 ·simp [Value.cells] at hcs
  obtain ⟨rfl, rfl, rfl⟩ := hcs; exact ⟨[], rfl, fun i l hi => by simp at hi, by simp, by simp, by simp⟩
 ·simp [Value.cells] at hcs
  obtain ⟨rfl, rfl, rfl⟩ := hcs; simp only [Prod.mk.injEq] at hx; obtain ⟨rfl, rfl⟩ := hx; simp only [if_true] at hmm; have hby : Tryz.prog.bytesOf 81 = 32 := by kernel_rfl
  simp only [DataW.weights, Tryz.underlying25, List.all_cons, List.all_append, Bool.and_eq_true, decide_eq_true_eq, hby, List.length_map, List.length_range] at hw; have hw1 := hw.1; unfold reachBytes at hw1; have hwi := weights_all Tryz.prog 81 _ _ (List.range len) hw.2.1; have hsp0 : 0 < len -> x.spot = none := fun hp => add_none (hel 0 (by omega)).1
  have hex : ∀ i, i < len -> ∃ t : Int × List UInt8, (∃ b o dv, some x = some (⟨b, o, none⟩ : Addr) /\ W.cell? ⟨b, o + i * 2, none⟩ = some (.int .i64 t.1) /\ W.cell? ⟨b, o + i * 2 + 1, none⟩ = some dv /\ Sl W dv t.2 /\ t.2.length + 4096 <= room /\ (Lit.int .i64 t.1).wf = true) := fun i hi => by
   obtain ⟨g0, g1, t0, t1⟩ := hel i (by omega); obtain ⟨k, e0, _, w0⟩ := DataW.trod_int Tryz.underlying3 t0; obtain ⟨dv, l, e1, hs, hlw⟩ := open_bytes0 t1
   simp at e0 e1
   rw [e0] at g0; rw [e1] at g1; have hsp := hsp0 (by omega); obtain ⟨b, o, sp⟩ := x; simp only at hsp; subst hsp; rw [add_at] at g0 g1; refine ⟨(k, l), b, o, dv, rfl, g0, by rw [Nat.add_assoc]; exact g1, hs, hlw ?_, w0⟩; have hwk := hwi i (by simpa using hi); simp only [DataW.weights, und37, List.map_cons, List.map_nil, DataW.weightsEach, List.all_append, Bool.and_eq_true] at hwk; exact hwk.2.1
  obtain ⟨f, hf2⟩ := Deep.choose_lt hex; refine ⟨(List.range len).map f, by simp, fun i t hi => ?_, by simp; unfold room; omega, ?_, ?_⟩
  ·have hil : i < len := by
    by_cases h : i < len
    ·exact h
    ·rw [List.getElem?_eq_none (by simp; omega)] at hi; cases hi
   simp [hil] at hi
   subst hi; obtain ⟨b, o, dv, e1, e2, e3, e4, e5, e6⟩ := hf2 i hil; exact ⟨b, o, dv, e1, e2, e3, e4, by omega⟩
  ·intro t ht
   simp only [List.mem_map, List.mem_range] at ht; obtain ⟨i, hi, rfl⟩ := ht; obtain ⟨b, o, dv, e1, e2, e3, e4, e5, e6⟩ := hf2 i hi
   omega
  ·intro t ht
   simp only [List.mem_map, List.mem_range] at ht; obtain ⟨i, hi, rfl⟩ := ht; obtain ⟨b, o, dv, e1, e2, e3, e4, e5, e6⟩ := hf2 i hi; exact e6
theorem und80 : Tryz.prog.underlying 190 = some (.struct #[⟨ "At", 23, 0, false, "", "", 0⟩, ⟨ "In", 3, 1, false, "", "", 8⟩, ⟨ "Out", 3, 2, false, "", "", 16⟩]) := by kernel_rfl
theorem open_eff {W : World} {n : Nat} {cs : List Value} {D : DataW H} {Pl : List MemPlace} (h : DataW.trod enc Tryz.prog W 0 (fun _ => true) true n 190 cs = some (D, Pl)) :
  ∃ (a i o : Int), cs = [.int .u16 a, .int .i64 i, .int .i64 o] /\ (Lit.int .u16 a).wf = true /\ (Lit.int .i64 i).wf = true /\ (Lit.int .i64 o).wf = true := by
 obtain ⟨xs, q, _, hxy, hcl, hxl, hf⟩ := DataW.trod_struct und80 h
 have hc3 : Tryz.prog.cellsOf 190 = 3 := by kernel_rfl
 rw [hc3] at hcl
 have c3 : Tryz.prog.cellsOf 3 = 1 := by kernel_rfl
 have c23 : Tryz.prog.cellsOf 23 = 1 := by kernel_rfl
 match xs, hxl, cs, hcl with
 | [x0, x1, x2], _, [a, b, c], _ =>
  have f0 := hf 0 _ rfl; have f1 := hf 1 _ rfl; have f2 := hf 2 _ rfl
  replace f0 : DataW.trod enc Tryz.prog W 0 (fun _ => true) true q 23 [a] = some x0 := by simpa [c23] using f0
  replace f1 : DataW.trod enc Tryz.prog W 0 (fun _ => true) true q 3 [b] = some x1 := by simpa [c23, c3] using f1
  replace f2 : DataW.trod enc Tryz.prog W 0 (fun _ => true) true q 3 [c] = some x2 := by simpa [c23, c3] using f2
  obtain ⟨k, e0, _, w0⟩ := DataW.trod_int Tryz.underlying23 f0; obtain ⟨m, e1, _, w1⟩ := DataW.trod_int Tryz.underlying3 f1; obtain ⟨o, e2, _, w2⟩ := DataW.trod_int Tryz.underlying3 f2
  simp at e0 e1 e2
  subst e0 e1 e2; exact ⟨k, m, o, rfl, w0, w1, w2⟩
theorem open_effs0 {W : World} {a : Option Addr} {len cap : Nat} {d : DataW H} {p : List MemPlace} (h : DataW.Trod enc Tryz.prog W 0 (fun _ => true) true 24 (.slice a len cap) d p)
  (hw : (d.weights Tryz.prog 24).all (· <= reachBytes) = true) :
  ∃ (es : List Ef), len = es.length /\ EfS W a es /\ es.length * 24 <= room /\ (∀ x ∈ es, x.1 < 65536) /\ ∀ x ∈ es, (Lit.int .i64 x.2.1).wf = true /\ (Lit.int .i64 x.2.2).wf = true := by
 obtain ⟨fuel, hf⟩ := h
 rcases Deep.open_slice Tryz.underlying24 hf with ⟨hcs, hx⟩ | ⟨x, l, c, m, n, D, Pl, hcs, _, hl, hm, hmm, hx, hel⟩
 ·simp [Value.cells] at hcs
  obtain ⟨rfl, rfl, rfl⟩ := hcs; exact ⟨[], rfl, fun i l hi => by simp at hi, by simp, by simp, by simp⟩
 ·simp [Value.cells] at hcs
  obtain ⟨rfl, rfl, rfl⟩ := hcs; simp only [Prod.mk.injEq] at hx; obtain ⟨rfl, rfl⟩ := hx; simp only [if_true] at hmm; have hc3 : Tryz.prog.cellsOf 190 = 3 := by kernel_rfl
  rw [hc3] at hel; have hby : Tryz.prog.bytesOf 190 = 24 := by kernel_rfl
  simp only [DataW.weights, Tryz.underlying24, List.all_cons, List.all_append, Bool.and_eq_true, decide_eq_true_eq, hby, List.length_map, List.length_range] at hw; have hw1 := hw.1; unfold reachBytes at hw1
  have hsp0 : 0 < len -> x.spot = none := fun hp => by
   obtain ⟨cs', h1, h2⟩ := hel 0 (by omega); obtain ⟨_, hlen, hcell⟩ := World.cells?_some h1; obtain ⟨k, m2, o2, rfl, _⟩ := open_eff h2; have g0 := hcell 0 (by decide); rw [Deep.add_add] at g0; exact add_none g0
  have hex : ∀ i, i < len -> ∃ t : Ef, (∃ b o, some x = some (⟨b, o, none⟩ : Addr) /\ W.cell? ⟨b, o + i * 3, none⟩ = some (.int .u16 (t.1 : Int)) /\ W.cell? ⟨b, o + i * 3 + 1, none⟩ = some (.int .i64 t.2.1) /\ W.cell? ⟨b, o + i * 3 + 2, none⟩ = some (.int .i64 t.2.2)) /\ t.1 < 65536 /\ (Lit.int .i64 t.2.1).wf = true /\ (Lit.int .i64 t.2.2).wf = true := fun i hi => by
   obtain ⟨cs', h1, h2⟩ := hel i (by omega); obtain ⟨_, hlen, hcell⟩ := World.cells?_some h1; obtain ⟨k, m2, o2, rfl, w0, w1, w2⟩ := open_eff h2; have hb := bounds_u16 w0; obtain ⟨kn, rfl⟩ : ∃ kn : Nat, k = (kn : Int) := ⟨k.toNat, by omega⟩
   have g0 := hcell 0 (by decide); have g1 := hcell 1 (by decide); have g2 := hcell 2 (by decide); simp only [List.getElem?_cons_zero, List.getElem?_cons_succ] at g0 g1 g2; rw [Deep.add_add] at g0 g1 g2; have hsp := hsp0 (by omega); obtain ⟨b, o, sp⟩ := x; simp only at hsp; subst hsp; rw [add_at] at g0 g1 g2; exact ⟨(kn, m2, o2), ⟨b, o, rfl, g0, by rw [Nat.add_assoc]; exact g1, by rw [Nat.add_assoc]; exact g2⟩, by show kn < 65536; omega, w1, w2⟩
  obtain ⟨f, hf2⟩ := Deep.choose_lt hex; refine ⟨(List.range len).map f, by simp, fun i t hi => ?_, by simp; unfold room; omega, ?_, ?_⟩
  ·have hil : i < len := by
    by_cases h : i < len
    ·exact h
    ·rw [List.getElem?_eq_none (by simp; omega)] at hi; cases hi
   simp [hil] at hi
   subst hi; exact (hf2 i hil).1
  ·intro t ht
   simp only [List.mem_map, List.mem_range] at ht; obtain ⟨i, hi, rfl⟩ := ht; exact (hf2 i hi).2.1
  ·intro t ht
   simp only [List.mem_map, List.mem_range] at ht; obtain ⟨i, hi, rfl⟩ := ht; exact (hf2 i hi).2.2
theorem und27 : Tryz.prog.underlying 27 = some (.struct #[⟨ "Code", 22, 0, false, "", "", 0⟩, ⟨ "Entry", 23, 1, false, "", "", 24⟩, ⟨ "Effects", 24, 2, false, "", "", 32⟩, ⟨ "Banks", 25, 3, false, "", "", 56⟩]) := by kernel_rfl
theorem list4 {α : Type} (l : List α) (h : l.length = 4) : ∃ a0 a1 a2 a3, l = [a0, a1, a2, a3] := by
 rcases l with _ | ⟨a0, _ | ⟨a1, _ | ⟨a2, _ | ⟨a3, _ | ⟨b, l⟩⟩⟩⟩⟩
 all_goals first | exact ⟨_, _, _, _, rfl⟩ | (simp at h)
theorem open_cart {W : World} {base : Nat} {v : Value} {d : DataW H} {p : List MemPlace} (hval : Value.okWide Tryz.prog W .any base 27 v) (h : DataW.Trod enc Tryz.prog W 0 (fun _ => true) true 27 v d p)
  (hw : (d.weights Tryz.prog 27).all (· <= reachBytes) = true) :
  ∃ (c : Ct) (ep : Option Addr) (ec : Nat) (bp : Option Addr) (bc : Nat) (kv : Value), IsC W v c ep ec bp bc kv /\ (ep = none -> ec = 0) /\ c.code.length + 4096 <= room := by
 obtain ⟨cs, rfl, hsz⟩ := okWide_struct und27 hval
 obtain ⟨fuel, hf⟩ := h
 obtain ⟨xs, q, _, hxy, hcl, hxl, hff⟩ := DataW.trod_struct und27 hf
 have hc4 : Tryz.prog.cellsOf 27 = 4 := by kernel_rfl
 rw [hc4] at hcl
 have k22 : Tryz.prog.cellsOf 22 = 1 := by kernel_rfl
 have k23 : Tryz.prog.cellsOf 23 = 1 := by kernel_rfl
 have k24 : Tryz.prog.cellsOf 24 = 1 := by kernel_rfl
 have k25 : Tryz.prog.cellsOf 25 = 1 := by kernel_rfl
 have hcs : ∃ a0 a1 a2 a3, cs = #[a0, a1, a2, a3] := by
  obtain ⟨l⟩ := cs
  simp [Value.cells] at hcl
  obtain ⟨a0, a1, a2, a3, e⟩ := list4 l hcl; exact ⟨a0, a1, a2, a3, by rw [e]⟩
 obtain ⟨a0, a1, a2, a3, rfl⟩ := hcs
 obtain ⟨x0, x1, x2, x3, rfl⟩ := list4 xs hxl
 have f0 := hff 0 _ rfl
 have f1 := hff 1 _ rfl
 have f2 := hff 2 _ rfl
 have f3 := hff 3 _ rfl
 replace f0 : DataW.trod enc Tryz.prog W 0 (fun _ => true) true q 22 [a0] = some x0 := by simpa [k22, Value.cells] using f0
 replace f1 : DataW.trod enc Tryz.prog W 0 (fun _ => true) true q 23 [a1] = some x1 := by simpa [k23, Value.cells] using f1
 replace f2 : DataW.trod enc Tryz.prog W 0 (fun _ => true) true q 24 [a2] = some x2 := by simpa [k24, Value.cells] using f2
 replace f3 : DataW.trod enc Tryz.prog W 0 (fun _ => true) true q 25 [a3] = some x3 := by simpa [k25, Value.cells] using f3
 have hd : d = .agg [x0.1, x1.1, x2.1, x3.1] := by
  simp only [Prod.mk.injEq] at hxy; rw [hxy.1]; rfl
 rw [hd] at hw
 simp only [DataW.weights, und27, List.map_cons, List.map_nil, DataW.weightsEach, List.all_append, Bool.and_eq_true] at hw
 obtain ⟨w0, w1, w2, w3, _⟩ := hw
 obtain ⟨kv, code, ek, hk, hkl⟩ := open_bytes0 f0
 simp at ek
 subst ek
 obtain ⟨z1, e1, _, b1⟩ := DataW.trod_int Tryz.underlying23 f1
 simp at e1
 subst e1
 have hb1 := bounds_u16 b1
 obtain ⟨en, rfl⟩ : ∃ en : Nat, z1 = (en : Int) := ⟨z1.toNat, by omega⟩
 have hv2 : ∃ p n c, a2 = .slice p n c /\ (p = none -> c = 0) := by
  rcases Deep.open_slice Tryz.underlying24 f2 with ⟨hcs, _⟩ | ⟨x, l, c, m, n, D, Pl, hcs, _⟩ <;> (simp at hcs; exact ⟨_, _, _, hcs, by simp⟩)
 obtain ⟨ep, n2, ec, rfl, hnn⟩ := hv2
 have hv3 : ∃ p n c, a3 = .slice p n c := by
  rcases Deep.open_slice Tryz.underlying25 f3 with ⟨hcs, _⟩ | ⟨x, l, c, m, n, D, Pl, hcs, _⟩ <;> (simp at hcs; exact ⟨_, _, _, hcs⟩)
 obtain ⟨bp, n3, bc, rfl⟩ := hv3
 obtain ⟨es, rfl, g1, g2, g3, g4⟩ := open_effs0 (d := x2.1) (p := x2.2) ⟨q, f2⟩ w2
 obtain ⟨bs, rfl, j1, j2, j3, j4⟩ := open_banks0 (d := x3.1) (p := x3.2) ⟨q, f3⟩ w3
 have hl0 := hkl w0
 exact ⟨⟨code, en, es, bs⟩, ep, ec, bp, bc, a0, ⟨rfl, hk, by show code.length <= room; omega, g1, g2, j1, j2, ⟨by show en < 65536; omega, g3⟩, g4, j4⟩, hnn, hl0⟩
end
end Go.Proofs.YteldjmecomngeaaGreat.T
