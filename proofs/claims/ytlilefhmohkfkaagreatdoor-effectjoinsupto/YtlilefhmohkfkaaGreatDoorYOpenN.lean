import Derived.Test.YtlilefhmohkfkaaGreatDoorYBank
import Derived.Test.YtlilefhmohkfkaaGreatDoorRows
import Derived.ProofKit
import Derived.OpenShut
import Derived.JoinedCond
import Derived.ChangeOld
import Derived.Below
import Derived.WalkKit
import Derived.Deep.Slices
import Derived.SizedLaws
/-! What nodes that came in give a walk. -/
namespace Go.Proofs.YtlilefhmohkfkaaGreatDoor.Y
open Go.RowKit Go.ChangeShapes Go.WideShapes Go.ChangeAt
set_option linter.unusedVariables false
set_option linter.unusedSimpArgs false
set_option maxRecDepth 100000
theorem own : ownKnob Tryz.prog.godebug = none := by kernel_rfl
theorem laidOut : laidOutB Tryz.prog = true := by kernel_rfl
section
variable {H : Type} {enc : TypeId × Value → H}
theorem undNd : Tryz.prog.underlying 30 = some (.struct #[⟨ "Kind", 3, 0, false, "", "", 0⟩, ⟨ "Op", 3, 1, false, "", "", 8⟩, ⟨ "Value", 23, 2, false, "", "", 16⟩, ⟨ "Name", 9, 3, false, "", "", 24⟩, ⟨ "Then", 22, 4, false, "", "", 40⟩, ⟨ "Else", 22, 5, false, "", "", 64⟩, ⟨ "Has", 4, 6, false, "", "", 88⟩, ⟨ "Pos", 25, 7, false, "", "", 96⟩]) := by kernel_rfl
theorem undPs : Tryz.prog.underlying 25 = some (.struct #[⟨ "Line", 3, 0, false, "", "", 0⟩, ⟨ "Col", 3, 1, false, "", "", 8⟩]) := by kernel_rfl
theorem cNd : Tryz.prog.cellsOf 30 = 9 := by kernel_rfl
theorem cPs : Tryz.prog.cellsOf 25 = 2 := by kernel_rfl
theorem c3 : Tryz.prog.cellsOf 3 = 1 := by kernel_rfl
theorem c4 : Tryz.prog.cellsOf 4 = 1 := by kernel_rfl
theorem c9 : Tryz.prog.cellsOf 9 = 1 := by kernel_rfl
theorem cU : Tryz.prog.cellsOf 23 = 1 := by kernel_rfl
theorem cNs : Tryz.prog.cellsOf 22 = 1 := by kernel_rfl
theorem open_pos {W : World} {n : Nat} {cs : List Value} {x : DataW H × List MemPlace} (h : DataW.trod enc Tryz.prog W 0 (fun _ => true) true n 25 cs = some x) : ∃ p : Ps, cs = [.int .i64 p.1, .int .i64 p.2] := by
  obtain ⟨xs, q, _, hxy, hcl, hxl, hf⟩ := DataW.trod_struct undPs h
  rw [cPs] at hcl
  match xs, hxl, cs, hcl with
  | [x0, x1], _, [a, b], _ =>
    have f0 := hf 0 _ rfl
    have f1 := hf 1 _ rfl
    replace f0 : DataW.trod enc Tryz.prog W 0 (fun _ => true) true q 3 [a] = some x0 := by simpa [c3] using f0
    replace f1 : DataW.trod enc Tryz.prog W 0 (fun _ => true) true q 3 [b] = some x1 := by simpa [c3] using f1
    obtain ⟨k0, e0, _, _⟩ := DataW.trod_int Tryz.underlying3 f0
    obtain ⟨k1, e1, _, _⟩ := DataW.trod_int Tryz.underlying3 f1
    simp only [List.cons.injEq, and_true] at e0 e1
    subst e0 e1
    exact ⟨(k0, k1), rfl⟩
theorem cn_le (k : Int) (has : Bool) (a b : Int) (ha : 0 ≤ a) (hb : 0 ≤ b) : cn k has a b ≤ 4 + a + b := by
  unfold cn
  repeat' split
  all_goals omega
theorem add_none {a : Addr} {W : World} {v : Value} (h : W.cell? (a.add 0) = some v) : a.spot = none := by
  have := World.cell?_spot h
  simpa [Addr.add] using this
theorem bulk_sum : ∀ (ns : List Nd) (es : List (DataW H)), ns.length = es.length → (∀ (i : Nat) n e, ns[i]? = some n → es[i]? = some e → ce n ≤ 4 * (Rows.uptoBulk e : Int) ∧ 1 ≤ Rows.uptoBulk e) → cl ns ≤ 4 * (Rows.uptoBulkAll es : Int) ∧ ns.length ≤ Rows.uptoBulkAll es
  | [], [], _, _ => by rw [cl_nil]; simp [Rows.uptoBulkAll]
  | [], _ :: _, h, _ => by simp at h
  | _ :: _, [], h, _ => by simp at h
  | n :: r, e :: es, h, k => by
    have h0 := k 0 n e rfl rfl
    have h1 := bulk_sum r es (by simpa using h) fun i n e hn he => k (i + 1) n e (by simpa using hn) (by simpa using he)
    rw [cl_cons, Rows.uptoBulkAll, List.length_cons]
    refine ⟨?_, by omega⟩
    have := h1.1
    have := h0.1
    push_cast
    omega
theorem bulk_part : ∀ (l : List (DataW H)) (i : Nat) (d : DataW H), l[i]? = some d → Rows.uptoBulk d ≤ Rows.uptoBulkAll l
  | [], i, d, h => by simp at h
  | x :: r, 0, d, h => by simp at h; subst h; rw [Rows.uptoBulkAll]; omega
  | x :: r, i + 1, d, h => by
    have := bulk_part r i d (by simpa using h)
    rw [Rows.uptoBulkAll]; omega
/-- Nodes of a reading, by its fuel. -/
theorem open_nodes : ∀ (fuel : Nat) {W : World} {cs : List Value} {x : DataW H × List MemPlace}, DataW.trod enc Tryz.prog W 0 (fun _ => true) true fuel 22 cs = some x → Rows.uptoBulk x.1 ≤ 1048576 →
    ∃ (v : Value) (l : List Nd), cs = [v] ∧ NV W (· < W.heap.size) v l ∧ cl l ≤ 4 * (Rows.uptoBulk x.1 : Int) ∧ l.length ≤ Rows.uptoBulk x.1 := by
  intro fuel
  induction fuel using Nat.strongRecOn with
  | ind fuel ih =>
    intro W cs x h hsm
    rcases DataW.trod_slice Tryz.underlying22 h with ⟨rfl, rfl⟩ | ⟨a, len, cap, elems, rest, n, hfu, rfl, rfl, hb, hl, hm, hlen, hel, hsp, hns⟩
    · exact ⟨_, [], rfl, NV.nil (.inl rfl), by rw [cl_nil]; omega, by simp⟩
    · have hsm2 : Rows.uptoBulkAll (elems.map (·.1)) ≤ 1048576 := by
        have : Rows.uptoBulk (DataW.slice (elems.map (·.1)) (rest.map (·.1))) ≤ 1048576 := hsm
        rw [Rows.uptoBulk] at this
        omega
      have hsp0 : 0 < len → a.spot = none := fun h0 => by
        have h1 := hel 0 h0
        rw [cNd, List.getElem?_eq_getElem (by omega)] at h1
        cases hcs : W.cells? 0 (a.add (0 * 9)) 9 with
        | none => rw [hcs] at h1; cases h1
        | some cs0 =>
          obtain ⟨_, hl9, hcell⟩ := World.cells?_some hcs
          have g0 := hcell 0 (by omega)
          rw [Deep.add_add, List.getElem?_eq_getElem (by omega)] at g0
          exact add_none g0
      have hex : ∀ i, i < len → ∃ nd : Nd, (∃ b o, a = (⟨b, o, none⟩ : Addr) ∧ b < W.heap.size ∧ N1 W (· < W.heap.size) b (o + i * 9) nd) ∧ ∀ e, elems[i]? = some e → ce nd ≤ 4 * (Rows.uptoBulk e.1 : Int) ∧ 1 ≤ Rows.uptoBulk e.1 := fun i hi => by
        have h1 := hel i hi
        rw [cNd] at h1
        have hei : elems[i]? = some elems[i] := List.getElem?_eq_getElem (by omega)
        rw [hei] at h1
        generalize elems[i] = e at h1 hei
        cases hcs : W.cells? 0 (a.add (i * 9)) 9 with
        | none => rw [hcs] at h1; cases h1
        | some cs' =>
          rw [hcs] at h1
          have h2 : DataW.trod enc Tryz.prog W 0 (fun _ => true) true n 30 cs' = some e := h1
          obtain ⟨_, hlen9, hcell⟩ := World.cells?_some hcs
          obtain ⟨xs, q, hq, hxy, hcl, hxl, hf⟩ := DataW.trod_struct undNd h2
          rw [cNd] at hcl
          match xs, hxl, cs', hcl with
          | [x0, x1, x2, x3, x4, x5, x6, x7], _, [u0, u1, u2, u3, u4, u5, u6, u7, u8], _ =>
            have f0 : DataW.trod enc Tryz.prog W 0 (fun _ => true) true q 3 [u0] = some x0 := by simpa [c3] using hf 0 _ rfl
            have f1 : DataW.trod enc Tryz.prog W 0 (fun _ => true) true q 3 [u1] = some x1 := by simpa [c3] using hf 1 _ rfl
            have f2 : DataW.trod enc Tryz.prog W 0 (fun _ => true) true q 23 [u2] = some x2 := by simpa [cU] using hf 2 _ rfl
            have f3 : DataW.trod enc Tryz.prog W 0 (fun _ => true) true q 9 [u3] = some x3 := by simpa [c9] using hf 3 _ rfl
            have f4 : DataW.trod enc Tryz.prog W 0 (fun _ => true) true q 22 [u4] = some x4 := by simpa [cNs] using hf 4 _ rfl
            have f5 : DataW.trod enc Tryz.prog W 0 (fun _ => true) true q 22 [u5] = some x5 := by simpa [cNs] using hf 5 _ rfl
            have f6 : DataW.trod enc Tryz.prog W 0 (fun _ => true) true q 4 [u6] = some x6 := by simpa [c4] using hf 6 _ rfl
            have f7 : DataW.trod enc Tryz.prog W 0 (fun _ => true) true q 25 [u7, u8] = some x7 := by simpa [cPs] using hf 7 _ rfl
            obtain ⟨k0, e0', _, _⟩ := DataW.trod_int Tryz.underlying3 f0
            obtain ⟨k1, e1', _, _⟩ := DataW.trod_int Tryz.underlying3 f1
            obtain ⟨k2, e2', _, _⟩ := DataW.trod_int Tryz.underlying23 f2
            obtain ⟨s3, e3', _, _⟩ := DataW.trod_string Tryz.underlying9 f3
            obtain ⟨b6, e6', _⟩ := DataW.trod_bool Tryz.underlying4 f6
            obtain ⟨p7, e7'⟩ := open_pos f7
            have hbe : Rows.uptoBulk e.1 ≤ 1048576 := Nat.le_trans (bulk_part (elems.map (·.1)) i e.1 (by rw [List.getElem?_map, hei]; rfl)) hsm2
            rw [hxy] at hbe
            simp only [List.map_cons, List.map_nil, Rows.uptoBulk, Rows.uptoBulkAll] at hbe
            obtain ⟨tv, th, e4', hth, bth, _⟩ := ih q (by omega) f4 (by omega)
            obtain ⟨ev, el, e5', helx, bel', _⟩ := ih q (by omega) f5 (by omega)
            simp only [List.cons.injEq, and_true] at e0' e1' e2' e3' e4' e5' e6' e7'
            obtain ⟨e7a, e7b⟩ := e7'
            subst e0' e1' e2' e3' e4' e5' e6' e7a e7b
            have hblk : a.block < W.heap.size := by
              have := World.cells?_block hcs (by decide)
              unfold Addr.add at this
              split at this <;> exact this
            have hsp : a.spot = none := hsp0 (by omega)
            obtain ⟨b, o, sp⟩ := a
            simp only at hsp
            subst hsp
            refine ⟨.mk k0 k1 k2 s3 th el b6 p7, ⟨b, o, rfl, hblk, N1.mk _ _ (fun j x hx => ?_) hth helx⟩, fun e2 he2 => ?_⟩
            · have hj : j < 9 := (List.getElem?_eq_some_iff.1 hx).1
              have := hcell j hj
              rw [Deep.add_add, Addr.add_lit] at this
              rw [Nat.add_assoc, this]
              exact hx
            · rw [hei] at he2
              cases he2
              rw [hxy]
              have hn1 := cl_nn th
              have hn2 := cl_nn el
              have hc := cn_le k0 b6 (cl th) (cl el) hn1 hn2
              rw [ce_is]
              simp only [List.map_cons, List.map_nil, Rows.uptoBulk, Rows.uptoBulkAll]
              refine ⟨?_, by omega⟩
              show cn k0 b6 (cl th) (cl el) ≤ _
              push_cast
              omega
      have hin : Inhabited Nd := ⟨⟨0, 0, 0, e0, [], [], false, (0, 0)⟩⟩
      obtain ⟨f, hf⟩ := Deep.choose_lt hex
      have hll : ((List.range len).map f).length = len := by simp
      have hsum := bulk_sum ((List.range len).map f) (elems.map (·.1)) (by rw [hll, List.length_map, hlen]) (fun i nd e hn he => by
        rw [List.getElem?_map] at hn he
        cases hr : (List.range len)[i]? with
        | none => rw [hr] at hn; cases hn
        | some j =>
          have hj : i < len := by
            have := (List.getElem?_eq_some_iff.1 hr).1
            simpa using this
          rw [List.getElem?_range hj] at hr
          cases hr
          rw [List.getElem?_range hj] at hn
          cases hn
          cases he2 : elems[i]? with
          | none => rw [he2] at he; cases he
          | some e2 =>
            rw [he2] at he
            cases he
            exact (hf i hj).2 e2 he2)
      have hbk : Rows.uptoBulkAll (elems.map (·.1)) ≤ Rows.uptoBulk (DataW.slice (elems.map (·.1)) (rest.map (·.1))) := by rw [Rows.uptoBulk]; omega
      rw [hll] at hsum
      refine ⟨_, (List.range len).map f, rfl, ?_, by have := hsum.1; show cl _ ≤ 4 * ((Rows.uptoBulk (DataW.slice (elems.map (·.1)) (rest.map (·.1))) : Nat) : Int); omega, by rw [hll]; exact Nat.le_trans hsum.2 hbk⟩
      by_cases h0 : 0 < len
      · obtain ⟨b, o, rfl, hlt, _⟩ := (hf 0 h0).1
        have hrow : NV W (· < W.heap.size) (.slice (some ⟨b, o, none⟩) ((List.range len).map f).length cap) ((List.range len).map f) := by
          refine NV.row hlt (by rw [hll]; have := hsum.2; omega) fun i nd hi => ?_
          rw [List.getElem?_map] at hi
          cases hr : (List.range len)[i]? with
          | none => rw [hr] at hi; cases hi
          | some j =>
            have hj : i < len := by
              have := (List.getElem?_eq_some_iff.1 hr).1
              simpa using this
            rw [List.getElem?_range hj] at hi
            cases hi
            obtain ⟨b', o', e', _, hN⟩ := (hf i hj).1
            cases e'
            exact hN
        rw [hll] at hrow
        exact hrow
      · obtain rfl : len = 0 := by omega
        exact NV.nil (.inr ⟨a, cap, rfl⟩)
end
end Go.Proofs.YtlilefhmohkfkaaGreatDoor.Y
