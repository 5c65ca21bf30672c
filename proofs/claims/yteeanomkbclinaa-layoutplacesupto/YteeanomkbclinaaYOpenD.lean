import Derived.Test.YteeanomkbclinaaYOpenN
import Derived.Test.YteeanomkbclinaaYFolM
/-! What a program that came in gives a walk. -/
namespace Go.Proofs.Yteeanomkbclinaa.Y
open Go.RowKit Go.ChangeShapes Go.WideShapes Go.ChangeAt
set_option linter.unusedVariables false
set_option linter.unusedSimpArgs false
set_option maxRecDepth 100000
section
variable {H : Type} {enc : TypeId × Value → H}
theorem undDf : Try.prog.underlying 36 = some (.struct #[⟨ "Kind", 3, 0, false, "", "", 0⟩, ⟨ "Name", 9, 1, false, "", "", 8⟩, ⟨ "Value", 33, 2, false, "", "", 24⟩, ⟨ "Body", 34, 3, false, "", "", 32⟩, ⟨ "Pos", 25, 4, false, "", "", 56⟩]) := by kernel_rfl
theorem undPg : Try.prog.underlying 32 = some (.struct #[⟨ "Defs", 29, 0, false, "", "", 0⟩, ⟨ "Banks", 30, 1, false, "", "", 24⟩]) := by kernel_rfl
theorem cDf : Try.prog.cellsOf 36 = 6 := by kernel_rfl
theorem cPg : Try.prog.cellsOf 32 = 2 := by kernel_rfl
theorem cDs : Try.prog.cellsOf 29 = 1 := by kernel_rfl
theorem cBs : Try.prog.cellsOf 30 = 1 := by kernel_rfl
theorem u16_le {z : Int} (h : (Lit.int .u16 z).wf = true) : 0 ≤ z ∧ z ≤ 65535 := by
  simp only [Lit.wf, IntKind.min, IntKind.max, IntKind.signed, IntKind.bits, Bool.and_eq_true, decide_eq_true_eq] at h
  simp at h
  omega
/-- Definitions of a reading. -/
theorem open_defs {fuel : Nat} {W : World} {cs : List Value} {x : DataW H × List MemPlace} (h : DataW.trod enc Try.prog W 0 (fun _ => true) true fuel 29 cs = some x) (hsm : Rows.uptoBulk x.1 ≤ 1048576) :
    ∃ (v : Value) (ds : List Df), cs = [v] ∧ DV W (· < W.heap.size) v ds ∧ (∃ p c, v = .slice p ds.length c ∧ ds.length ≤ c) ∧ Mild ds := by
  rcases DataW.trod_slice Try.underlying29 h with ⟨rfl, rfl⟩ | ⟨a, len, cap, elems, rest, n, hfu, rfl, rfl, hb, hl, hm, hlen, hel, hsp, hns⟩
  · exact ⟨_, [], rfl, ⟨none, 0, rfl, by simp, fun i d hi => by simp at hi⟩, ⟨none, 0, rfl, by simp⟩, ⟨by simp, fun i d hi => by simp at hi, fun i d hi => by simp at hi⟩⟩
  · have hsm2 : Rows.uptoBulkAll (elems.map (·.1)) ≤ 1048576 := by
      have : Rows.uptoBulk (DataW.slice (elems.map (·.1)) (rest.map (·.1))) ≤ 1048576 := hsm
      rw [Rows.uptoBulk] at this
      omega
    have hsp0 : 0 < len → a.spot = none := fun h0 => by
      have h1 := hel 0 h0
      rw [cDf, List.getElem?_eq_getElem (by omega)] at h1
      cases hcs : W.cells? 0 (a.add (0 * 6)) 6 with
      | none => rw [hcs] at h1; cases h1
      | some cs0 =>
        obtain ⟨_, hl9, hcell⟩ := World.cells?_some hcs
        have g0 := hcell 0 (by omega)
        rw [Deep.add_add, List.getElem?_eq_getElem (by omega)] at g0
        exact add_none g0
    have hex : ∀ i, i < len → ∃ d : Df, ((∃ b o, a = (⟨b, o, none⟩ : Addr) ∧ b < W.heap.size ∧ D1 W (· < W.heap.size) b (o + i * 6) d) ∧ (0 ≤ d.v ∧ d.v ≤ 65535) ∧ cl d.body ≤ 16777216) ∧ ∀ e, elems[i]? = some e → 1 ≤ Rows.uptoBulk e.1 := fun i hi => by
      have h1 := hel i hi
      rw [cDf] at h1
      have hei : elems[i]? = some elems[i] := List.getElem?_eq_getElem (by omega)
      rw [hei] at h1
      generalize elems[i] = e at h1 hei
      cases hcs : W.cells? 0 (a.add (i * 6)) 6 with
      | none => rw [hcs] at h1; cases h1
      | some cs' =>
        rw [hcs] at h1
        have h2 : DataW.trod enc Try.prog W 0 (fun _ => true) true n 36 cs' = some e := h1
        obtain ⟨_, hlen9, hcell⟩ := World.cells?_some hcs
        obtain ⟨xs, q, hq, hxy, hcl, hxl, hf⟩ := DataW.trod_struct undDf h2
        rw [cDf] at hcl
        match xs, hxl, cs', hcl with
        | [x0, x1, x2, x3, x4], _, [u0, u1, u2, u3, u4, u5], _ =>
          have f0 : DataW.trod enc Try.prog W 0 (fun _ => true) true q 3 [u0] = some x0 := by simpa [c3] using hf 0 _ rfl
          have f1 : DataW.trod enc Try.prog W 0 (fun _ => true) true q 9 [u1] = some x1 := by simpa [c9] using hf 1 _ rfl
          have f2 : DataW.trod enc Try.prog W 0 (fun _ => true) true q 33 [u2] = some x2 := by simpa [cU] using hf 2 _ rfl
          have f3 : DataW.trod enc Try.prog W 0 (fun _ => true) true q 34 [u3] = some x3 := by simpa [cNs] using hf 3 _ rfl
          have f4 : DataW.trod enc Try.prog W 0 (fun _ => true) true q 25 [u4, u5] = some x4 := by simpa [cPs] using hf 4 _ rfl
          obtain ⟨k0, e0', _, _⟩ := DataW.trod_int Try.underlying3 f0
          obtain ⟨s1, e1', _, _⟩ := DataW.trod_string Try.underlying9 f1
          obtain ⟨k2, e2', _, w2⟩ := DataW.trod_int Try.underlying33 f2
          obtain ⟨p4, e4'⟩ := open_pos f4
          have hbe : Rows.uptoBulk e.1 ≤ 1048576 := Nat.le_trans (bulk_part (elems.map (·.1)) i e.1 (by rw [List.getElem?_map, hei]; rfl)) hsm2
          have hxe : e.1 = .agg [x0.1, x1.1, x2.1, x3.1, x4.1] := by rw [hxy]; rfl
          have hbe2 := hbe
          rw [hxe] at hbe2
          simp only [Rows.uptoBulk, Rows.uptoBulkAll] at hbe2
          obtain ⟨bv, body, e3', hbody, bb, _⟩ := open_nodes q f3 (by omega)
          simp only [List.cons.injEq, and_true] at e0' e1' e2' e3' e4'
          obtain ⟨e4a, e4b⟩ := e4'
          subst e0' e1' e2' e3' e4a e4b
          have hblk : a.block < W.heap.size := by
            have := World.cells?_block hcs (by decide)
            unfold Addr.add at this
            split at this <;> exact this
          have hsp' : a.spot = none := hsp0 (by omega)
          obtain ⟨b, o, sp⟩ := a
          simp only at hsp'
          subst hsp'
          refine ⟨⟨k0, s1, k2, body, p4⟩, ⟨⟨b, o, rfl, hblk, _, fun j x hx => ?_, hbody⟩, u16_le w2, by show cl body ≤ _; omega⟩, fun e2 he2 => ?_⟩
          · have hj : j < 6 := (List.getElem?_eq_some_iff.1 hx).1
            have := hcell j hj
            rw [Deep.add_add, Addr.add_lit] at this
            rw [Nat.add_assoc, this]
            exact hx
          · rw [hei] at he2
            cases he2
            rw [hxe, Rows.uptoBulk]
            omega
    have hin : Inhabited Df := ⟨⟨0, e0, 0, [], (0, 0)⟩⟩
    obtain ⟨f, hf⟩ := Deep.choose_lt hex
    have hll : ((List.range len).map f).length = len := by simp
    have hlb : ∀ (es : List (DataW H)), (∀ (i : Nat) e, es[i]? = some e → 1 ≤ Rows.uptoBulk e) → es.length ≤ Rows.uptoBulkAll es := fun es => by
      induction es with
      | nil => intro _; simp
      | cons e r ih =>
        intro h
        have h0 := h 0 e rfl
        have h1 := ih fun i e he => h (i + 1) e (by simpa using he)
        rw [Rows.uptoBulkAll, List.length_cons]
        omega
    have hlen2 : len ≤ 1048576 := by
      have := hlb (elems.map (·.1)) (fun i e he => by
        rw [List.getElem?_map] at he
        cases h2 : elems[i]? with
        | none => rw [h2] at he; cases he
        | some e2 =>
          rw [h2] at he
          cases he
          exact (hf i (by have := (List.getElem?_eq_some_iff.1 h2).1; omega)).2 e2 h2)
      rw [List.length_map, hlen] at this
      omega
    have hget : ∀ (i : Nat) (d : Df), ((List.range len).map f)[i]? = some d → i < len ∧ d = f i := fun i d hi => by
      rw [List.getElem?_map] at hi
      cases hr : (List.range len)[i]? with
      | none => rw [hr] at hi; cases hi
      | some j =>
        have hj : i < len := by
          have := (List.getElem?_eq_some_iff.1 hr).1
          simpa using this
        rw [List.getElem?_range hj] at hi
        cases hi
        exact ⟨hj, rfl⟩
    refine ⟨_, (List.range len).map f, rfl, ⟨some a, cap, by rw [hll], by rw [hll]; omega, fun i d hi => ?_⟩, ⟨some a, cap, by rw [hll], by rw [hll]; exact hl⟩, ⟨by rw [hll]; exact hlen2, fun i d hi => ?_, fun i d hi => ?_⟩⟩
    · obtain ⟨hj, rfl⟩ := hget i d hi
      obtain ⟨b, o, e, h1, h2⟩ := (hf i hj).1.1
      exact ⟨b, o, by rw [e], h1, h2⟩
    · obtain ⟨hj, rfl⟩ := hget i d hi
      exact (hf i hj).1.2.1
    · obtain ⟨hj, rfl⟩ := hget i d hi
      exact (hf i hj).1.2.2
/-- A program that came in. -/
theorem open_prog {W : World} {base : Nat} {v : Value} {d : DataW H} {p : List MemPlace} (hval : Value.okWide Try.prog W .any base 32 v) (h : DataW.Trod enc Try.prog W 0 (fun _ => true) true 32 v d p) (hk : Rows.uptoBulk d ≤ 1048576) :
    ∃ (dv bkv : Value) (ds : List Df), v = .agg #[dv, bkv] ∧ (∃ p l c, bkv = .slice p l c) ∧ DV W (· < W.heap.size) dv ds ∧ (∃ p c, dv = .slice p ds.length c ∧ ds.length ≤ c) ∧ Mild ds := by
  obtain ⟨cs, rfl, hsz⟩ := okWide_struct undPg hval
  obtain ⟨fuel, hf⟩ := h
  obtain ⟨xs, q, _, hxy, hcl, hxl, hff⟩ := DataW.trod_struct undPg hf
  rw [cPg] at hcl
  obtain ⟨l⟩ := cs
  simp [Value.cells] at hcl
  match l, hcl, xs, hxl with
  | [a0, a1], _, [x0, x1], _ =>
    have f0 : DataW.trod enc Try.prog W 0 (fun _ => true) true q 29 [a0] = some x0 := by simpa [cDs, Value.cells] using hff 0 _ rfl
    have f1 : DataW.trod enc Try.prog W 0 (fun _ => true) true q 30 [a1] = some x1 := by simpa [cBs, Value.cells] using hff 1 _ rfl
    have hd : d = .agg [x0.1, x1.1] := by
      simp only [Prod.mk.injEq] at hxy; rw [hxy.1]; rfl
    rw [hd] at hk
    simp only [Rows.uptoBulk, Rows.uptoBulkAll] at hk
    obtain ⟨dv, ds, e0', h1, h2, h3⟩ := open_defs f0 (by omega)
    simp only [List.cons.injEq, and_true] at e0'
    subst e0'
    have hv3 : ∃ p n c, a1 = .slice p n c := by
      rcases Deep.open_slice Try.underlying30 f1 with ⟨hcs, _⟩ | ⟨x, l, c, m, n, D, Pl, hcs, _⟩ <;> (simp at hcs; exact ⟨_, _, _, hcs⟩)
    exact ⟨_, _, ds, rfl, hv3, h1, h2, h3⟩
end
end Go.Proofs.Yteeanomkbclinaa.Y
