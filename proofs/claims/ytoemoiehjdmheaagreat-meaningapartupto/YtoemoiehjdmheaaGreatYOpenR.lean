import Derived.Test.YtoemoiehjdmheaaGreatYOpenN
import Derived.Test.YtoemoiehjdmheaaGreatYMath
import Derived.Test.YtoemoiehjdmheaaGreatYRg
import Derived.Test.YtoemoiehjdmheaaGreatYBank
import Derived.Laws.BytesArg
namespace Go.Proofs.YtoemoiehjdmheaaGreat.Y
open Go.RowKit Go.ChangeShapes Go.WideShapes Go.ChangeAt
set_option linter.unusedVariables false
set_option linter.unusedSimpArgs false
set_option maxRecDepth 100000
section
variable {H : Type} {enc : TypeId × Value -> H}
theorem undDf : Tryz.prog.underlying 60 = some (.struct #[⟨ "Kind", 3, 0, false, "", "", 0⟩, ⟨ "Name", 9, 1, false, "", "", 8⟩, ⟨ "Value", 57, 2, false, "", "", 24⟩, ⟨ "Body", 58, 3, false, "", "", 32⟩, ⟨ "Pos", 33, 4, false, "", "", 56⟩]) := by kernel_rfl
theorem undPg : Tryz.prog.underlying 47 = some (.struct #[⟨ "Defs", 44, 0, false, "", "", 0⟩, ⟨ "Banks", 45, 1, false, "", "", 24⟩]) := by kernel_rfl
theorem cDf : Tryz.prog.cellsOf 60 = 6 := by kernel_rfl
theorem cPg : Tryz.prog.cellsOf 47 = 2 := by kernel_rfl
theorem cDs : Tryz.prog.cellsOf 44 = 1 := by kernel_rfl
theorem cBs : Tryz.prog.cellsOf 45 = 1 := by kernel_rfl
theorem u16_le {z : Int} (h : (Lit.int .u16 z).wf = true) : 0 <= z /\ z <= 65535 := by
  simp only [Lit.wf, IntKind.min, IntKind.max, IntKind.signed, IntKind.bits, Bool.and_eq_true, decide_eq_true_eq] at h
  simp at h
  omega
theorem bulk_sum2 : ∀ (ns : List Nd) (es : List (DataW H)), ns.length = es.length -> (∀ (i : Nat) n e, ns[i]? = some n -> es[i]? = some e -> nn n <= Rows.uptoBulk e) -> nl ns <= Rows.uptoBulkAll es
  | [], [], _, _ => Nat.zero_le _
  | [], _ :: _, h, _ => by simp at h
  | _ :: _, [], h, _ => by simp at h
  | n :: r, e :: es, h, k => by
    have h0 := k 0 n e rfl rfl
    have h1 := bulk_sum2 r es (by simpa using h) fun i n e hn he => k (i + 1) n e (by simpa using hn) (by simpa using he)
    rw [nl_cons, Rows.uptoBulkAll]
    omega
theorem open_nodes2 : ∀ (fuel : Nat) {W : World} {cs : List Value} {x : DataW H × List MemPlace}, DataW.trod enc Tryz.prog W 0 (fun _ => true) true fuel 58 cs = some x -> Rows.uptoBulk x.1 <= 1048576 ->
    ∃ (v : Value) (l : List Nd), cs = [v] /\ NV W (· < W.heap.size) v l /\ nl l <= Rows.uptoBulk x.1 /\ ∀ n ∈ l, rgN n = true := by
  intro fuel
  induction fuel using Nat.strongRecOn with
  | ind fuel ih =>
    intro W cs x h hsm
    rcases DataW.trod_slice Tryz.underlying58 h with ⟨rfl, rfl⟩ | ⟨a, len, cap, elems, rest, n, hfu, rfl, rfl, hb, hl, hm, hlen, hel, hsp, hns⟩
    · exact ⟨_, [], rfl, NV.nil (.inl rfl), Nat.zero_le _, fun n hn => by cases hn⟩
    · have hsm2 : Rows.uptoBulkAll (elems.map (·.1)) <= 1048576 := by
        have : Rows.uptoBulk (DataW.slice (elems.map (·.1)) (rest.map (·.1))) <= 1048576 := hsm
        rw [Rows.uptoBulk] at this
        omega
      have hsp0 : 0 < len -> a.spot = none := fun h0 => by
        have h1 := hel 0 h0
        rw [cNd, List.getElem?_eq_getElem (by omega)] at h1
        cases hcs : W.cells? 0 (a.add (0 * 9)) 9 with
        | none => rw [hcs] at h1; cases h1
        | some cs0 =>
          obtain ⟨_, hl9, hcell⟩ := World.cells?_some hcs
          have g0 := hcell 0 (by omega)
          rw [Deep.add_add, List.getElem?_eq_getElem (by omega)] at g0
          exact add_none g0
      have hex : ∀ i, i < len -> ∃ nd : Nd, ((∃ b o, a = (⟨b, o, none⟩ : Addr) /\ b < W.heap.size /\ N1 W (· < W.heap.size) b (o + i * 9) nd) /\ rgN nd = true) /\ ∀ e, elems[i]? = some e -> nn nd <= Rows.uptoBulk e.1 := fun i hi => by
        have h1 := hel i hi
        rw [cNd] at h1
        have hei : elems[i]? = some elems[i] := List.getElem?_eq_getElem (by omega)
        rw [hei] at h1
        generalize elems[i] = e at h1 hei
        cases hcs : W.cells? 0 (a.add (i * 9)) 9 with
        | none => rw [hcs] at h1; cases h1
        | some cs' =>
          rw [hcs] at h1
          have h2 : DataW.trod enc Tryz.prog W 0 (fun _ => true) true n 90 cs' = some e := h1
          obtain ⟨_, hlen9, hcell⟩ := World.cells?_some hcs
          obtain ⟨xs, q, hq, hxy, hcl, hxl, hf⟩ := DataW.trod_struct undNd h2
          rw [cNd] at hcl
          match xs, hxl, cs', hcl with
          | [x0, x1, x2, x3, x4, x5, x6, x7], _, [u0, u1, u2, u3, u4, u5, u6, u7, u8], _ =>
            have f0 : DataW.trod enc Tryz.prog W 0 (fun _ => true) true q 3 [u0] = some x0 := by simpa [c3] using hf 0 _ rfl
            have f1 : DataW.trod enc Tryz.prog W 0 (fun _ => true) true q 3 [u1] = some x1 := by simpa [c3] using hf 1 _ rfl
            have f2 : DataW.trod enc Tryz.prog W 0 (fun _ => true) true q 57 [u2] = some x2 := by simpa [cU] using hf 2 _ rfl
            have f3 : DataW.trod enc Tryz.prog W 0 (fun _ => true) true q 9 [u3] = some x3 := by simpa [c9] using hf 3 _ rfl
            have f4 : DataW.trod enc Tryz.prog W 0 (fun _ => true) true q 58 [u4] = some x4 := by simpa [cNs] using hf 4 _ rfl
            have f5 : DataW.trod enc Tryz.prog W 0 (fun _ => true) true q 58 [u5] = some x5 := by simpa [cNs] using hf 5 _ rfl
            have f6 : DataW.trod enc Tryz.prog W 0 (fun _ => true) true q 4 [u6] = some x6 := by simpa [c4] using hf 6 _ rfl
            have f7 : DataW.trod enc Tryz.prog W 0 (fun _ => true) true q 33 [u7, u8] = some x7 := by simpa [cPs] using hf 7 _ rfl
            obtain ⟨k0, e0', _, _⟩ := DataW.trod_int Tryz.underlying3 f0
            obtain ⟨k1, e1', _, _⟩ := DataW.trod_int Tryz.underlying3 f1
            obtain ⟨k2, e2', _, w2⟩ := DataW.trod_int Tryz.underlying57 f2
            obtain ⟨s3, e3', _, _⟩ := DataW.trod_string Tryz.underlying9 f3
            obtain ⟨b6, e6', _⟩ := DataW.trod_bool Tryz.underlying4 f6
            obtain ⟨p7, e7'⟩ := open_pos f7
            have hbe : Rows.uptoBulk e.1 <= 1048576 := Nat.le_trans (bulk_part (elems.map (·.1)) i e.1 (by rw [List.getElem?_map, hei]; rfl)) hsm2
            rw [hxy] at hbe
            simp only [List.map_cons, List.map_nil, Rows.uptoBulk, Rows.uptoBulkAll] at hbe
            obtain ⟨tv, th, e4', hth, bth, rth⟩ := ih q (by omega) f4 (by omega)
            obtain ⟨ev, el, e5', helx, bel', rel'⟩ := ih q (by omega) f5 (by omega)
            simp only [List.cons.injEq, and_true] at e0' e1' e2' e3' e4' e5' e6' e7'
            obtain ⟨e7a, e7b⟩ := e7'
            subst e0' e1' e2' e3' e4' e5' e6' e7a e7b
            have hblk : a.block < W.heap.size := by
              have := World.cells?_block hcs (by decide)
              unfold Addr.add at this
              split at this <;> exact this
            have hsp : a.spot = none := hsp0 (by omega)
            obtain ⟨b, o, sp⟩ := a
            simp only at hsp
            subst hsp
            refine ⟨.mk k0 k1 k2 s3 th el b6 p7, ⟨⟨b, o, rfl, hblk, N1.mk _ _ (fun j x hx => ?_) hth helx⟩, (rgN_is _).2 ⟨by have := u16_le w2; exact ⟨this.1, by show k2 < 65536; omega⟩, rth, rel'⟩⟩, fun e2 he2 => ?_⟩
            · have hj : j < 9 := (List.getElem?_eq_some_iff.1 hx).1
              have := hcell j hj
              rw [Deep.add_add, Addr.add_lit] at this
              rw [Nat.add_assoc, this]
              exact hx
            · rw [hei] at he2
              cases he2
              rw [hxy]
              rw [nn_is]
              simp only [List.map_cons, List.map_nil, Rows.uptoBulk, Rows.uptoBulkAll]
              show 1 + nl th + nl el <= _
              omega
      have hin : Inhabited Nd := ⟨⟨0, 0, 0, e0, [], [], false, (0, 0)⟩⟩
      obtain ⟨f, hf⟩ := Deep.choose_lt hex
      have hll : ((List.range len).map f).length = len := by simp
      have hsum := bulk_sum2 ((List.range len).map f) (elems.map (·.1)) (by rw [hll, List.length_map, hlen]) (fun i nd e hn he => by
        rw [List.getElem?_map] at hn he
        cases hr : (List.range len)[i]? with
        | none => rw [hr] at hn; cases hn
        | some j =>
          have hj : i < len := by
            have := (List.getElem?_eq_some_iff.1 hr).1
            simpa using this
          rw [List.getElem?_range hj] at hr
          cases hr
          rw [List.getElem?_range hj] at hn
          cases hn
          cases he2 : elems[i]? with
          | none => rw [he2] at he; cases he
          | some e2 =>
            rw [he2] at he
            cases he
            exact (hf i hj).2 e2 he2)
      have hbk : Rows.uptoBulkAll (elems.map (·.1)) <= Rows.uptoBulk (DataW.slice (elems.map (·.1)) (rest.map (·.1))) := by rw [Rows.uptoBulk]; omega
      have hlb : len <= 1048576 := by
        have := nl_len ((List.range len).map f)
        rw [hll] at this
        omega
      have hrg : ∀ n ∈ (List.range len).map f, rgN n = true := fun n hn => by
        obtain ⟨j, hj, rfl⟩ := List.mem_map.1 hn
        exact (hf j (by simpa using hj)).1.2
      refine ⟨_, (List.range len).map f, rfl, ?_, Nat.le_trans hsum hbk, hrg⟩
      by_cases h0 : 0 < len
      · obtain ⟨b, o, rfl, hlt, _⟩ := (hf 0 h0).1.1
        have hrow : NV W (· < W.heap.size) (.slice (some ⟨b, o, none⟩) ((List.range len).map f).length cap) ((List.range len).map f) := by
          refine NV.row hlt (by rw [hll]; omega) fun i nd hi => ?_
          rw [List.getElem?_map] at hi
          cases hr : (List.range len)[i]? with
          | none => rw [hr] at hi; cases hi
          | some j =>
            have hj : i < len := by
              have := (List.getElem?_eq_some_iff.1 hr).1
              simpa using this
            rw [List.getElem?_range hj] at hi
            cases hi
            obtain ⟨b', o', e', _, hN⟩ := (hf i hj).1.1
            cases e'
            exact hN
        rw [hll] at hrow
        exact hrow
      · obtain rfl : len = 0 := by omega
        exact NV.nil (.inr ⟨a, cap, rfl⟩)
theorem open_defs2 {fuel : Nat} {W : World} {cs : List Value} {x : DataW H × List MemPlace} (h : DataW.trod enc Tryz.prog W 0 (fun _ => true) true fuel 44 cs = some x) (hsm : Rows.uptoBulk x.1 <= 1048576) :
    ∃ (v : Value) (ds : List Df), cs = [v] /\ DV W (· < W.heap.size) v ds /\ (∃ p c, v = .slice p ds.length c /\ ds.length <= c) /\ ds.length <= 1048575 /\ ∀ d ∈ ds, nl d.body <= 1048576 /\ d.nm.size <= maxLen /\ rgD d := by
  rcases DataW.trod_slice Tryz.underlying44 h with ⟨rfl, rfl⟩ | ⟨a, len, cap, elems, rest, n, hfu, rfl, rfl, hb, hl, hm, hlen, hel, hsp, hns⟩
  · exact ⟨_, [], rfl, ⟨none, 0, rfl, by simp, fun i d hi => by simp at hi⟩, ⟨none, 0, rfl, by simp⟩, by simp, fun d hd => by simp at hd⟩
  · have hsm2 : Rows.uptoBulkAll (elems.map (·.1)) <= 1048576 := by
      have : Rows.uptoBulk (DataW.slice (elems.map (·.1)) (rest.map (·.1))) <= 1048576 := hsm
      rw [Rows.uptoBulk] at this
      omega
    have hsm3 : Rows.uptoBulkAll (elems.map (·.1)) <= 1048575 := by
      have : Rows.uptoBulk (DataW.slice (elems.map (·.1)) (rest.map (·.1))) <= 1048576 := hsm
      rw [Rows.uptoBulk] at this
      omega
    have hsp0 : 0 < len -> a.spot = none := fun h0 => by
      have h1 := hel 0 h0
      rw [cDf, List.getElem?_eq_getElem (by omega)] at h1
      cases hcs : W.cells? 0 (a.add (0 * 6)) 6 with
      | none => rw [hcs] at h1; cases h1
      | some cs0 =>
        obtain ⟨_, hl9, hcell⟩ := World.cells?_some hcs
        have g0 := hcell 0 (by omega)
        rw [Deep.add_add, List.getElem?_eq_getElem (by omega)] at g0
        exact add_none g0
    have hex : ∀ i, i < len -> ∃ d : Df, ((∃ b o, a = (⟨b, o, none⟩ : Addr) /\ b < W.heap.size /\ D1 W (· < W.heap.size) b (o + i * 6) d) /\ (0 <= d.v /\ d.v <= 65535) /\ nl d.body <= 1048576 /\ d.nm.size <= maxLen /\ rgD d) /\ ∀ e, elems[i]? = some e -> 1 <= Rows.uptoBulk e.1 := fun i hi => by
      have h1 := hel i hi
      rw [cDf] at h1
      have hei : elems[i]? = some elems[i] := List.getElem?_eq_getElem (by omega)
      rw [hei] at h1
      generalize elems[i] = e at h1 hei
      cases hcs : W.cells? 0 (a.add (i * 6)) 6 with
      | none => rw [hcs] at h1; cases h1
      | some cs' =>
        rw [hcs] at h1
        have h2 : DataW.trod enc Tryz.prog W 0 (fun _ => true) true n 60 cs' = some e := h1
        obtain ⟨_, hlen9, hcell⟩ := World.cells?_some hcs
        obtain ⟨xs, q, hq, hxy, hcl, hxl, hf⟩ := DataW.trod_struct undDf h2
        rw [cDf] at hcl
        match xs, hxl, cs', hcl with
        | [x0, x1, x2, x3, x4], _, [u0, u1, u2, u3, u4, u5], _ =>
          have f0 : DataW.trod enc Tryz.prog W 0 (fun _ => true) true q 3 [u0] = some x0 := by simpa [c3] using hf 0 _ rfl
          have f1 : DataW.trod enc Tryz.prog W 0 (fun _ => true) true q 9 [u1] = some x1 := by simpa [c9] using hf 1 _ rfl
          have f2 : DataW.trod enc Tryz.prog W 0 (fun _ => true) true q 57 [u2] = some x2 := by simpa [cU] using hf 2 _ rfl
          have f3 : DataW.trod enc Tryz.prog W 0 (fun _ => true) true q 58 [u3] = some x3 := by simpa [cNs] using hf 3 _ rfl
          have f4 : DataW.trod enc Tryz.prog W 0 (fun _ => true) true q 33 [u4, u5] = some x4 := by simpa [cPs] using hf 4 _ rfl
          obtain ⟨k0, e0', _, _⟩ := DataW.trod_int Tryz.underlying3 f0
          obtain ⟨s1, e1', _, hs1⟩ := DataW.trod_string Tryz.underlying9 f1
          obtain ⟨k2, e2', _, w2⟩ := DataW.trod_int Tryz.underlying57 f2
          obtain ⟨p4, e4'⟩ := open_pos f4
          have hbe : Rows.uptoBulk e.1 <= 1048576 := Nat.le_trans (bulk_part (elems.map (·.1)) i e.1 (by rw [List.getElem?_map, hei]; rfl)) hsm2
          have hxe : e.1 = .agg [x0.1, x1.1, x2.1, x3.1, x4.1] := by rw [hxy]; rfl
          have hbe2 := hbe
          rw [hxe] at hbe2
          simp only [Rows.uptoBulk, Rows.uptoBulkAll] at hbe2
          obtain ⟨bv, body, e3', hbody, bb, rb⟩ := open_nodes2 q f3 (by omega)
          simp only [List.cons.injEq, and_true] at e0' e1' e2' e3' e4'
          obtain ⟨e4a, e4b⟩ := e4'
          subst e0' e1' e2' e3' e4a e4b
          have hblk : a.block < W.heap.size := by
            have := World.cells?_block hcs (by decide)
            unfold Addr.add at this
            split at this <;> exact this
          have hsp' : a.spot = none := hsp0 (by omega)
          obtain ⟨b, o, sp⟩ := a
          simp only at hsp'
          subst hsp'
          refine ⟨⟨k0, s1, k2, body, p4⟩, ⟨⟨b, o, rfl, hblk, _, fun j x hx => ?_, hbody⟩, u16_le w2, by show nl body <= _; omega, hs1, by have := u16_le w2; exact ⟨this.1, by show k2 < 65536; omega⟩, rb⟩, fun e2 he2 => ?_⟩
          · have hj : j < 6 := (List.getElem?_eq_some_iff.1 hx).1
            have := hcell j hj
            rw [Deep.add_add, Addr.add_lit] at this
            rw [Nat.add_assoc, this]
            exact hx
          · rw [hei] at he2
            cases he2
            rw [hxe, Rows.uptoBulk]
            omega
    have hin : Inhabited Df := ⟨⟨0, e0, 0, [], (0, 0)⟩⟩
    obtain ⟨f, hf⟩ := Deep.choose_lt hex
    have hll : ((List.range len).map f).length = len := by simp
    have hlb : ∀ (es : List (DataW H)), (∀ (i : Nat) e, es[i]? = some e -> 1 <= Rows.uptoBulk e) -> es.length <= Rows.uptoBulkAll es := fun es => by
      induction es with
      | nil => intro _; simp
      | cons e r ih =>
        intro h
        have h0 := h 0 e rfl
        have h1 := ih fun i e he => h (i + 1) e (by simpa using he)
        rw [Rows.uptoBulkAll, List.length_cons]
        omega
    have hlen2 : len <= 1048575 := by
      have := hlb (elems.map (·.1)) (fun i e he => by
        rw [List.getElem?_map] at he
        cases h2 : elems[i]? with
        | none => rw [h2] at he; cases he
        | some e2 =>
          rw [h2] at he
          cases he
          exact (hf i (by have := (List.getElem?_eq_some_iff.1 h2).1; omega)).2 e2 h2)
      rw [List.length_map, hlen] at this
      omega
    have hget : ∀ (i : Nat) (d : Df), ((List.range len).map f)[i]? = some d -> i < len /\ d = f i := fun i d hi => by
      rw [List.getElem?_map] at hi
      cases hr : (List.range len)[i]? with
      | none => rw [hr] at hi; cases hi
      | some j =>
        have hj : i < len := by
          have := (List.getElem?_eq_some_iff.1 hr).1
          simpa using this
        rw [List.getElem?_range hj] at hi
        cases hi
        exact ⟨hj, rfl⟩
    refine ⟨_, (List.range len).map f, rfl, ⟨some a, cap, by rw [hll], by rw [hll]; omega, fun i d hi => ?_⟩, ⟨some a, cap, by rw [hll], by rw [hll]; exact hl⟩, by rw [hll]; exact hlen2, fun d hd => ?_⟩
    · obtain ⟨hj, rfl⟩ := hget i d hi
      obtain ⟨b, o, e, h1, h2⟩ := (hf i hj).1.1
      exact ⟨b, o, by rw [e], h1, h2⟩
    · obtain ⟨i, hi⟩ := List.mem_iff_getElem?.1 hd
      obtain ⟨hj, rfl⟩ := hget i d hi
      exact (hf i hj).1.2.2
theorem undBk : Tryz.prog.underlying 114 = some (.struct #[⟨ "Num", 3, 0, false, "", "", 0⟩, ⟨ "Data", 25, 1, false, "", "", 8⟩]) := by kernel_rfl
theorem cBk : Tryz.prog.cellsOf 114 = 2 := by kernel_rfl
theorem cBy : Tryz.prog.cellsOf 25 = 1 := by kernel_rfl
theorem byte_nat (n : Int) (h0 : 0 <= n) (h1 : n <= 255) : (((UInt8.ofNat n.toNat).toNat : Nat) : Int) = n := by
  rw [UInt8.toNat_ofNat']
  have : n.toNat % 2 ^ 8 = n.toNat := Nat.mod_eq_of_lt (by omega)
  rw [this]; omega
theorem bulk_lits (k : IntKind) : ∀ zs : List Int, Rows.uptoBulkAll (lits (H := H) k zs) = zs.length
  | [] => rfl
  | z :: r => by
    have := bulk_lits k r
    simp only [lits, List.map_cons, Rows.uptoBulkAll, Rows.uptoBulk, List.length_cons] at this ⊢
    omega
theorem open_bytes2 {W : World} {fuel : Nat} {cs : List Value} {x : DataW H × List MemPlace} (h : DataW.trod enc Tryz.prog W 0 (fun _ => true) true fuel 25 cs = some x) :
    ∃ (v : Value) (l : List UInt8), cs = [v] /\ BS W (· < W.heap.size) v l /\ l.length <= Rows.uptoBulk x.1 := by
  rcases open_ints Tryz.underlying25 Tryz.underlying5 (by kernel_rfl) h with ⟨hcs, hx⟩ | ⟨y, len, cap, zs, hcs, _, hl, hm, hz, hx, hcell, hwz⟩
  · exact ⟨_, [], hcs, .inl ⟨.inl rfl, rfl⟩, Nat.zero_le _⟩
  · simp only [if_true] at hz
    have hlen : ((zs.take len).map fun n => UInt8.ofNat n.toNat).length = len := by simp; omega
    refine ⟨_, (zs.take len).map fun n => UInt8.ofNat n.toNat, hcs, ?_, ?_⟩
    · by_cases h0 : len = 0
      · subst h0
        exact .inl ⟨.inr ⟨_, _, rfl⟩, by simp⟩
      · have hc0 := hcell 0 (by omega)
        have hsp := add_none hc0
        obtain ⟨b, o, sp⟩ := y
        simp only at hsp
        subst hsp
        have hblk : b < W.heap.size := by
          have := World.block_lt_of_cell? W _ hc0
          rw [Addr.add_lit] at this
          exact this
        refine .inr ⟨b, o, cap, by rw [hlen], hblk, fun j u hj => ?_⟩
        have hjl : j < len := by
          by_cases h : j < len
          · exact h
          · rw [List.getElem?_eq_none (by rw [hlen]; omega)] at hj; cases hj
        have hc := hcell j (by omega)
        rw [Addr.add_lit] at hc
        rw [hc]
        have hb := range_u8 hwz j
        rw [List.getElem?_map, List.getElem?_take, if_pos hjl, List.getElem?_eq_getElem (by omega)] at hj
        simp only [Option.map_some, Option.some.injEq] at hj
        subst hj
        have e : zs.getD j 0 = zs[j]'(by omega) := by simp [List.getD, List.getElem?_eq_getElem (show j < zs.length by omega)]
        have e2 : zs[j]?.getD 0 = zs[j]'(by omega) := by rw [List.getElem?_eq_getElem (show j < zs.length by omega)]; rfl
        rw [e2] at hb
        rw [e, byte_nat _ (by omega) (by omega)]
    · rw [hlen, hx]
      simp only [Rows.uptoBulk, bulk_lits, List.length_take]
      omega
theorem open_banks {fuel : Nat} {W : World} {cs : List Value} {x : DataW H × List MemPlace} (h : DataW.trod enc Tryz.prog W 0 (fun _ => true) true fuel 45 cs = some x) (hsm : Rows.uptoBulk x.1 <= 1048576) :
    ∃ (v : Value) (ds : List Bk), cs = [v] /\ BV W (· < W.heap.size) v ds /\ ds.length <= 1048576 /\ ∀ d ∈ ds, d.2.length <= 1048576 := by
  rcases DataW.trod_slice Tryz.underlying45 h with ⟨rfl, rfl⟩ | ⟨a, len, cap, elems, rest, n, hfu, rfl, rfl, hb, hl, hm, hlen, hel, hsp, hns⟩
  · exact ⟨_, [], rfl, ⟨none, 0, rfl, fun i d hi => by simp at hi⟩, by simp, fun d hd => by simp at hd⟩
  · have hsm2 : Rows.uptoBulkAll (elems.map (·.1)) <= 1048576 := by
      have : Rows.uptoBulk (DataW.slice (elems.map (·.1)) (rest.map (·.1))) <= 1048576 := hsm
      rw [Rows.uptoBulk] at this
      omega
    have hsp0 : 0 < len -> a.spot = none := fun h0 => by
      have h1 := hel 0 h0
      rw [cBk, List.getElem?_eq_getElem (by omega)] at h1
      cases hcs : W.cells? 0 (a.add (0 * 2)) 2 with
      | none => rw [hcs] at h1; cases h1
      | some cs0 =>
        obtain ⟨_, hl9, hcell⟩ := World.cells?_some hcs
        have g0 := hcell 0 (by omega)
        rw [Deep.add_add, List.getElem?_eq_getElem (by omega)] at g0
        exact add_none g0
    have hex : ∀ i, i < len -> ∃ d : Bk, ((∃ b o, a = (⟨b, o, none⟩ : Addr) /\ b < W.heap.size /\ B1 W (· < W.heap.size) b (o + i * 2) d) /\ d.2.length <= 1048576) /\ ∀ e, elems[i]? = some e -> 1 <= Rows.uptoBulk e.1 := fun i hi => by
      have h1 := hel i hi
      rw [cBk] at h1
      have hei : elems[i]? = some elems[i] := List.getElem?_eq_getElem (by omega)
      rw [hei] at h1
      generalize elems[i] = e at h1 hei
      cases hcs : W.cells? 0 (a.add (i * 2)) 2 with
      | none => rw [hcs] at h1; cases h1
      | some cs' =>
        rw [hcs] at h1
        have h2 : DataW.trod enc Tryz.prog W 0 (fun _ => true) true n 114 cs' = some e := h1
        obtain ⟨_, hlen9, hcell⟩ := World.cells?_some hcs
        obtain ⟨xs, q, hq, hxy, hcl, hxl, hf⟩ := DataW.trod_struct undBk h2
        rw [cBk] at hcl
        match xs, hxl, cs', hcl with
        | [x0, x1], _, [u0, u1], _ =>
          have f0 : DataW.trod enc Tryz.prog W 0 (fun _ => true) true q 3 [u0] = some x0 := by simpa [c3] using hf 0 _ rfl
          have f1 : DataW.trod enc Tryz.prog W 0 (fun _ => true) true q 25 [u1] = some x1 := by simpa [cBy] using hf 1 _ rfl
          obtain ⟨k0, e0', _, _⟩ := DataW.trod_int Tryz.underlying3 f0
          obtain ⟨v1, l1, e1', hbs, hbl⟩ := open_bytes2 f1
          have hbe : Rows.uptoBulk e.1 <= 1048576 := Nat.le_trans (bulk_part (elems.map (·.1)) i e.1 (by rw [List.getElem?_map, hei]; rfl)) hsm2
          have hxe : e.1 = .agg [x0.1, x1.1] := by rw [hxy]; rfl
          have hbe2 := hbe
          rw [hxe] at hbe2
          simp only [Rows.uptoBulk, Rows.uptoBulkAll] at hbe2
          simp only [List.cons.injEq, and_true] at e0' e1'
          subst e0' e1'
          have hblk : a.block < W.heap.size := by
            have := World.cells?_block hcs (by decide)
            unfold Addr.add at this
            split at this <;> exact this
          have hsp' : a.spot = none := hsp0 (by omega)
          obtain ⟨b, o, sp⟩ := a
          simp only at hsp'
          subst hsp'
          have q0 := hcell 0 (by decide)
          have q1 := hcell 1 (by decide)
          rw [Deep.add_add, Addr.add_lit] at q0 q1
          refine ⟨(k0, l1), ⟨⟨b, o, rfl, hblk, _, ⟨by rw [Nat.add_zero] at q0; exact q0, by rw [Nat.add_assoc]; exact q1⟩, hbs⟩, by show l1.length <= _; omega⟩, fun e2 he2 => ?_⟩
          rw [hei] at he2
          cases he2
          rw [hxe, Rows.uptoBulk]
          omega
    have hin : Inhabited Bk := ⟨(0, [])⟩
    obtain ⟨f, hf⟩ := Deep.choose_lt hex
    have hll : ((List.range len).map f).length = len := by simp
    have hlb : ∀ (es : List (DataW H)), (∀ (i : Nat) e, es[i]? = some e -> 1 <= Rows.uptoBulk e) -> es.length <= Rows.uptoBulkAll es := fun es => by
      induction es with
      | nil => intro _; simp
      | cons e r ih =>
        intro h
        have h0 := h 0 e rfl
        have h1 := ih fun i e he => h (i + 1) e (by simpa using he)
        rw [Rows.uptoBulkAll, List.length_cons]
        omega
    have hlen2 : len <= 1048576 := by
      have := hlb (elems.map (·.1)) (fun i e he => by
        rw [List.getElem?_map] at he
        cases h2 : elems[i]? with
        | none => rw [h2] at he; cases he
        | some e2 =>
          rw [h2] at he
          cases he
          exact (hf i (by have := (List.getElem?_eq_some_iff.1 h2).1; omega)).2 e2 h2)
      rw [List.length_map, hlen] at this
      omega
    have hget : ∀ (i : Nat) (d : Bk), ((List.range len).map f)[i]? = some d -> i < len /\ d = f i := fun i d hi => by
      rw [List.getElem?_map] at hi
      cases hr : (List.range len)[i]? with
      | none => rw [hr] at hi; cases hi
      | some j =>
        have hj : i < len := by
          have := (List.getElem?_eq_some_iff.1 hr).1
          simpa using this
        rw [List.getElem?_range hj] at hi
        cases hi
        exact ⟨hj, rfl⟩
    refine ⟨_, (List.range len).map f, rfl, ⟨some a, cap, by rw [hll], fun i d hi => ?_⟩, by rw [hll]; exact hlen2, fun d hd => ?_⟩
    · obtain ⟨hj, rfl⟩ := hget i d hi
      obtain ⟨b, o, e, h1, h2⟩ := (hf i hj).1.1
      exact ⟨b, o, by rw [e], h1, h2⟩
    · obtain ⟨i, hi⟩ := List.mem_iff_getElem?.1 hd
      obtain ⟨hj, rfl⟩ := hget i d hi
      exact (hf i hj).1.2
theorem open_prog2 {W : World} {base : Nat} {v : Value} {d : DataW H} {p : List MemPlace} (hval : Value.okWide Tryz.prog W .any base 47 v) (h : DataW.Trod enc Tryz.prog W 0 (fun _ => true) true 47 v d p) (hk : Rows.uptoBulk d <= 1048576) :
    ∃ (dv bkv : Value) (ds : List Df) (bs : List Bk), v = .agg #[dv, bkv] /\ DV W (· < W.heap.size) dv ds /\ BV W (· < W.heap.size) bkv bs /\ ds.length <= 1048575 /\ (∀ d ∈ ds, nl d.body <= 1048576 /\ d.nm.size <= maxLen /\ rgD d) /\ bs.length <= 1048576 /\ ∀ d ∈ bs, d.2.length <= 1048576 := by
  obtain ⟨cs, rfl, hsz⟩ := okWide_struct undPg hval
  obtain ⟨fuel, hf⟩ := h
  obtain ⟨xs, q, _, hxy, hcl, hxl, hff⟩ := DataW.trod_struct undPg hf
  rw [cPg] at hcl
  obtain ⟨l⟩ := cs
  simp [Value.cells] at hcl
  match l, hcl, xs, hxl with
  | [a0, a1], _, [x0, x1], _ =>
    have f0 : DataW.trod enc Tryz.prog W 0 (fun _ => true) true q 44 [a0] = some x0 := by simpa [cDs, Value.cells] using hff 0 _ rfl
    have f1 : DataW.trod enc Tryz.prog W 0 (fun _ => true) true q 45 [a1] = some x1 := by simpa [cBs, Value.cells] using hff 1 _ rfl
    have hd : d = .agg [x0.1, x1.1] := by
      simp only [Prod.mk.injEq] at hxy; rw [hxy.1]; rfl
    rw [hd] at hk
    simp only [Rows.uptoBulk, Rows.uptoBulkAll] at hk
    obtain ⟨dv, ds, e0', h1, _, h2, h3⟩ := open_defs2 f0 (by omega)
    obtain ⟨bv, bs, e1', h4, h5, h6⟩ := open_banks f1 (by omega)
    simp only [List.cons.injEq, and_true] at e0' e1'
    subst e0' e1'
    exact ⟨_, _, ds, bs, rfl, h1, h4, h2, h3, h5, h6⟩
end
end Go.Proofs.YtoemoiehjdmheaaGreat.Y
