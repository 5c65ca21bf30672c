import Derived.Test.YtgponcjjnjpfkaaGreatG7
import Derived.Laws.StructEq
import Derived.BigQuiet
import Derived.Deep.RegionHeld
import Derived.Great.BuildSlice
/-! PrimBack: its mathematics; sameCells, pushed. -/
namespace Go.Proofs.YtgponcjjnjpfkaaGreat.L
open Go.RowKit
open Go.Proofs
open P
set_option linter.unusedVariables false
set_option linter.unusedSimpArgs false
set_option maxHeartbeats 4000000
set_option maxRecDepth 100000
theorem wf_ram {m : M.MS} (h : M.Wf m) (p : Int) (x : UInt8) (h0 : 32768 ≤ p) (h1 : p < 49152) : M.Wf (M.st m p x) := by
  unfold M.st
  rw [if_neg (by omega), if_neg (by omega), if_pos h1]
  exact { h with ram := by simp [h.ram] }
theorem cl_sc (m : M.MS) (hw : M.Wf m) (p v : Int) (h0 : 32768 ≤ p) (h1 : p + 1 < 49152) (v0 : 0 ≤ v) (v1 : v < 65536) : M.cl (M.sc m p v) p = v := by
  have e : (p + 1) % 65536 = p + 1 := by omega
  unfold M.cl M.sc
  rw [e, M.ld_same _ (wf_ram hw p _ h0 (by omega)) (p + 1) _ (by omega) (by omega) (fun h => by omega), M.ld_other _ (wf_ram hw p _ h0 (by omega)) (p + 1) p _ (by omega) (by omega) (by omega) (by omega) (by omega), M.ld_same _ hw p _ (by omega) (by omega) (fun h => by omega), M.bt_b8, M.bt_b8]
  omega
theorem ld_plt (m : M.MS) (hw : M.Wf m) (c r z : Int) (c0 : 0 ≤ c) (c1 : c < 64) (r0 : 0 ≤ r) (r1 : r < 48) : M.ld (M.plt m c r z) (49152 + 64 * r + c) = z % 256 := by
  unfold M.plt
  rw [if_pos ⟨c1, r1⟩, M.ld_same _ hw _ _ (by omega) (by omega) (fun h => by omega), M.bt_b8]
theorem st_cyc (m : M.MS) (p : Int) (x : UInt8) : (M.st m p x).cyc = m.cyc := by
  unfold M.st M.stp
  split <;> try rfl
  split
  · split <;> rfl
  split <;> try rfl
  split <;> try rfl
  split <;> try rfl
  split <;> try rfl
  split <;> try rfl
  split <;> rfl
theorem sc_keep (m : M.MS) (p v : Int) (h0 : 0 ≤ p) (h1 : p + 1 < 65280) : (M.sc m p v).tones = m.tones ∧ (M.sc m p v).cyc = m.cyc := by
  have e : (p + 1) % 65536 = p + 1 := by omega
  unfold M.sc
  rw [e, M.st_low_tones _ _ _ (by omega), M.st_low_tones _ _ _ (by omega), st_cyc, st_cyc]
  exact ⟨rfl, rfl⟩
theorem plt_keep (m : M.MS) (c r z : Int) (c0 : 0 ≤ c) (r0 : 0 ≤ r) : (M.plt m c r z).tones = m.tones ∧ (M.plt m c r z).cyc = m.cyc := by
  unfold M.plt
  split
  · rename_i h
    rw [M.st_low_tones _ _ _ (by omega), st_cyc]
    exact ⟨rfl, rfl⟩
  · exact ⟨rfl, rfl⟩
theorem tone_is (m : M.MS) (hw : M.Wf m) (x y : Int) (x0 : 0 ≤ x) (x1 : x < 65536) : (M.st (M.sc m 65284 x) 65286 (M.b8 y)).tones = m.tones ++ [(m.cyc, x, y % 256)] := by
  have e : ((65284 : Int) + 1) % 65536 = 65285 := by decide
  have p0 := hw.pitch0
  have b1 := M.bt_b8 x
  have b2 := M.bt_b8 (x / 256)
  have b3 := M.bt_b8 y
  unfold M.sc
  rw [e]
  simp [M.st, M.stp, b1, b2, b3]
  omega
theorem WPe.putD {W W' : World} {B g bd br bm : Nat} {D D' : List Int} {R : List (Int × Int)} {m : M.MS} (h : WPe W B g bd br bm D R m) (hB : B ≤ W.heap.size) (hd : S.HasD W' bd D') (t : S.At bd W W') : WPe W' B g bd br bm D' R m ∧ Below B W W' := by
  obtain ⟨F, h⟩ := h
  obtain ⟨x, y, z, hb⟩ := h.blk
  have hg := h.gd
  refine ⟨⟨F, ⟨x, y, z, (t.block _ (S.lt_of hb) hg.1).trans hb⟩, ⟨hd, h.p.r.kept (t.block _ (S.lt_of h.p.r.1) (fun e => h.p.dr e.symm)), h.p.m.kept (fun i hi hF => t.block i hi (fun e => h.p.fd (e ▸ hF))), h.p.dr, h.p.fd, h.p.fr⟩, h.ng, h.lo, h.lf⟩, ?_⟩
  exact S.At.below t h.lo.2.1 hB
theorem sameL (p p' : Option Addr) (c c' : Nat) (l : List Int) (hl : l.length ≤ S.room) (w : World) (h : S.Sl S.eU 1 w p l) (h' : S.Sl S.eU 1 w p' l) :
    Calls Tryz.prog 18 #[.slice p l.length c, .slice p' l.length c'] w fun e w' => e = .returned (.bool true) ∧ ∃ q, w' = w.drewN q := by
  unfold S.room at hl
  go_enter Tryz.func18, Tryz.ntmps18
  go_wp2
  go_loopw [5] (fun i wr => ∃ k q : Nat, k ≤ l.length ∧ i = .int .i64 (k : Int) ∧ wr = w.drewN q) (fun i _ => l.length - (intOf i).toNat)
  case atStart => exact ⟨0, 0, by omega, rfl, rfl⟩
  case round =>
    obtain ⟨k, q, hk, rfl, rfl⟩ := hrel
    by_cases hlt : k < l.length
    · have i1 : (k : Int) < l.length := by omega
      obtain ⟨b, o, rfl, e1⟩ := h.u k l[k] (List.getElem?_eq_getElem hlt)
      obtain ⟨b', o', rfl, f1⟩ := h'.u k l[k] (List.getElem?_eq_getElem hlt)
      generalize l[k] = t at *
      have g1 : ∀ q, (w.drewN q).cell? ⟨b, o + k, none⟩ = some (.int .u16 t) := fun q => e1
      have g4 : ∀ q, (w.drewN q).cell? ⟨b', o' + k, none⟩ = some (.int .u16 t) := fun q => f1
      clear h h'
      go_wp2_with fail
      go_quiet (fail)
      go_wp2
      go_roundw
      case rel =>
        first
          | exact ⟨k + 1, _, by omega, by go_num, rfl⟩
          | ((repeat apply Exists.intro); refine ⟨⟨k + 1, _, by omega, ?_, rfl⟩, rfl⟩; go_num)
      case measure => simp [intOf]; omega
    · obtain rfl : k = l.length := by omega
      go_wp2
      go_ret
      exact ⟨rfl, _, rfl⟩

theorem pushed_any (op : Int) (hp : plain op = true) (p : Option Addr) (c : Nat) (D : List Int) (hc : D.length ≤ c) (hn : p = none → c = 0) (hl : D.length ≤ 200) (hD : ∀ x ∈ D, C.C x) (w : World) (h : S.Sl S.eU 1 w p D) (hf : fl op D [] = 0) :
    Calls Tryz.prog 20 #[.int .i64 op, .slice p D.length c] w fun e w' => ∃ u, e = .returned (.tuple #[u, .bool true]) ∧ S.RowU w' w.heap.size u (xD op D [] mB) ∧ Below w.heap.size w w' := by
  have hbo : Calls Tryz.prog 11 #[.slice p D.length c, .slice none 0 0] w fun e w' => BornR w w' e D [] := by
    have := born_any p none c 0 D [] hc (by decide) hn (fun _ => rfl) (by unfold S.room; omega) (by decide) w h (fun i a h => by simp at h)
    rw [List.take_of_length_le (by omega)] at this
    exact this
  go_enter Tryz.func20, Tryz.ntmps20
  go_wp2_with fail
  refine hbo.mono ?_
  rintro e w1 ⟨g, bd, br, bm, bx, bq', bz, F, G, ev, qv, rfl, hW, b1⟩
  have hE := hW.e
  have hdo := do_w op hp w.heap.size g bd br bm D [] mB hD (by decide) w1.drew hE.drew b1.size
  rw [hf] at hdo
  have s0 := hE.drew.cells
  clear hE hW hbo
  generalize hD2 : xD op D [] mB = D2 at *
  have HD2 := S.hid hD2
  clear hD2
  generalize xR op D [] = R2 at *
  generalize xM op D [] mB = m2 at *
  go_wp2_with fail
  go_region_held (fun w' => w'.cell? ⟨g, 0, none⟩ = some (.pointer (some ⟨bd, 0, none⟩)) ∧ w'.cell? ⟨g, 1, none⟩ = some (.pointer (some ⟨br, 0, none⟩)) ∧ w'.cell? ⟨g, 2, none⟩ = some (.pointer (some ⟨bm, 0, none⟩)))
    (first | (with_reducible exact s0) | (with_reducible exact s1))
    (first | (go_at_call 12; refine hdo.mono ?_; rintro e w2 ⟨rfl, hE, b2⟩; have s1 := hE.cells))
  have b12 : Below w.heap.size w1 w2 := ⟨b2.os, b2.tape, b2.output, b2.size, b2.block⟩
  have hdc := S.dcells bd D2 w2 hE.d
  have c0 := hE.cells.1
  have HB := S.hid (b1.trans b12)
  clear hdo s0 s1 b2 hE b1 b12
  go_wp2_with fail
  refine hdc.mono ?_
  rintro e w3 ⟨u, rfl, hu, b3⟩
  obtain ⟨p7, c7, rfl, -, -⟩ := hu.ls.ex
  go_wp2
  exact bodyPost_ret (v := .tuple #[.slice p7 D2.length c7, .bool true]) (by simp [results, Tryz.results20, go_sem]) rfl ⟨_, rfl, by rw [HD2.out]; exact S.own_mono hu HB.out.size, bb HB.out b3⟩
end Go.Proofs.YtgponcjjnjpfkaaGreat.L
/-! Do without a stack or a memory, and of what is not plain. -/
namespace Go.Proofs.YtgponcjjnjpfkaaGreat.L
open Go.RowKit
open Go.Proofs
open P
set_option linter.unusedVariables false
set_option linter.unusedSimpArgs false
theorem plain_at (x : Nat) (h1 : 1 ≤ x) (h2 : x < 64) (w : World) : Calls Tryz.prog 27 #[.int .i64 (x : Int)] w fun e w' => e = .returned (.bool (plain (x : Int))) ∧ Below w.heap.size w w' := by
  rcases num_cases x h1 h2 with rfl | rfl | rfl | rfl | rfl | rfl | rfl | rfl | rfl | rfl | rfl | rfl | rfl | rfl | rfl | rfl | rfl | rfl | rfl | rfl | rfl | rfl | rfl | rfl | rfl | rfl | rfl | rfl | rfl | rfl | rfl | rfl | rfl | rfl | rfl | rfl | rfl | rfl | rfl | rfl | rfl | rfl | rfl | rfl | rfl | rfl | rfl | rfl | rfl | rfl | rfl | rfl | rfl | rfl | rfl | rfl | rfl | rfl | rfl | rfl | rfl | rfl | rfl
  · exact plain_no _ _ _ _ _ _ _ _ _ _ ent_1 w
  · exact plain_no _ _ _ _ _ _ _ _ _ _ ent_2 w
  · exact plain_no _ _ _ _ _ _ _ _ _ _ ent_3 w
  · exact plain_no _ _ _ _ _ _ _ _ _ _ ent_4 w
  · exact plain_no _ _ _ _ _ _ _ _ _ _ ent_5 w
  · exact plain_yes _ _ _ _ _ _ _ _ _ _ _ ent_6 w
  · exact plain_no _ _ _ _ _ _ _ _ _ _ ent_7 w
  · exact plain_no _ _ _ _ _ _ _ _ _ _ ent_8 w
  · exact plain_yes _ _ _ _ _ _ _ _ _ _ _ ent_9 w
  · exact plain_no _ _ _ _ _ _ _ _ _ _ ent_10 w
  · exact plain_no _ _ _ _ _ _ _ _ _ _ ent_11 w
  · exact plain_yes _ _ _ _ _ _ _ _ _ _ _ ent_12 w
  · exact plain_yes _ _ _ _ _ _ _ _ _ _ _ ent_13 w
  · exact plain_yes _ _ _ _ _ _ _ _ _ _ _ ent_14 w
  · exact plain_yes _ _ _ _ _ _ _ _ _ _ _ ent_15 w
  · exact plain_yes _ _ _ _ _ _ _ _ _ _ _ ent_16 w
  · exact plain_yes _ _ _ _ _ _ _ _ _ _ _ ent_17 w
  · exact plain_yes _ _ _ _ _ _ _ _ _ _ _ ent_18 w
  · exact plain_yes _ _ _ _ _ _ _ _ _ _ _ ent_19 w
  · exact plain_yes _ _ _ _ _ _ _ _ _ _ _ ent_20 w
  · exact plain_yes _ _ _ _ _ _ _ _ _ _ _ ent_21 w
  · exact plain_yes _ _ _ _ _ _ _ _ _ _ _ ent_22 w
  · exact plain_yes _ _ _ _ _ _ _ _ _ _ _ ent_23 w
  · exact plain_yes _ _ _ _ _ _ _ _ _ _ _ ent_24 w
  · exact plain_yes _ _ _ _ _ _ _ _ _ _ _ ent_25 w
  · exact plain_yes _ _ _ _ _ _ _ _ _ _ _ ent_26 w
  · exact plain_yes _ _ _ _ _ _ _ _ _ _ _ ent_27 w
  · exact plain_yes _ _ _ _ _ _ _ _ _ _ _ ent_28 w
  · exact plain_yes _ _ _ _ _ _ _ _ _ _ _ ent_29 w
  · exact plain_yes _ _ _ _ _ _ _ _ _ _ _ ent_30 w
  · exact plain_yes _ _ _ _ _ _ _ _ _ _ _ ent_31 w
  · exact plain_yes _ _ _ _ _ _ _ _ _ _ _ ent_32 w
  · exact plain_yes _ _ _ _ _ _ _ _ _ _ _ ent_33 w
  · exact plain_yes _ _ _ _ _ _ _ _ _ _ _ ent_34 w
  · exact plain_yes _ _ _ _ _ _ _ _ _ _ _ ent_35 w
  · exact plain_yes _ _ _ _ _ _ _ _ _ _ _ ent_36 w
  · exact plain_yes _ _ _ _ _ _ _ _ _ _ _ ent_37 w
  · exact plain_yes _ _ _ _ _ _ _ _ _ _ _ ent_38 w
  · exact plain_yes _ _ _ _ _ _ _ _ _ _ _ ent_39 w
  · exact plain_yes _ _ _ _ _ _ _ _ _ _ _ ent_40 w
  · exact plain_yes _ _ _ _ _ _ _ _ _ _ _ ent_41 w
  · exact plain_yes _ _ _ _ _ _ _ _ _ _ _ ent_42 w
  · exact plain_yes _ _ _ _ _ _ _ _ _ _ _ ent_43 w
  · exact plain_yes _ _ _ _ _ _ _ _ _ _ _ ent_44 w
  · exact plain_yes _ _ _ _ _ _ _ _ _ _ _ ent_45 w
  · exact plain_yes _ _ _ _ _ _ _ _ _ _ _ ent_46 w
  · exact plain_yes _ _ _ _ _ _ _ _ _ _ _ ent_47 w
  · exact plain_yes _ _ _ _ _ _ _ _ _ _ _ ent_48 w
  · exact plain_yes _ _ _ _ _ _ _ _ _ _ _ ent_49 w
  · exact plain_yes _ _ _ _ _ _ _ _ _ _ _ ent_50 w
  · exact plain_yes _ _ _ _ _ _ _ _ _ _ _ ent_51 w
  · exact plain_yes _ _ _ _ _ _ _ _ _ _ _ ent_52 w
  · exact plain_yes _ _ _ _ _ _ _ _ _ _ _ ent_53 w
  · exact plain_yes _ _ _ _ _ _ _ _ _ _ _ ent_54 w
  · exact plain_yes _ _ _ _ _ _ _ _ _ _ _ ent_55 w
  · exact plain_yes _ _ _ _ _ _ _ _ _ _ _ ent_56 w
  · exact plain_yes _ _ _ _ _ _ _ _ _ _ _ ent_57 w
  · exact plain_yes _ _ _ _ _ _ _ _ _ _ _ ent_58 w
  · exact plain_yes _ _ _ _ _ _ _ _ _ _ _ ent_59 w
  · exact plain_yes _ _ _ _ _ _ _ _ _ _ _ ent_60 w
  · exact plain_yes _ _ _ _ _ _ _ _ _ _ _ ent_61 w
  · exact plain_yes _ _ _ _ _ _ _ _ _ _ _ ent_62 w
  · exact plain_yes _ _ _ _ _ _ _ _ _ _ _ ent_63 w
theorem plain_out (op : Int) (h : op < 1 ∨ 64 ≤ op) : plain op = false := by
  have a : ¬ op = 6 := by omega
  have b : ¬ op = 9 := by omega
  have c : ¬ (12 ≤ op ∧ op ≤ 63) := by omega
  unfold plain
  simp only [beq_eq_false_iff_ne.2 a, beq_eq_false_iff_ne.2 b, Bool.false_or, Bool.and_eq_false_iff, decide_eq_false_iff_not]
  omega
theorem plain_any (op : Int) (w : World) : Calls Tryz.prog 27 #[.int .i64 op] w fun e w' => e = .returned (.bool (plain op)) ∧ Below w.heap.size w w' := by
  by_cases h : op < 1 ∨ 64 ≤ op
  · rw [plain_out op h]
    exact plain_no _ _ _ _ _ _ _ _ _ _ (ent_none op h) w
  · obtain ⟨x, rfl⟩ : ∃ x : Nat, op = (x : Int) := ⟨op.toNat, by omega⟩
    exact plain_at x (by omega) (by omega) w
theorem do_nil (op : Int) (d r m : Option Addr) (hn : d = none ∨ r = none ∨ m = none) (w : World) :
    Calls Tryz.prog 12 #[.int .i64 op, .pointer d, .pointer r, .pointer m] w fun e w' => e = .returned (.int .i64 6) ∧ Below w.heap.size w w' := by
  by_cases h : op < 1 ∨ 64 ≤ op
  · exact do_code _ _ _ _ _ _ _ _ _ _ (ent_none op h) d r m w
  · obtain ⟨x, rfl⟩ : ∃ x : Nat, op = (x : Int) := ⟨op.toNat, by omega⟩
    rcases num_cases x (by omega) (by omega) with rfl | rfl | rfl | rfl | rfl | rfl | rfl | rfl | rfl | rfl | rfl | rfl | rfl | rfl | rfl | rfl | rfl | rfl | rfl | rfl | rfl | rfl | rfl | rfl | rfl | rfl | rfl | rfl | rfl | rfl | rfl | rfl | rfl | rfl | rfl | rfl | rfl | rfl | rfl | rfl | rfl | rfl | rfl | rfl | rfl | rfl | rfl | rfl | rfl | rfl | rfl | rfl | rfl | rfl | rfl | rfl | rfl | rfl | rfl | rfl | rfl | rfl | rfl
    · exact do_code _ _ _ _ _ _ _ _ _ _ ent_1 d r m w
    · exact do_code _ _ _ _ _ _ _ _ _ _ ent_2 d r m w
    · exact do_code _ _ _ _ _ _ _ _ _ _ ent_3 d r m w
    · exact do_code _ _ _ _ _ _ _ _ _ _ ent_4 d r m w
    · exact do_code _ _ _ _ _ _ _ _ _ _ ent_5 d r m w
    · exact do_none _ _ _ _ _ _ _ _ _ _ _ ent_6 d r m hn w
    · exact do_code _ _ _ _ _ _ _ _ _ _ ent_7 d r m w
    · exact do_code _ _ _ _ _ _ _ _ _ _ ent_8 d r m w
    · exact do_none _ _ _ _ _ _ _ _ _ _ _ ent_9 d r m hn w
    · exact do_code _ _ _ _ _ _ _ _ _ _ ent_10 d r m w
    · exact do_code _ _ _ _ _ _ _ _ _ _ ent_11 d r m w
    · exact do_none _ _ _ _ _ _ _ _ _ _ _ ent_12 d r m hn w
    · exact do_none _ _ _ _ _ _ _ _ _ _ _ ent_13 d r m hn w
    · exact do_none _ _ _ _ _ _ _ _ _ _ _ ent_14 d r m hn w
    · exact do_none _ _ _ _ _ _ _ _ _ _ _ ent_15 d r m hn w
    · exact do_none _ _ _ _ _ _ _ _ _ _ _ ent_16 d r m hn w
    · exact do_none _ _ _ _ _ _ _ _ _ _ _ ent_17 d r m hn w
    · exact do_none _ _ _ _ _ _ _ _ _ _ _ ent_18 d r m hn w
    · exact do_none _ _ _ _ _ _ _ _ _ _ _ ent_19 d r m hn w
    · exact do_none _ _ _ _ _ _ _ _ _ _ _ ent_20 d r m hn w
    · exact do_none _ _ _ _ _ _ _ _ _ _ _ ent_21 d r m hn w
    · exact do_none _ _ _ _ _ _ _ _ _ _ _ ent_22 d r m hn w
    · exact do_none _ _ _ _ _ _ _ _ _ _ _ ent_23 d r m hn w
    · exact do_none _ _ _ _ _ _ _ _ _ _ _ ent_24 d r m hn w
    · exact do_none _ _ _ _ _ _ _ _ _ _ _ ent_25 d r m hn w
    · exact do_none _ _ _ _ _ _ _ _ _ _ _ ent_26 d r m hn w
    · exact do_none _ _ _ _ _ _ _ _ _ _ _ ent_27 d r m hn w
    · exact do_none _ _ _ _ _ _ _ _ _ _ _ ent_28 d r m hn w
    · exact do_none _ _ _ _ _ _ _ _ _ _ _ ent_29 d r m hn w
    · exact do_none _ _ _ _ _ _ _ _ _ _ _ ent_30 d r m hn w
    · exact do_none _ _ _ _ _ _ _ _ _ _ _ ent_31 d r m hn w
    · exact do_none _ _ _ _ _ _ _ _ _ _ _ ent_32 d r m hn w
    · exact do_none _ _ _ _ _ _ _ _ _ _ _ ent_33 d r m hn w
    · exact do_none _ _ _ _ _ _ _ _ _ _ _ ent_34 d r m hn w
    · exact do_none _ _ _ _ _ _ _ _ _ _ _ ent_35 d r m hn w
    · exact do_none _ _ _ _ _ _ _ _ _ _ _ ent_36 d r m hn w
    · exact do_none _ _ _ _ _ _ _ _ _ _ _ ent_37 d r m hn w
    · exact do_none _ _ _ _ _ _ _ _ _ _ _ ent_38 d r m hn w
    · exact do_none _ _ _ _ _ _ _ _ _ _ _ ent_39 d r m hn w
    · exact do_none _ _ _ _ _ _ _ _ _ _ _ ent_40 d r m hn w
    · exact do_none _ _ _ _ _ _ _ _ _ _ _ ent_41 d r m hn w
    · exact do_none _ _ _ _ _ _ _ _ _ _ _ ent_42 d r m hn w
    · exact do_none _ _ _ _ _ _ _ _ _ _ _ ent_43 d r m hn w
    · exact do_none _ _ _ _ _ _ _ _ _ _ _ ent_44 d r m hn w
    · exact do_none _ _ _ _ _ _ _ _ _ _ _ ent_45 d r m hn w
    · exact do_none _ _ _ _ _ _ _ _ _ _ _ ent_46 d r m hn w
    · exact do_none _ _ _ _ _ _ _ _ _ _ _ ent_47 d r m hn w
    · exact do_none _ _ _ _ _ _ _ _ _ _ _ ent_48 d r m hn w
    · exact do_none _ _ _ _ _ _ _ _ _ _ _ ent_49 d r m hn w
    · exact do_none _ _ _ _ _ _ _ _ _ _ _ ent_50 d r m hn w
    · exact do_none _ _ _ _ _ _ _ _ _ _ _ ent_51 d r m hn w
    · exact do_none _ _ _ _ _ _ _ _ _ _ _ ent_52 d r m hn w
    · exact do_none _ _ _ _ _ _ _ _ _ _ _ ent_53 d r m hn w
    · exact do_none _ _ _ _ _ _ _ _ _ _ _ ent_54 d r m hn w
    · exact do_none _ _ _ _ _ _ _ _ _ _ _ ent_55 d r m hn w
    · exact do_none _ _ _ _ _ _ _ _ _ _ _ ent_56 d r m hn w
    · exact do_none _ _ _ _ _ _ _ _ _ _ _ ent_57 d r m hn w
    · exact do_none _ _ _ _ _ _ _ _ _ _ _ ent_58 d r m hn w
    · exact do_none _ _ _ _ _ _ _ _ _ _ _ ent_59 d r m hn w
    · exact do_none _ _ _ _ _ _ _ _ _ _ _ ent_60 d r m hn w
    · exact do_none _ _ _ _ _ _ _ _ _ _ _ ent_61 d r m hn w
    · exact do_none _ _ _ _ _ _ _ _ _ _ _ ent_62 d r m hn w
    · exact do_none _ _ _ _ _ _ _ _ _ _ _ ent_63 d r m hn w
theorem do_not (op : Int) (hp : plain op = false) (d r m : Option Addr) (w : World) :
    Calls Tryz.prog 12 #[.int .i64 op, .pointer d, .pointer r, .pointer m] w fun e w' => e = .returned (.int .i64 6) ∧ Below w.heap.size w w' := by
  by_cases h : op < 1 ∨ 64 ≤ op
  · exact do_code _ _ _ _ _ _ _ _ _ _ (ent_none op h) d r m w
  · obtain ⟨x, rfl⟩ : ∃ x : Nat, op = (x : Int) := ⟨op.toNat, by omega⟩
    rcases num_cases x (by omega) (by omega) with rfl | rfl | rfl | rfl | rfl | rfl | rfl | rfl | rfl | rfl | rfl | rfl | rfl | rfl | rfl | rfl | rfl | rfl | rfl | rfl | rfl | rfl | rfl | rfl | rfl | rfl | rfl | rfl | rfl | rfl | rfl | rfl | rfl | rfl | rfl | rfl | rfl | rfl | rfl | rfl | rfl | rfl | rfl | rfl | rfl | rfl | rfl | rfl | rfl | rfl | rfl | rfl | rfl | rfl | rfl | rfl | rfl | rfl | rfl | rfl | rfl | rfl | rfl
    · exact do_code _ _ _ _ _ _ _ _ _ _ ent_1 d r m w
    · exact do_code _ _ _ _ _ _ _ _ _ _ ent_2 d r m w
    · exact do_code _ _ _ _ _ _ _ _ _ _ ent_3 d r m w
    · exact do_code _ _ _ _ _ _ _ _ _ _ ent_4 d r m w
    · exact do_code _ _ _ _ _ _ _ _ _ _ ent_5 d r m w
    · simp [plain] at hp
    · exact do_code _ _ _ _ _ _ _ _ _ _ ent_7 d r m w
    · exact do_code _ _ _ _ _ _ _ _ _ _ ent_8 d r m w
    · simp [plain] at hp
    · exact do_code _ _ _ _ _ _ _ _ _ _ ent_10 d r m w
    · exact do_code _ _ _ _ _ _ _ _ _ _ ent_11 d r m w
    · simp [plain] at hp
    · simp [plain] at hp
    · simp [plain] at hp
    · simp [plain] at hp
    · simp [plain] at hp
    · simp [plain] at hp
    · simp [plain] at hp
    · simp [plain] at hp
    · simp [plain] at hp
    · simp [plain] at hp
    · simp [plain] at hp
    · simp [plain] at hp
    · simp [plain] at hp
    · simp [plain] at hp
    · simp [plain] at hp
    · simp [plain] at hp
    · simp [plain] at hp
    · simp [plain] at hp
    · simp [plain] at hp
    · simp [plain] at hp
    · simp [plain] at hp
    · simp [plain] at hp
    · simp [plain] at hp
    · simp [plain] at hp
    · simp [plain] at hp
    · simp [plain] at hp
    · simp [plain] at hp
    · simp [plain] at hp
    · simp [plain] at hp
    · simp [plain] at hp
    · simp [plain] at hp
    · simp [plain] at hp
    · simp [plain] at hp
    · simp [plain] at hp
    · simp [plain] at hp
    · simp [plain] at hp
    · simp [plain] at hp
    · simp [plain] at hp
    · simp [plain] at hp
    · simp [plain] at hp
    · simp [plain] at hp
    · simp [plain] at hp
    · simp [plain] at hp
    · simp [plain] at hp
    · simp [plain] at hp
    · simp [plain] at hp
    · simp [plain] at hp
    · simp [plain] at hp
    · simp [plain] at hp
    · simp [plain] at hp
    · simp [plain] at hp
    · simp [plain] at hp
end Go.Proofs.YtgponcjjnjpfkaaGreat.L
/-! PrimKeeps: its mathematics. -/
namespace Go.Proofs.YtgponcjjnjpfkaaGreat.L
open Go.RowKit
open Go.Proofs
open P
set_option linter.unusedVariables false
set_option linter.unusedSimpArgs false
set_option maxHeartbeats 4000000
set_option maxRecDepth 100000
def wrB (op : Int) : Bool := op == 51 || (op == 53 || (op == 54 || (op == 60 || (op == 62 || op == 63))))
def rdB (op : Int) : Bool := op == 50 || (op == 52 || (op == 54 || op == 61))
def rtN (op : Int) : Int := if op = 6 then 2 else if op = 55 then 1 else if op = 56 then -1 else 0
theorem put_len (op : Int) (hp : plain op = true) (x y z s : Int) (m : M.MS) : (putN op x y z s m).length = (rw_ op).o := by
  rcases plain_cases op hp with rfl | rfl | rfl | rfl | rfl | rfl | rfl | rfl | rfl | rfl | rfl | rfl | rfl | rfl | rfl | rfl | rfl | rfl | rfl | rfl | rfl | rfl | rfl | rfl | rfl | rfl | rfl | rfl | rfl | rfl | rfl | rfl | rfl | rfl | rfl | rfl | rfl | rfl | rfl | rfl | rfl | rfl | rfl | rfl | rfl | rfl | rfl | rfl | rfl | rfl | rfl | rfl | rfl | rfl <;> rfl
theorem put_mem (op : Int) (hp : plain op = true) (hr : rdB op = false) (x y z s : Int) (m m' : M.MS) : putN op x y z s m = putN op x y z s m' := by
  rcases plain_cases op hp with rfl | rfl | rfl | rfl | rfl | rfl | rfl | rfl | rfl | rfl | rfl | rfl | rfl | rfl | rfl | rfl | rfl | rfl | rfl | rfl | rfl | rfl | rfl | rfl | rfl | rfl | rfl | rfl | rfl | rfl | rfl | rfl | rfl | rfl | rfl | rfl | rfl | rfl | rfl | rfl | rfl | rfl | rfl | rfl | rfl | rfl | rfl | rfl | rfl | rfl | rfl | rfl | rfl | rfl <;> first | rfl | (exact absurd hr (by decide))
theorem mem_same (op : Int) (hw : wrB op = false) (x y z : Int) (m : M.MS) : memN op x y z m = m := by
  unfold memN
  split <;> first | rfl | (exact absurd hw (by decide))
theorem ri_is (n : Nat) (hp : plain (n : Int) = true) : ri n = ((rw_ (n : Int)).i : Int) ∧ ro n = ((rw_ (n : Int)).o : Int) := by
  rcases plain_cases (n : Int) hp with h | h | h | h | h | h | h | h | h | h | h | h | h | h | h | h | h | h | h | h | h | h | h | h | h | h | h | h | h | h | h | h | h | h | h | h | h | h | h | h | h | h | h | h | h | h | h | h | h | h | h | h | h | h
  · obtain rfl : n = 6 := by omega
    exact ⟨rfl, rfl⟩
  · obtain rfl : n = 9 := by omega
    exact ⟨rfl, rfl⟩
  · obtain rfl : n = 12 := by omega
    exact ⟨rfl, rfl⟩
  · obtain rfl : n = 13 := by omega
    exact ⟨rfl, rfl⟩
  · obtain rfl : n = 14 := by omega
    exact ⟨rfl, rfl⟩
  · obtain rfl : n = 15 := by omega
    exact ⟨rfl, rfl⟩
  · obtain rfl : n = 16 := by omega
    exact ⟨rfl, rfl⟩
  · obtain rfl : n = 17 := by omega
    exact ⟨rfl, rfl⟩
  · obtain rfl : n = 18 := by omega
    exact ⟨rfl, rfl⟩
  · obtain rfl : n = 19 := by omega
    exact ⟨rfl, rfl⟩
  · obtain rfl : n = 20 := by omega
    exact ⟨rfl, rfl⟩
  · obtain rfl : n = 21 := by omega
    exact ⟨rfl, rfl⟩
  · obtain rfl : n = 22 := by omega
    exact ⟨rfl, rfl⟩
  · obtain rfl : n = 23 := by omega
    exact ⟨rfl, rfl⟩
  · obtain rfl : n = 24 := by omega
    exact ⟨rfl, rfl⟩
  · obtain rfl : n = 25 := by omega
    exact ⟨rfl, rfl⟩
  · obtain rfl : n = 26 := by omega
    exact ⟨rfl, rfl⟩
  · obtain rfl : n = 27 := by omega
    exact ⟨rfl, rfl⟩
  · obtain rfl : n = 28 := by omega
    exact ⟨rfl, rfl⟩
  · obtain rfl : n = 29 := by omega
    exact ⟨rfl, rfl⟩
  · obtain rfl : n = 30 := by omega
    exact ⟨rfl, rfl⟩
  · obtain rfl : n = 31 := by omega
    exact ⟨rfl, rfl⟩
  · obtain rfl : n = 32 := by omega
    exact ⟨rfl, rfl⟩
  · obtain rfl : n = 33 := by omega
    exact ⟨rfl, rfl⟩
  · obtain rfl : n = 34 := by omega
    exact ⟨rfl, rfl⟩
  · obtain rfl : n = 35 := by omega
    exact ⟨rfl, rfl⟩
  · obtain rfl : n = 36 := by omega
    exact ⟨rfl, rfl⟩
  · obtain rfl : n = 37 := by omega
    exact ⟨rfl, rfl⟩
  · obtain rfl : n = 38 := by omega
    exact ⟨rfl, rfl⟩
  · obtain rfl : n = 39 := by omega
    exact ⟨rfl, rfl⟩
  · obtain rfl : n = 40 := by omega
    exact ⟨rfl, rfl⟩
  · obtain rfl : n = 41 := by omega
    exact ⟨rfl, rfl⟩
  · obtain rfl : n = 42 := by omega
    exact ⟨rfl, rfl⟩
  · obtain rfl : n = 43 := by omega
    exact ⟨rfl, rfl⟩
  · obtain rfl : n = 44 := by omega
    exact ⟨rfl, rfl⟩
  · obtain rfl : n = 45 := by omega
    exact ⟨rfl, rfl⟩
  · obtain rfl : n = 46 := by omega
    exact ⟨rfl, rfl⟩
  · obtain rfl : n = 47 := by omega
    exact ⟨rfl, rfl⟩
  · obtain rfl : n = 48 := by omega
    exact ⟨rfl, rfl⟩
  · obtain rfl : n = 49 := by omega
    exact ⟨rfl, rfl⟩
  · obtain rfl : n = 50 := by omega
    exact ⟨rfl, rfl⟩
  · obtain rfl : n = 51 := by omega
    exact ⟨rfl, rfl⟩
  · obtain rfl : n = 52 := by omega
    exact ⟨rfl, rfl⟩
  · obtain rfl : n = 53 := by omega
    exact ⟨rfl, rfl⟩
  · obtain rfl : n = 54 := by omega
    exact ⟨rfl, rfl⟩
  · obtain rfl : n = 55 := by omega
    exact ⟨rfl, rfl⟩
  · obtain rfl : n = 56 := by omega
    exact ⟨rfl, rfl⟩
  · obtain rfl : n = 57 := by omega
    exact ⟨rfl, rfl⟩
  · obtain rfl : n = 58 := by omega
    exact ⟨rfl, rfl⟩
  · obtain rfl : n = 59 := by omega
    exact ⟨rfl, rfl⟩
  · obtain rfl : n = 60 := by omega
    exact ⟨rfl, rfl⟩
  · obtain rfl : n = 61 := by omega
    exact ⟨rfl, rfl⟩
  · obtain rfl : n = 62 := by omega
    exact ⟨rfl, rfl⟩
  · obtain rfl : n = 63 := by omega
    exact ⟨rfl, rfl⟩
theorem nD_len (op : Int) (hp : plain op = true) (D : List Int) (R : List (Int × Int)) (m : M.MS) (hf : fl op D R = 0) : ((nD op D R m).length : Int) = (D.length : Int) + (rw_ op).o - (rw_ op).i := by
  have h := (flt0 hf).1
  unfold nD
  rw [List.length_append, put_len op hp, rest_len]
  omega
theorem nD_pre (op : Int) (D : List Int) (R : List (Int × Int)) (m : M.MS) : ∃ t, nD op D R m = D.take (D.length - (rw_ op).i) ++ t := ⟨_, rfl⟩
theorem nD_mem (op : Int) (hp : plain op = true) (hr : rdB op = false) (D : List Int) (R : List (Int × Int)) (m m' : M.MS) : nD op D R m = nD op D R m' := by
  unfold nD
  rw [put_mem op hp hr]
theorem lk_pos {R : List (Int × Int)} (h : (lk 4 0 R).2 = 0) : 0 < R.length := by
  unfold lk at h
  rw [if_neg (by decide)] at h
  by_cases a : R.length ≤ 0
  · rw [if_pos a] at h; cases h
  · omega
theorem nR_all (op : Int) (hp : plain op = true) (D : List Int) (R : List (Int × Int)) (hf : fl op D R = 0) : ((nR op D R).length : Int) = (R.length : Int) + rtN op ∧ ∃ n t, nR op D R = R.take n ++ t ∧ (n = R.length ∨ (t = [] ∧ n ≤ R.length)) := by
  have h := (flt0 hf).2.2.1
  unfold nR retN
  split
  · exact ⟨by simp [rtN], R.length, _, by rw [List.take_length], .inl rfl⟩
  · exact ⟨by simp [rtN], R.length, _, by rw [List.take_length], .inl rfl⟩
  · have := lk_pos h
    exact ⟨by simp [rtN]; omega, R.length - 1, [], by simp, .inr ⟨rfl, by omega⟩⟩
  · rename_i a b c
    refine ⟨?_, R.length, [], by simp, .inl rfl⟩
    unfold rtN
    rw [if_neg a, if_neg b, if_neg c]; omega
theorem nM_same (op : Int) (hw : wrB op = false) (D : List Int) (m : M.MS) : nM op D m = m := mem_same op hw _ _ _ m
end Go.Proofs.YtgponcjjnjpfkaaGreat.L
/-! PrimKeeps: two worlds of the law side by side. -/
namespace Go.Proofs.YtgponcjjnjpfkaaGreat.L
open Go.RowKit
open Go.Proofs
open P
set_option linter.unusedVariables false
set_option linter.unusedSimpArgs false
set_option maxHeartbeats 4000000
set_option maxRecDepth 100000
def TQ (g bd br : Nat) (F : Nat → Prop) (k : Nat) : Prop := k = g ∨ k = bd ∨ k = br ∨ F k
theorem WP.kept {W W' : World} {B g bd br bm : Nat} {F : Nat → Prop} {D : List Int} {R : List (Int × Int)} {m : M.MS} (h : WP W B g bd br bm F D R m) (k : ∀ i, i < W.heap.size → TQ g bd br F i → W'.heap[i]? = W.heap[i]?) : WP W' B g bd br bm F D R m := by
  obtain ⟨x, y, z, hb⟩ := h.blk
  exact ⟨⟨x, y, z, (k _ (S.lt_of hb) (.inl rfl)).trans hb⟩, ⟨h.p.d.kept (k _ (S.lt_of h.p.d.1) (.inr (.inl rfl))), h.p.r.kept (k _ (S.lt_of h.p.r.1) (.inr (.inr (.inl rfl)))), h.p.m.kept fun i hi f => k i hi (.inr (.inr (.inr f))), h.p.dr, h.p.fd, h.p.fr⟩, h.ng, h.lo, h.lf⟩
theorem WP.lt {W : World} {B g bd br bm : Nat} {F : Nat → Prop} {D : List Int} {R : List (Int × Int)} {m : M.MS} (h : WP W B g bd br bm F D R m) (hf : ∀ k, F k → k < W.heap.size) (k : Nat) (e : TQ g bd br F k) : k < W.heap.size := by
  obtain ⟨x, y, z, hb⟩ := h.blk
  rcases e with rfl | rfl | rfl | e
  · exact S.lt_of hb
  · exact S.lt_of h.p.d.1
  · exact S.lt_of h.p.r.1
  · exact hf k e
theorem WP.lo' {W : World} {B g bd br bm : Nat} {F : Nat → Prop} {D : List Int} {R : List (Int × Int)} {m : M.MS} (h : WP W B g bd br bm F D R m) (k : Nat) (e : TQ g bd br F k) : B ≤ k := by
  rcases e with rfl | rfl | rfl | e
  · exact h.lo.1
  · exact h.lo.2.1
  · exact h.lo.2.2
  · exact h.lf k e
theorem WP.cut {W : World} {B g bd br bm : Nat} {F : Nat → Prop} {D : List Int} {R : List (Int × Int)} {m : M.MS} (h : WP W B g bd br bm F D R m) : WP W B g bd br bm (fun k => F k ∧ k < W.heap.size) D R m :=
  ⟨h.blk, h.p.cut, fun e => h.ng e.1, h.lo, fun k e => h.lf k e.1⟩
theorem WP.base {W : World} {B B' g bd br bm : Nat} {F : Nat → Prop} {D : List Int} {R : List (Int × Int)} {m : M.MS} (h : WP W B g bd br bm F D R m) (hb : B' ≤ B) : WP W B' g bd br bm F D R m :=
  ⟨h.blk, h.p, h.ng, ⟨Nat.le_trans hb h.lo.1, Nat.le_trans hb h.lo.2.1, Nat.le_trans hb h.lo.2.2⟩, fun k e => Nat.le_trans hb (h.lf k e)⟩
/-- What a step of one leaves of it, its blocks grown. -/
theorem WP.goes {W W' : World} {B g bd br bm : Nat} {F : Nat → Prop} {D D' : List Int} {R R' : List (Int × Int)} {m m' : M.MS} (h : WP W B g bd br bm F D R m) (hB : B ≤ W.heap.size) (k : PD W W' bd br bm F D' R' m') : WP W' B g bd br bm (M.gr F W W') D' R' m' := by
  obtain ⟨x, y, z, hb⟩ := h.blk
  have hg := h.gd
  refine ⟨⟨x, y, z, (k.t.block _ (S.lt_of hb) ?_).trans hb⟩, k.s, ?_, h.lo, ?_⟩
  · rintro (e | e | e)
    · exact hg.1 e
    · exact hg.2 e
    · exact h.ng e
  · rintro (e | ⟨e, _⟩)
    · exact h.ng e
    · have := S.lt_of hb; omega
  · rintro i (e | ⟨e, _⟩)
    · exact h.lf i e
    · omega
structure KP (W : World) (B g bd br bm : Nat) (F : Nat → Prop) (D : List Int) (R : List (Int × Int)) (m : M.MS) (g' bd' br' bm' : Nat) (F' : Nat → Prop) (D' : List Int) (R' : List (Int × Int)) (m' : M.MS) : Prop where
  a : WP W B g bd br bm F D R m
  b : WP W B g' bd' br' bm' F' D' R' m'
  fa : ∀ k, F k → k < W.heap.size
  fb : ∀ k, F' k → k < W.heap.size
  ap : ∀ k, TQ g bd br F k → ¬ TQ g' bd' br' F' k
  hB : B ≤ W.heap.size
section
variable {W W' : World} {B g bd br bm : Nat} {F : Nat → Prop} {D D1 : List Int} {R R1 : List (Int × Int)} {m m1 : M.MS} {g' bd' br' bm' : Nat} {F' : Nat → Prop} {D' : List Int} {R' : List (Int × Int)} {m' : M.MS}
theorem tq_gr {k : Nat} (h : TQ g bd br (M.gr F W W') k) : TQ g bd br F k ∨ W.heap.size ≤ k := by
  rcases h with h | h | h | h | ⟨h, _⟩
  · exact .inl (.inl h)
  · exact .inl (.inr (.inl h))
  · exact .inl (.inr (.inr (.inl h)))
  · exact .inl (.inr (.inr (.inr h)))
  · exact .inr h
theorem KP.below (h : KP W B g bd br bm F D R m g' bd' br' bm' F' D' R' m') (k : Below W.heap.size W W') : KP W' B g bd br bm F D R m g' bd' br' bm' F' D' R' m' :=
  ⟨h.a.kept fun i hi _ => k.block i hi, h.b.kept fun i hi _ => k.block i hi, fun i e => Nat.lt_of_lt_of_le (h.fa i e) k.size, fun i e => Nat.lt_of_lt_of_le (h.fb i e) k.size, h.ap, Nat.le_trans h.hB k.size⟩
theorem pdB (h : WP W B g bd br bm F D R m) (hB : B ≤ W.heap.size) (k : PD W W' bd br bm F D1 R1 m1) : Below B W W' :=
  ⟨k.t.os, k.t.tape, k.t.output, k.t.size, fun i hi => k.t.block i (by omega) (by
    rintro (e | e | e)
    · have := h.lo.2.1; omega
    · have := h.lo.2.2; omega
    · have := h.lf i e; omega)⟩
theorem tp_tq {i : Nat} (h : TP bd br F i) : TQ g bd br F i := .inr h
theorem KP.left (h : KP W B g bd br bm F D R m g' bd' br' bm' F' D' R' m') (k : PD W W' bd br bm F D1 R1 m1) : KP W' B g bd br bm (M.gr F W W') D1 R1 m1 g' bd' br' bm' F' D' R' m' :=
  ⟨h.a.goes h.hB k, h.b.kept fun i hi e => k.t.block i hi fun f => h.ap i (tp_tq f) e, (by rintro i (e | ⟨_, e⟩); exact Nat.lt_of_lt_of_le (h.fa i e) k.t.size; exact e), fun i e => Nat.lt_of_lt_of_le (h.fb i e) k.t.size, fun i e f => by
    rcases tq_gr e with q | q
    · exact h.ap i q f
    · have := h.b.lt h.fb i f; omega, Nat.le_trans h.hB k.t.size⟩
theorem KP.right (h : KP W B g bd br bm F D R m g' bd' br' bm' F' D' R' m') (k : PD W W' bd' br' bm' F' D1 R1 m1) : KP W' B g bd br bm F D R m g' bd' br' bm' (M.gr F' W W') D1 R1 m1 :=
  ⟨h.a.kept fun i hi e => k.t.block i hi fun f => h.ap i e (tp_tq f), h.b.goes h.hB k, fun i e => Nat.lt_of_lt_of_le (h.fa i e) k.t.size, (by rintro i (e | ⟨_, e⟩); exact Nat.lt_of_lt_of_le (h.fb i e) k.t.size; exact e), fun i e f => by
    rcases tq_gr f with q | q
    · exact h.ap i e q
    · have := h.a.lt h.fa i e; omega, Nat.le_trans h.hB k.t.size⟩
/-- A second one is born beside the first. -/
theorem KP.make (h : WPe W B g bd br bm D R m) (hB : B ≤ W.heap.size) (k : Below W.heap.size W W') (h' : WPe W' W.heap.size g' bd' br' bm' D' R' m') : ∃ F F', KP W' B g bd br bm F D R m g' bd' br' bm' F' D' R' m' := by
  obtain ⟨F, h⟩ := h
  obtain ⟨F', h'⟩ := h'
  have hc := h.cut
  have lt := fun i e => hc.lt (fun k e => e.2) i e
  refine ⟨_, _, ⟨hc.kept fun i hi _ => k.block i hi, (h'.cut).base hB, fun i e => Nat.lt_of_lt_of_le e.2 k.size, fun i e => e.2, fun i e f => ?_, Nat.le_trans hB k.size⟩⟩
  have h1 := lt i e
  have h2 := (h'.cut).lo' i f
  omega
end
end Go.Proofs.YtgponcjjnjpfkaaGreat.L
/-! Image, walked. -/
namespace Go.Proofs.YtgponcjjnjpfkaaGreat.M
open Go.RowKit
open Go.Proofs
set_option linter.unusedVariables false
set_option linter.unusedSimpArgs false
set_option maxHeartbeats 4000000
set_option maxRecDepth 100000
theorem image_has (b : Nat) (w : World) {F : Nat → Prop} {m : MS} (hm : HasM w F b m) :
    Calls Tryz.prog 56 #[.pointer (some ⟨b, 0, none⟩)] w fun e w' => ∃ u rv sv gs N1 N2, e = .returned (.agg (imgC u rv sv m).toArray) ∧ ImO w' w.heap.size u rv sv (inO m 16) m.ram m.scr gs N1 N2 ∧ Below w.heap.size w w' := by
  obtain ⟨w1, hw1⟩ : ∃ w1, w1 = (w.alloc (.cells #[.slice none 0 0, .slice none 0 0, .slice none 0 0, .int .u8 0, .int .u8 0, .int .u16 0, .int .u8 0, .int .u16 0] 123)) := ⟨_, rfl⟩
  have hb1 : Below w.heap.size w w1 := by rw [hw1]; exact (Below.refl _ w).alloc (Nat.le_refl _) _
  have hz1 : w1.heap.size = w.heap.size + 1 := by rw [hw1]; simp
  have hr1 : w1.heap[w.heap.size]? = some (.cells [.slice none 0 0, .slice none 0 0, .slice none 0 0, .int .u8 0, .int .u8 0, .int .u16 0, .int .u8 0, .int .u16 0].toArray 123 (0, 0)) := by rw [hw1]; exact heap_alloc_new w _
  have hm1 := hm.below hb1
  have hc1 := inOrder_any b w1.drew (hm1.below (Below.refl _ _).drew)
  have hreg : ∀ {W : World}, HasM W F b m → ∀ (i : Nat) (v : Value), (∀ tv, (regs m tv)[i]? = some v) → W.cell? ⟨b, 19457 + i, none⟩ = some v := by
    intro W h i v hv
    obtain ⟨mb, L, tv, h⟩ := h
    exact cell_of W b (19457 + i) _ 119 _ h.blk ((mcells_reg mb m tv h.wf i).trans (hv tv))
  have hall : ∀ {W : World}, HasM W F b m → W.cell? ⟨b, 19457, none⟩ = some (.int .u8 m.ch) ∧ W.cell? ⟨b, 19458, none⟩ = some (.int .u8 m.pad) ∧ W.cell? ⟨b, 19459, none⟩ = some (.int .u16 m.pitch) ∧ W.cell? ⟨b, 19460, none⟩ = some (.int .u8 m.vol) ∧ W.cell? ⟨b, 19461, none⟩ = some (.int .u16 m.time) :=
    fun h => ⟨hreg h 0 _ fun _ => rfl, hreg h 1 _ fun _ => rfl, hreg h 2 _ fun _ => rfl, hreg h 3 _ fun _ => rfl, hreg h 4 _ fun _ => rfl⟩
  have hram : ∀ {W : World}, HasM W F b m → Sl W (.slice (some ⟨b, 1, none⟩) 16384 16384) m.ram := by
    intro W h
    obtain ⟨mb, L, tv, h⟩ := h
    refine .inr ⟨⟨b, 1, none⟩, 16384, by rw [h.wf.ram], by rw [h.wf.ram]; omega, fun j x hj => ?_⟩
    rw [Addr.add_lit]; exact cell_of W b _ _ 119 _ h.blk (mcells_ram mb m tv h.wf j x hj)
  have hrl : m.ram.length ≤ room := by rw [hm.wf.ram]; unfold room; omega
  have s0 := hall (W := w1.drew) (hm1.below (Below.refl _ _).drew)
  have hrp : 0 < m.ram.length := by rw [hm.wf.ram]; omega
  have hsp : 0 < m.scr.length := by rw [hm.wf.scr]; omega
  have HA : Hid _ := @hall
  have HR : Hid _ := @hram
  have HM1 : Hid _ := hm1
  have HR1 : Hid _ := hr1
  have HB1 : Hid _ := hb1
  have HZ1 : Hid _ := hz1
  have hFin : ∀ w2 w3 w4 : World, Below w1.drew.heap.size w1.drew w2 → Below w2.heap.size w2 w3 → Below w3.heap.size w3 w4 → w4.heap[w.heap.size]? = some (.cells [.slice none 0 0, .slice none 0 0, .slice none 0 0, .int .u8 0, .int .u8 0, .int .u16 0, .int .u8 0, .int .u16 0].toArray 123 (0, 0)) := by
    intro w2 w3 w4 a1 a2 a3
    have z1 : w1.drew.heap.size = w.heap.size + 1 := hz1
    have z2 := a1.size
    have z3 := a2.size
    exact (a3.block _ (by omega)).trans ((a2.block _ (by omega)).trans ((a1.block _ (by omega)).trans hr1))
  have hne : b ≠ w.heap.size := by obtain ⟨mb, L, tv, h⟩ := hm; have := lt_of h.blk; omega
  have HF : Hid _ := hFin
  clear hall hram hm1 hreg hr1 hb1 hz1 hFin hm
  go_enter Tryz.func56, Tryz.ntmps56
  go_wp2_with fail
  rw [← hw1]
  clear hw1
  go_region_held (fun w' => w'.cell? ⟨b, 19457, none⟩ = some (.int .u8 m.ch) ∧ w'.cell? ⟨b, 19458, none⟩ = some (.int .u8 m.pad) ∧ w'.cell? ⟨b, 19459, none⟩ = some (.int .u16 m.pitch) ∧ w'.cell? ⟨b, 19460, none⟩ = some (.int .u8 m.vol) ∧ w'.cell? ⟨b, 19461, none⟩ = some (.int .u16 m.time))
    (first | (with_reducible exact s0) | (with_reducible exact s2) | (with_reducible exact s3) | (with_reducible exact s4) | (simp only [cell_far _ w.heap.size _ _ b _ hne]; with_reducible exact s4))
    (first
      | (go_at_call 80; refine hc1.mono ?_; rintro e w2 ⟨u, gs, rfl, hO2, hb2⟩; obtain ⟨p2, cp2, rfl⟩ := own_form hO2.row; have hm2 := HasM.below HM1.out (W' := w2) ⟨hb2.os, hb2.tape, hb2.output, hb2.size, hb2.block⟩; have s2 := HA.out hm2; have hc2 := clone_any _ m.ram hrl w2 (HR.out hm2); have HO2 : Hid _ := hO2; have HB2 : Hid _ := hb2; have HM2 : Hid _ := hm2; clear hO2 hb2 hm2 hc1 s0)
      | (go_at_call 81; refine hc2.mono ?_; rintro e w3 ⟨rv, rfl, hO3, hb3⟩; obtain ⟨g3, cp3, rfl⟩ := own_pos hO3 hrp; have hm3 := HasM.below HM2.out hb3; have s3 := HA.out hm3; have hc3 := screen_any b w3 hm3; have HO3 : Hid _ := hO3; have HB3 : Hid _ := hb3; have HM3 : Hid _ := hm3; clear hO3 hb3 hm3 hc2 s2)
      | (go_at_call 82; refine hc3.mono ?_; rintro e w4 ⟨sv, rfl, hO4, hb4⟩; obtain ⟨g4, cp4, rfl⟩ := own_pos hO4 hsp; have s4 := HA.out (HasM.below HM3.out hb4); have hr4 := HF.out w2 w3 w4 HB2.out HB3.out hb4; have HO4 : Hid _ := hO4; have HB4 : Hid _ := hb4; clear hO4 hb4 hc3 s3; have f0 := cell_of w4 w.heap.size 0 _ 123 _ hr4 rfl; have f1 := cell_of w4 w.heap.size 1 _ 123 _ hr4 rfl; have f2 := cell_of w4 w.heap.size 2 _ 123 _ hr4 rfl; have f3 := cell_of w4 w.heap.size 3 _ 123 _ hr4 rfl; have f4 := cell_of w4 w.heap.size 4 _ 123 _ hr4 rfl; have f5 := cell_of w4 w.heap.size 5 _ 123 _ hr4 rfl; have f6 := cell_of w4 w.heap.size 6 _ 123 _ hr4 rfl; have f7 := cell_of w4 w.heap.size 7 _ 123 _ hr4 rfl; have z0 := fun i => frozen_of w4 w.heap.size i _ 123 hr4; clear hr4))
  all_goals
    have hx := image_end w w1 w2 w3 w4 m p2 cp2 g3 cp3 g4 cp4 gs HB1.out HZ1.out HB2.out HB3.out HB4.out HO2.out HO3.out HO4.out HR1.out
    go_wp2_with fail
    (try simp only [Exit.inBlock, Exit.then])
    have q0 := cell_of _ w.heap.size 0 _ 123 _ hx.1 rfl
    have q1 := cell_of _ w.heap.size 1 _ 123 _ hx.1 rfl
    have q2 := cell_of _ w.heap.size 2 _ 123 _ hx.1 rfl
    have q3 := cell_of _ w.heap.size 3 _ 123 _ hx.1 rfl
    have q4 := cell_of _ w.heap.size 4 _ 123 _ hx.1 rfl
    have q5 := cell_of _ w.heap.size 5 _ 123 _ hx.1 rfl
    have q6 := cell_of _ w.heap.size 6 _ 123 _ hx.1 rfl
    have q7 := cell_of _ w.heap.size 7 _ 123 _ hx.1 rfl
    refine bodyPost_ret (w := st8 w4 w.heap.size (.slice p2 (inO m 16).length cp2) (.slice (some ⟨g3, 0, none⟩) m.ram.length cp3) (.slice (some ⟨g4, 0, none⟩) m.scr.length cp4) m) (v := .agg (imgC (.slice p2 (inO m 16).length cp2) (.slice (some ⟨g3, 0, none⟩) m.ram.length cp3) (.slice (some ⟨g4, 0, none⟩) m.scr.length cp4) m).toArray) ?_ rfl ⟨_, _, _, _, _, _, rfl, hx.2.1, hx.2.2⟩
    clear hx
    simp [results, Tryz.results56, go_sem, q0, q1, q2, q3, q4, q5, q6, q7, imgC]
end Go.Proofs.YtgponcjjnjpfkaaGreat.M
/-! PrimKeeps: its small functions. -/
namespace Go.Proofs.YtgponcjjnjpfkaaGreat.L
open Go.RowKit
open Go.Proofs
open P
set_option linter.unusedVariables false
set_option linter.unusedSimpArgs false
set_option maxHeartbeats 4000000
set_option maxRecDepth 100000
theorem writes_any (op : Int) (w : World) : Calls Tryz.prog 37 #[.int .i64 op] w fun e w' => e = .returned (Value.bool (wrB op)) ∧ w' = w := by
  by_cases h0 : op = 51
  · subst h0
    go_enter Tryz.func37, Tryz.ntmps37
    go_wp2
    go_ret
    exact ⟨rfl, rfl⟩
  have g0 : (op == 51) = false := beq_eq_false_iff_ne.mpr h0
  by_cases h1 : op = 53
  · subst h1
    go_enter Tryz.func37, Tryz.ntmps37
    go_wp2
    go_ret
    exact ⟨rfl, rfl⟩
  have g1 : (op == 53) = false := beq_eq_false_iff_ne.mpr h1
  by_cases h2 : op = 54
  · subst h2
    go_enter Tryz.func37, Tryz.ntmps37
    go_wp2
    go_ret
    exact ⟨rfl, rfl⟩
  have g2 : (op == 54) = false := beq_eq_false_iff_ne.mpr h2
  by_cases h3 : op = 60
  · subst h3
    go_enter Tryz.func37, Tryz.ntmps37
    go_wp2
    go_ret
    exact ⟨rfl, rfl⟩
  have g3 : (op == 60) = false := beq_eq_false_iff_ne.mpr h3
  by_cases h4 : op = 62
  · subst h4
    go_enter Tryz.func37, Tryz.ntmps37
    go_wp2
    go_ret
    exact ⟨rfl, rfl⟩
  have g4 : (op == 62) = false := beq_eq_false_iff_ne.mpr h4
  by_cases h5 : op = 63
  · subst h5
    go_enter Tryz.func37, Tryz.ntmps37
    go_wp2
    go_ret
    exact ⟨rfl, rfl⟩
  have g5 : (op == 63) = false := beq_eq_false_iff_ne.mpr h5
  have e : Value.bool (wrB op) = Value.bool false := by unfold wrB; simp [h0, h1, h2, h3, h4, h5]
  rw [e]
  clear e
  go_enter Tryz.func37, Tryz.ntmps37
  go_wp2
  go_ret
  exact ⟨rfl, rfl⟩
theorem reads_any (op : Int) (w : World) : Calls Tryz.prog 40 #[.int .i64 op] w fun e w' => e = .returned (Value.bool (rdB op)) ∧ w' = w := by
  by_cases h0 : op = 50
  · subst h0
    go_enter Tryz.func40, Tryz.ntmps40
    go_wp2
    go_ret
    exact ⟨rfl, rfl⟩
  have g0 : (op == 50) = false := beq_eq_false_iff_ne.mpr h0
  by_cases h1 : op = 52
  · subst h1
    go_enter Tryz.func40, Tryz.ntmps40
    go_wp2
    go_ret
    exact ⟨rfl, rfl⟩
  have g1 : (op == 52) = false := beq_eq_false_iff_ne.mpr h1
  by_cases h2 : op = 54
  · subst h2
    go_enter Tryz.func40, Tryz.ntmps40
    go_wp2
    go_ret
    exact ⟨rfl, rfl⟩
  have g2 : (op == 54) = false := beq_eq_false_iff_ne.mpr h2
  by_cases h3 : op = 61
  · subst h3
    go_enter Tryz.func40, Tryz.ntmps40
    go_wp2
    go_ret
    exact ⟨rfl, rfl⟩
  have g3 : (op == 61) = false := beq_eq_false_iff_ne.mpr h3
  have e : Value.bool (rdB op) = Value.bool false := by unfold rdB; simp [h0, h1, h2, h3]
  rw [e]
  clear e
  go_enter Tryz.func40, Tryz.ntmps40
  go_wp2
  go_ret
  exact ⟨rfl, rfl⟩
theorem returned_any (op : Int) (w : World) : Calls Tryz.prog 39 #[.int .i64 op] w fun e w' => e = .returned (Value.int .i64 (rtN op)) ∧ w' = w := by
  by_cases h0 : op = 6
  · subst h0
    go_enter Tryz.func39, Tryz.ntmps39
    go_wp2
    go_ret
    exact ⟨rfl, rfl⟩
  have g0 : (op == 6) = false := beq_eq_false_iff_ne.mpr h0
  by_cases h1 : op = 55
  · subst h1
    go_enter Tryz.func39, Tryz.ntmps39
    go_wp2
    go_ret
    exact ⟨rfl, rfl⟩
  have g1 : (op == 55) = false := beq_eq_false_iff_ne.mpr h1
  by_cases h2 : op = 56
  · subst h2
    go_enter Tryz.func39, Tryz.ntmps39
    go_wp2
    go_ret
    exact ⟨rfl, rfl⟩
  have g2 : (op == 56) = false := beq_eq_false_iff_ne.mpr h2
  have e : Value.int .i64 (rtN op) = Value.int .i64 0 := by unfold rtN; simp [h0, h1, h2]
  rw [e]
  clear e
  go_enter Tryz.func39, Tryz.ntmps39
  go_wp2
  go_ret
  exact ⟨rfl, rfl⟩
theorem elemU : Tryz.prog.underlying 27 = some (.slice (Tryz.prog.elem 27)) := by kernel_rfl
theorem sizeU (W : World) : (sizeOf (Tryz.prog.elem 27)).run Tryz.prog W = .ok 1 W := by
  have e : Tryz.prog.elem 27 = 26 := by kernel_rfl
  rw [e]
  simp [sizeOf]
  rfl
theorem slice_toU (W : World) (p : Option Addr) (n cap h : Nat) (hc : h ≤ cap) : (Instr.sliceAt 27 (.slice p n cap) none (some (.int .i64 (h : Int))) none).run Tryz.prog W = .ok (.slice p h cap) W := by
  have e0 : Option.map (fun x : Addr => x.add 0) p = p := by cases p <;> simp [Addr.add]
  rw [run_sliceAt_slice W 27 _ _ _ _ elemU, run_slice_h W 27 p n cap elemU .i64 (h : Int) (by omega) (by omega), sizeU]
  simp [Result.andThen, sliced, e0]
theorem under_any (b : Nat) (i : Nat) (hi : i ≤ 10) (D : List Int) (w : World) (h : S.HasD w b D) : Calls Tryz.prog 35 #[.pointer (some ⟨b, 0, none⟩), .int .i64 (i : Int)] w fun e w' => ∃ p c, e = .returned (.slice p (D.length - i) c) ∧ S.RowU w' w.heap.size (.slice p D.length c) D ∧ Below w.heap.size w w' := by
  have hk := S.dcells b D w h
  have hl : D.length ≤ 256 := h.2
  have w1 : wrap64 ((D.length : Int) - (i : Int)) = (D.length : Int) - (i : Int) := by simp [wrap64]; omega
  have w2 : IntKind.i64.wrap ((D.length : Int) - (i : Int)) = (D.length : Int) - (i : Int) := S.i64_id _ (by omega) (by omega)
  clear h
  by_cases q : 0 < D.length - i
  · have f0 : decide ((0 : Int) < (D.length : Int) - (i : Int)) = true := decide_eq_true (by omega)
    have e1 : (D.length : Int) - (i : Int) = ((D.length - i : Nat) : Int) := by omega
    have nle : D.length - i ≤ D.length := by omega
    have E1 := S.hid e1
    clear e1
    go_enter Tryz.func35, Tryz.ntmps35
    go_wp2_with fail
    refine hk.mono ?_
    rintro e w3 ⟨u, rfl, hr, hb⟩
    obtain ⟨p, c, rfl, hc, hs⟩ := hr.ls.ex
    have HR := S.hid hr
    have HB := S.hid hb
    have sl := slice_toU w3 p D.length c (D.length - i) (by omega)
    rw [← E1.out] at sl
    clear hk hr hb hs
    go_wp2
    go_ret
    exact ⟨p, c, (by first | rfl | (rw [E1.out]; rfl) | (rw [E1.out]; simp)), HR.out, HB.out⟩
  · have f0 : decide ((0 : Int) < (D.length : Int) - (i : Int)) = false := decide_eq_false (by omega)
    have e1 : D.length - i = 0 := by omega
    rw [e1]
    have E1 := S.hid e1
    clear e1
    go_enter Tryz.func35, Tryz.ntmps35
    go_wp2_with fail
    refine hk.mono ?_
    rintro e w3 ⟨u, rfl, hr, hb⟩
    obtain ⟨p, c, rfl, hc, hs⟩ := hr.ls.ex
    have HB := S.hid hb
    have HR := S.hid hr
    have sl := slice_toU w3 p D.length c 0 (by omega)
    clear hk hr hb hs
    go_wp2
    go_ret
    exact ⟨p, c, rfl, HR.out, HB.out⟩
theorem neq_cellK (W : World) (k x : Int) : (binOp .neq 44 (.agg #[.int .i64 k, .int .u16 x]) (.agg #[.int .i64 k, .int .u16 x])).run Tryz.prog W = .ok (.bool false) W := by
  have hs : Tryz.prog.underlying 44 = some (.struct (Tryz.prog.fieldsOf 44)) := by kernel_rfl
  have hf : Tryz.prog.fieldsOf 44 = #[⟨ "Kind", 3, 0, false, "", "", 0⟩, ⟨ "Value", 26, 1, false, "", "", 8⟩] := by kernel_rfl
  have hp : Tryz.prog.stoodInHeld 44 = false := by kernel_rfl
  have k1 : Tryz.prog.cellsOf 26 = 1 := by kernel_rfl
  have k2 : Tryz.prog.cellsOf 3 = 1 := by kernel_rfl
  rw [run_neq_struct, run_equalIn_agg W 9999 _ _ _ hs hp, hf]
  simp [go_sem, Tryz.underlying26, Tryz.underlying3, k1, k2, Result.andThen]
theorem sameRet (p p' : Option Addr) (c c' : Nat) (l l' : List (Int × Int)) (n : Nat) (h1 : n ≤ l.length) (h2 : n ≤ l'.length) (hn : n ≤ 1000) (he : ∀ j, j < n → l[j]? = l'[j]?) (w : World) (h : S.Sl S.eK 2 w p l) (h' : S.Sl S.eK 2 w p' l') :
    Calls Tryz.prog 38 #[.slice p l.length c, .slice p' l'.length c', .int .i64 (n : Int)] w fun e w' => e = .returned (.bool true) ∧ ∃ q, w' = w.drewN q := by
  have f1 : decide ((l.length : Int) < (n : Int)) = false := decide_eq_false (by omega)
  have f2 : decide ((l'.length : Int) < (n : Int)) = false := decide_eq_false (by omega)
  have H := S.hid h
  have H' := S.hid h'
  have HE := S.hid he
  clear h h' he
  go_enter Tryz.func38, Tryz.ntmps38
  go_wp2
  go_loopw [7] (fun i wr => ∃ k q : Nat, k ≤ n ∧ i = .int .i64 (k : Int) ∧ wr = w.drewN q) (fun i _ => n - (intOf i).toNat)
  case atStart => exact ⟨0, 0, by omega, rfl, rfl⟩
  case round =>
    obtain ⟨k, q, hk, rfl, rfl⟩ := hrel
    by_cases hlt : k < n
    · have i0 : (k : Int) < (n : Int) := by omega
      have hlt1 : k < l.length := by omega
      have hlt2 : k < l'.length := by omega
      have i1 : (k : Int) < l.length := by omega
      have i2 : (k : Int) < l'.length := by omega
      obtain ⟨b, o, rfl, e1, e2⟩ := H.out.k k l[k] (List.getElem?_eq_getElem hlt1)
      obtain ⟨b', o', rfl, g1, g2⟩ := H'.out.k k l'[k] (List.getElem?_eq_getElem hlt2)
      have ee : l'[k] = l[k] := by have := HE.out k hlt; rw [List.getElem?_eq_getElem hlt1, List.getElem?_eq_getElem hlt2] at this; exact (Option.some.inj this).symm
      rw [ee] at g1 g2
      clear ee
      generalize l[k] = t at *
      obtain ⟨ta, tb⟩ := t
      have q1 : ∀ q, (w.drewN q).cell? ⟨b, o + k * 2, none⟩ = some (.int .i64 ta) := fun q => e1
      have q2 : ∀ q, (w.drewN q).cell? ⟨b, o + k * 2 + 1, none⟩ = some (.int .u16 tb) := fun q => e2
      have q3 : ∀ q, (w.drewN q).cell? ⟨b', o' + k * 2, none⟩ = some (.int .i64 ta) := fun q => g1
      have q4 : ∀ q, (w.drewN q).cell? ⟨b', o' + k * 2 + 1, none⟩ = some (.int .u16 tb) := fun q => g2
      have nq := neq_cellK
      clear e1 e2 g1 g2
      go_wp2_with fail
      go_quiet (fail)
      go_wp2
      go_roundw
      case rel =>
        first
          | exact ⟨k + 1, _, by omega, by go_num, rfl⟩
          | ((repeat apply Exists.intro); refine ⟨⟨k + 1, _, by omega, ?_, rfl⟩, rfl⟩; go_num)
      case measure => simp [intOf]; omega
    · have i0 : ¬ (k : Int) < (n : Int) := by omega
      go_wp2
      go_ret
      exact ⟨rfl, _, rfl⟩
end Go.Proofs.YtgponcjjnjpfkaaGreat.L
/-! PrimKeeps: a memory as text. -/
namespace Go.Proofs.YtgponcjjnjpfkaaGreat.L
open Go.RowKit
open Go.Proofs
open P
set_option linter.unusedVariables false
set_option linter.unusedSimpArgs false
set_option maxHeartbeats 4000000
set_option maxRecDepth 100000
def e8 (m : M.MS) : List UInt8 := [M.b8 m.ch, M.b8 m.pad, M.b8 m.pitch, M.b8 (m.pitch / 256), M.b8 m.vol, M.b8 m.time, M.b8 (m.time / 256), M.b8 (m.tones.length : Int)]
def ba (l : List UInt8) : ByteArray := ⟨l.toArray⟩
def bks : List (Int × List UInt8) → ByteArray → ByteArray
  | [], s => s
  | t :: r, s => bks r (s ++ ba t.2)
theorem bks_app (r : List (Int × List UInt8)) (t : Int × List UInt8) : ∀ s, bks (r ++ [t]) s = bks r s ++ ba t.2 := by
  induction r with
  | nil => intro s; rfl
  | cons a r ih => intro s; exact ih _
def imS (m : M.MS) : ByteArray := bks (M.inO m 16) (ba m.ram ++ ba m.scr ++ ba (e8 m))
theorem SlconvK {W : World} {v : Value} {l : List UInt8} (h : M.Sl W v l) : (convert 80 9 v).run Tryz.prog W = .ok (.string (ba l)) W := by
  rcases h with ⟨rfl, rfl⟩ | ⟨x, c, rfl, _, h⟩
  · rw [run_convert_bytes_string W 80 9 5 none 0 0 Tryz.underlying80 Tryz.underlying5 Tryz.underlying9]; rfl
  · exact run_convert_bytes_back (P := Tryz.prog) W 80 9 5 x c l Tryz.underlying80 Tryz.underlying5 Tryz.underlying9 (fun j hj => h j _ (by simp))
theorem formsK {W : World} {B : Nat} {u rv sv : Value} {bs : List (Int × List UInt8)} {ram scr : List UInt8} {gs : List (Nat × Nat)} {N1 N2 : Nat} (h : M.ImO W B u rv sv bs ram scr gs N1 N2) (hd : ∀ t ∈ bs, t.2.length ≤ M.room) :
    ∃ p c, u = .slice p bs.length c ∧ M.BnS W p bs ∧ M.Sl W rv ram ∧ M.Sl W sv scr := by
  obtain ⟨p, c, e, hb⟩ := h.banks.ex hd
  exact ⟨p, c, e, hb, h.ram.sl, h.scr.sl⟩
theorem bks_size : ∀ (r : List (Int × List UInt8)), (∀ t ∈ r, t.2.length ≤ 16384) → ∀ s : ByteArray, (bks r s).size ≤ s.size + 16384 * r.length
  | [], _, s => by simp [bks]
  | t :: r, h, s => by
    have ih := bks_size r (fun u hu => h u (List.mem_cons_of_mem _ hu)) (s ++ ba t.2)
    have ht := h t (List.mem_cons_self ..)
    have e : (ba t.2).size = t.2.length := rfl
    rw [ByteArray.size_append, e] at ih
    simp only [bks, List.length_cons]
    omega
theorem u8r {x : Int} (h0 : 0 ≤ x) (h1 : x < 256) : x = M.bt (M.b8 x) := by rw [M.bt_b8]; omega
theorem row8 (wt : World) (m : M.MS) (h : M.Wf m) : M.Sl (wt.alloc (.cells #[.int .u8 m.ch, .int .u8 m.pad, .int .u8 (IntKind.u8.wrap m.pitch), .int .u8 (IntKind.u8.wrap (m.pitch / 256)), .int .u8 m.vol, .int .u8 (IntKind.u8.wrap m.time), .int .u8 (IntKind.u8.wrap (m.time / 256)), .int .u8 (IntKind.u8.wrap (m.tones.length : Int))] 5)) (.slice (some ⟨wt.heap.size, 0, none⟩) 8 8) (e8 m) := by
  have e : #[.int .u8 m.ch, .int .u8 m.pad, .int .u8 (IntKind.u8.wrap m.pitch), .int .u8 (IntKind.u8.wrap (m.pitch / 256)), .int .u8 m.vol, .int .u8 (IntKind.u8.wrap m.time), .int .u8 (IntKind.u8.wrap (m.time / 256)), .int .u8 (IntKind.u8.wrap (m.tones.length : Int))] = ((e8 m).map fun b => Value.int .u8 (M.bt b)).toArray := by
    simp only [e8, List.map_cons, List.map_nil, M.u8_wrap, M.bt_b8]
    rw [Int.emod_eq_of_lt h.ch0 (by have := h.ch1; omega), Int.emod_eq_of_lt h.pad0 h.pad1, Int.emod_eq_of_lt h.vol0 h.vol1]
  rw [e]
  refine .inr ⟨⟨wt.heap.size, 0, none⟩, 8, rfl, Nat.le_refl _, fun j b hj => ?_⟩
  rw [Addr.add_lit]
  exact S.cell_of _ _ _ _ _ _ (heap_alloc_new wt _) (by rw [Nat.zero_add, List.getElem?_map, hj]; rfl)
theorem trBK {B : Nat} {w w1 w2 : World} (h : Below B w w1) (k : Below w1.heap.size w1 w2) (hs : B ≤ w1.heap.size) : Below B w w2 :=
  h.trans ⟨k.os, k.tape, k.output, k.size, fun i hi => k.block i (Nat.lt_of_lt_of_le hi hs)⟩
theorem below_cellK {W W' : World} (b : Below W.heap.size W W') : ∀ a u, W.cell? a = some u → W'.cell? a = some u := fun a u e => by rw [b.cell (World.block_lt_of_cell? W a e)]; exact e
theorem own_formK {w : World} {B : Nat} {e : TypeId} {size : Nat} {v : Value} {n : Nat} {xs : List Value} (h : w.ownsRow B e size v n xs) : ∃ p cap, v = .slice p n cap := by
  rcases h.2 with ⟨h, e⟩ | ⟨g, cap, cur, h1, _⟩
  · exact ⟨none, 0, by rw [h, e]⟩
  · exact ⟨_, cap, h1⟩
theorem mkRowK (w : World) (z c : Array Value) (t : TypeId) : (w.alloc (.cells z t)).heap[w.heap.size]? = some (.cells z t (0, 0)) ∧ ((w.alloc (.cells z t)).setRow w.heap.size c).heap[w.heap.size]? = some (.cells c t (0, 0)) ∧ Below w.heap.size w ((w.alloc (.cells z t)).setRow w.heap.size c) :=
  ⟨heap_alloc_new w _, setRow_heap _ _ _ _ _ _ (heap_alloc_new w _), P.Below.setRow (P.bel_alloc w _) _ (Nat.le_refl _) _⟩
theorem sizeI : (Tryz.prog.info? 123).map (·.size) = some 8 := by kernel_rfl
theorem image_any (b : Nat) (w : World) {F : Nat → Prop} {m : M.MS} (hm : M.HasM w F b m) (ht : m.tones.length ≤ 1000000) :
    Calls Tryz.prog 36 #[.pointer (some ⟨b, 0, none⟩)] w fun e w' => e = .returned (.string (imS m)) ∧ Below w.heap.size w w' := by
  have hwf := M.HasM.wf hm
  have k1 := M.image_has b w hm
  unfold M.imgC at k1
  have hil := M.inO_len m 16
  have HM := S.hid hm
  clear hm
  go_enter Tryz.func36, Tryz.ntmps36
  go_wp2_with fail
  refine k1.mono ?_
  rintro e w1 ⟨u, rv, sv, gs, N1, N2, rfl, hIm, h1⟩
  obtain ⟨ip, icap, rfl, hbn, hrm, hsm⟩ := formsK hIm (fun t ht => by have := M.inO_full m hwf 16 t ht; unfold M.room; omega)
  obtain ⟨rp, rc, rfl, _⟩ := hrm.ex
  obtain ⟨sp, sc', rfl, _⟩ := hsm.ex
  obtain ⟨z3, r3, b3⟩ := mkRowK w1 #[.slice none 0 0, .slice none 0 0, .slice none 0 0, .int .u8 0, .int .u8 0, .int .u16 0, .int .u8 0, .int .u16 0] #[.slice ip (M.inO m 16).length icap, .slice rp m.ram.length rc, .slice sp m.scr.length sc', .int .u8 m.ch, .int .u8 m.pad, .int .u16 m.pitch, .int .u8 m.vol, .int .u16 m.time] 123
  have HB3 := S.hid (trBK h1 b3 h1.size)
  have HBN := S.hid (M.BnS.below hbn b3)
  have HRM := S.hid (hrm.below b3)
  have HSM := S.hid (hsm.below b3)
  have HM3 := S.hid (HM.out.below (trBK h1 b3 h1.size))
  have HR3 := S.hid r3
  clear k1 hIm h1 hbn hrm hsm r3 b3 HM
  go_wp2_with (refine wpList_store_row rfl 123 _ _ rfl w1.heap.size _ rfl rfl 123 #[.slice none 0 0, .slice none 0 0, .slice none 0 0, .int .u8 0, .int .u8 0, .int .u16 0, .int .u8 0, .int .u16 0] z3 (by exact sizeI) (by rfl) (by simp [Value.oneCell']) ?_)
  generalize hW3 : ((w1.alloc (.cells #[.slice none 0 0, .slice none 0 0, .slice none 0 0, .int .u8 0, .int .u8 0, .int .u16 0, .int .u8 0, .int .u16 0] 123)).setRow w1.heap.size #[.slice ip (M.inO m 16).length icap, .slice rp m.ram.length rc, .slice sp m.scr.length sc', .int .u8 m.ch, .int .u8 m.pad, .int .u16 m.pitch, .int .u8 m.vol, .int .u16 m.time]) = W3 at *
  clear hW3 z3
  generalize hNN : w1.heap.size = NN at *
  have hS : ∀ W', Below W3.heap.size W3 W' → (fun w' : World => w'.cell? ⟨NN, 0, none⟩ = some (.slice ip (M.inO m 16).length icap) ∧ w'.cell? ⟨NN, 1, none⟩ = some (.slice rp m.ram.length rc) ∧ w'.cell? ⟨NN, 2, none⟩ = some (.slice sp m.scr.length sc') ∧ w'.cell? ⟨NN, 3, none⟩ = some (.int .u8 m.ch) ∧ w'.cell? ⟨NN, 4, none⟩ = some (.int .u8 m.pad) ∧ w'.cell? ⟨NN, 5, none⟩ = some (.int .u16 m.pitch) ∧ w'.cell? ⟨NN, 6, none⟩ = some (.int .u8 m.vol) ∧ w'.cell? ⟨NN, 7, none⟩ = some (.int .u16 m.time) ∧ (convert 80 9 (.slice rp m.ram.length rc)).run Tryz.prog w' = .ok (.string (ba m.ram)) w' ∧ (convert 80 9 (.slice sp m.scr.length sc')).run Tryz.prog w' = .ok (.string (ba m.scr)) w') W' := fun W' hb => ⟨below_cellK hb _ _ (S.cell_of W3 _ 0 [.slice ip (M.inO m 16).length icap, .slice rp m.ram.length rc, .slice sp m.scr.length sc', .int .u8 m.ch, .int .u8 m.pad, .int .u16 m.pitch, .int .u8 m.vol, .int .u16 m.time] _ _ HR3.out rfl), below_cellK hb _ _ (S.cell_of W3 _ 1 [.slice ip (M.inO m 16).length icap, .slice rp m.ram.length rc, .slice sp m.scr.length sc', .int .u8 m.ch, .int .u8 m.pad, .int .u16 m.pitch, .int .u8 m.vol, .int .u16 m.time] _ _ HR3.out rfl), below_cellK hb _ _ (S.cell_of W3 _ 2 [.slice ip (M.inO m 16).length icap, .slice rp m.ram.length rc, .slice sp m.scr.length sc', .int .u8 m.ch, .int .u8 m.pad, .int .u16 m.pitch, .int .u8 m.vol, .int .u16 m.time] _ _ HR3.out rfl), below_cellK hb _ _ (S.cell_of W3 _ 3 [.slice ip (M.inO m 16).length icap, .slice rp m.ram.length rc, .slice sp m.scr.length sc', .int .u8 m.ch, .int .u8 m.pad, .int .u16 m.pitch, .int .u8 m.vol, .int .u16 m.time] _ _ HR3.out rfl), below_cellK hb _ _ (S.cell_of W3 _ 4 [.slice ip (M.inO m 16).length icap, .slice rp m.ram.length rc, .slice sp m.scr.length sc', .int .u8 m.ch, .int .u8 m.pad, .int .u16 m.pitch, .int .u8 m.vol, .int .u16 m.time] _ _ HR3.out rfl), below_cellK hb _ _ (S.cell_of W3 _ 5 [.slice ip (M.inO m 16).length icap, .slice rp m.ram.length rc, .slice sp m.scr.length sc', .int .u8 m.ch, .int .u8 m.pad, .int .u16 m.pitch, .int .u8 m.vol, .int .u16 m.time] _ _ HR3.out rfl), below_cellK hb _ _ (S.cell_of W3 _ 6 [.slice ip (M.inO m 16).length icap, .slice rp m.ram.length rc, .slice sp m.scr.length sc', .int .u8 m.ch, .int .u8 m.pad, .int .u16 m.pitch, .int .u8 m.vol, .int .u16 m.time] _ _ HR3.out rfl), below_cellK hb _ _ (S.cell_of W3 _ 7 [.slice ip (M.inO m 16).length icap, .slice rp m.ram.length rc, .slice sp m.scr.length sc', .int .u8 m.ch, .int .u8 m.pad, .int .u16 m.pitch, .int .u8 m.vol, .int .u16 m.time] _ _ HR3.out rfl), SlconvK (HRM.out.below hb), SlconvK (HSM.out.below hb)⟩
  have HS := S.hid hS
  have bdr : Below W3.heap.size W3 W3.drew := ⟨rfl, rfl, rfl, Nat.le_refl _, fun _ _ => rfl⟩
  have s0 := hS _ bdr
  have kt := M.tones_any b W3.drew (HM3.out.below bdr) ht
  have HBd := S.hid bdr
  clear hS bdr
  have zz1 : (ba m.ram).size = 16384 := hwf.ram
  have zz2 : (ba m.scr).size = 3072 := hwf.scr
  have zz3 : (ba (e8 m)).size = 8 := rfl
  try simp only [Act.put, List.setIfInBounds_toArray, List.set_cons_zero, List.set_cons_succ]
  go_cut [4] (fun s4 wc => s4 = .string (ba m.ram ++ ba m.scr ++ ba (e8 m)) ∧ Below W3.heap.size W3 wc)
  case first =>
    refine wp_region_held_drew (S := (fun w' : World => w'.cell? ⟨NN, 0, none⟩ = some (.slice ip (M.inO m 16).length icap) ∧ w'.cell? ⟨NN, 1, none⟩ = some (.slice rp m.ram.length rc) ∧ w'.cell? ⟨NN, 2, none⟩ = some (.slice sp m.scr.length sc') ∧ w'.cell? ⟨NN, 3, none⟩ = some (.int .u8 m.ch) ∧ w'.cell? ⟨NN, 4, none⟩ = some (.int .u8 m.pad) ∧ w'.cell? ⟨NN, 5, none⟩ = some (.int .u16 m.pitch) ∧ w'.cell? ⟨NN, 6, none⟩ = some (.int .u8 m.vol) ∧ w'.cell? ⟨NN, 7, none⟩ = some (.int .u16 m.time) ∧ (convert 80 9 (.slice rp m.ram.length rc)).run Tryz.prog w' = .ok (.string (ba m.ram)) w' ∧ (convert 80 9 (.slice sp m.scr.length sc')).run Tryz.prog w' = .ok (.string (ba m.scr)) w')) (by kernel_rfl) s0 (fun hHeld => ?_)
    refine wpAnyH_take (i := 0) (v := ?_) rfl (by kernel_rfl) (by kernel_rfl) (by kernel_rfl) (fun c a w h => h) (Or.inl ⟨by rfl, ?_⟩) hHeld ?_
    rotate_left
    · (intro w hSw; (try dsimp only at hSw); go_simp; try with_reducible rfl)
    simp only [Act.put, List.getElem_toArray, List.getElem_cons_zero, List.getElem_cons_succ, List.setIfInBounds_toArray, List.set_cons_zero, List.set_cons_succ]
    refine wpAnyH_take (i := 1) (v := ?_) rfl (by kernel_rfl) (by kernel_rfl) (by kernel_rfl) (fun c a w h => h) (Or.inl ⟨by rfl, ?_⟩) hHeld ?_
    rotate_left
    · (intro w hSw; (try dsimp only at hSw); go_simp; try with_reducible rfl)
    simp only [Act.put, List.getElem_toArray, List.getElem_cons_zero, List.getElem_cons_succ, List.setIfInBounds_toArray, List.set_cons_zero, List.set_cons_succ]
    refine wpAnyH_take (i := 2) (v := ?_) rfl (by kernel_rfl) (by kernel_rfl) (by kernel_rfl) (fun c a w h => h) (Or.inl ⟨by rfl, ?_⟩) hHeld ?_
    rotate_left
    · (intro w hSw; (try dsimp only at hSw); go_simp; try with_reducible rfl)
    simp only [Act.put, List.getElem_toArray, List.getElem_cons_zero, List.getElem_cons_succ, List.setIfInBounds_toArray, List.set_cons_zero, List.set_cons_succ]
    refine wpAnyH_take (i := 3) (v := ?_) rfl (by kernel_rfl) (by kernel_rfl) (by kernel_rfl) (fun c a w h => h) (Or.inl ⟨by rfl, ?_⟩) hHeld ?_
    rotate_left
    · (intro w hSw; (try dsimp only at hSw); go_simp; try with_reducible rfl)
    simp only [Act.put, List.getElem_toArray, List.getElem_cons_zero, List.getElem_cons_succ, List.setIfInBounds_toArray, List.set_cons_zero, List.set_cons_succ]
    refine wpAnyH_take (i := 4) (v := ?_) rfl (by kernel_rfl) (by kernel_rfl) (by kernel_rfl) (fun c a w h => h) (Or.inl ⟨by rfl, ?_⟩) hHeld ?_
    rotate_left
    · (intro w hSw; (try dsimp only at hSw); go_simp; try with_reducible rfl)
    simp only [Act.put, List.getElem_toArray, List.getElem_cons_zero, List.getElem_cons_succ, List.setIfInBounds_toArray, List.set_cons_zero, List.set_cons_succ]
    refine wpAnyH_take (i := 5) (v := ?_) rfl (by kernel_rfl) (by kernel_rfl) (by kernel_rfl) (fun c a w h => h) (Or.inl ⟨by rfl, ?_⟩) hHeld ?_
    rotate_left
    · (intro w hSw; (try dsimp only at hSw); go_simp; try with_reducible rfl)
    simp only [Act.put, List.getElem_toArray, List.getElem_cons_zero, List.getElem_cons_succ, List.setIfInBounds_toArray, List.set_cons_zero, List.set_cons_succ]
    refine wpAnyH_take (i := 6) (v := ?_) rfl (by kernel_rfl) (by kernel_rfl) (by kernel_rfl) (fun c a w h => h) (Or.inl ⟨by rfl, ?_⟩) hHeld ?_
    rotate_left
    · (intro w hSw; (try dsimp only at hSw); go_simp; try with_reducible rfl)
    simp only [Act.put, List.getElem_toArray, List.getElem_cons_zero, List.getElem_cons_succ, List.setIfInBounds_toArray, List.set_cons_zero, List.set_cons_succ]
    refine wpAnyH_take (i := 7) (v := ?_) rfl (by kernel_rfl) (by kernel_rfl) (by kernel_rfl) (fun c a w h => h) (Or.inl ⟨by rfl, ?_⟩) hHeld ?_
    rotate_left
    · (intro w hSw; (try dsimp only at hSw); go_simp; try with_reducible rfl)
    simp only [Act.put, List.getElem_toArray, List.getElem_cons_zero, List.getElem_cons_succ, List.setIfInBounds_toArray, List.set_cons_zero, List.set_cons_succ]
    refine wpAnyH_take (i := 8) (v := ?_) rfl (by kernel_rfl) (by kernel_rfl) (by kernel_rfl) (fun c a w h => h) (Or.inl ⟨by rfl, ?_⟩) hHeld ?_
    rotate_left
    · (intro w hSw; (try dsimp only at hSw); go_simp; try with_reducible rfl)
    simp only [Act.put, List.getElem_toArray, List.getElem_cons_zero, List.getElem_cons_succ, List.setIfInBounds_toArray, List.set_cons_zero, List.set_cons_succ]
    refine wpAnyH_take (i := 9) (v := ?_) rfl (by kernel_rfl) (by kernel_rfl) (by kernel_rfl) (fun c a w h => h) (Or.inl ⟨by rfl, ?_⟩) hHeld ?_
    rotate_left
    · (intro w hSw; (try dsimp only at hSw); go_simp; try with_reducible rfl)
    simp only [Act.put, List.getElem_toArray, List.getElem_cons_zero, List.getElem_cons_succ, List.setIfInBounds_toArray, List.set_cons_zero, List.set_cons_succ]
    refine wpAnyH_take (i := 10) (v := ?_) rfl (by kernel_rfl) (by kernel_rfl) (by kernel_rfl) (fun c a w h => h) (Or.inl ⟨by rfl, ?_⟩) hHeld ?_
    rotate_left
    · (intro w hSw; (try dsimp only at hSw); go_simp; try with_reducible rfl)
    simp only [Act.put, List.getElem_toArray, List.getElem_cons_zero, List.getElem_cons_succ, List.setIfInBounds_toArray, List.set_cons_zero, List.set_cons_succ]
    refine wpAnyH_take (i := 11) (v := ?_) rfl (by kernel_rfl) (by kernel_rfl) (by kernel_rfl) (fun c a w h => h) (Or.inl ⟨by rfl, ?_⟩) hHeld ?_
    rotate_left
    · (intro w hSw; (try dsimp only at hSw); go_simp; try with_reducible rfl)
    simp only [Act.put, List.getElem_toArray, List.getElem_cons_zero, List.getElem_cons_succ, List.setIfInBounds_toArray, List.set_cons_zero, List.set_cons_succ]
    refine wpAnyH_take (i := 12) (v := ?_) rfl (by kernel_rfl) (by kernel_rfl) (by kernel_rfl) (fun c a w h => h) (Or.inl ⟨by rfl, ?_⟩) hHeld ?_
    rotate_left
    · (intro w hSw; (try dsimp only at hSw); go_simp; try with_reducible rfl)
    simp only [Act.put, List.getElem_toArray, List.getElem_cons_zero, List.getElem_cons_succ, List.setIfInBounds_toArray, List.set_cons_zero, List.set_cons_succ]
    refine wpAnyH_take (i := 13) (v := ?_) rfl (by kernel_rfl) (by kernel_rfl) (by kernel_rfl) (fun c a w h => h) (Or.inl ⟨by rfl, ?_⟩) hHeld ?_
    rotate_left
    · (intro w hSw; (try dsimp only at hSw); go_simp; try with_reducible rfl)
    simp only [Act.put, List.getElem_toArray, List.getElem_cons_zero, List.getElem_cons_succ, List.setIfInBounds_toArray, List.set_cons_zero, List.set_cons_succ]
    refine wpAnyH_take (i := 14) (v := ?_) rfl (by kernel_rfl) (by kernel_rfl) (by kernel_rfl) (fun c a w h => h) (Or.inl ⟨by rfl, ?_⟩) hHeld ?_
    rotate_left
    · (intro w hSw; (try dsimp only at hSw); go_simp; try with_reducible rfl)
    simp only [Act.put, List.getElem_toArray, List.getElem_cons_zero, List.getElem_cons_succ, List.setIfInBounds_toArray, List.set_cons_zero, List.set_cons_succ]
    refine wpAnyH_take (i := 15) (v := ?_) rfl (by kernel_rfl) (by kernel_rfl) (by kernel_rfl) (fun c a w h => h) (Or.inl ⟨by rfl, ?_⟩) hHeld ?_
    rotate_left
    · (intro w hSw; (try dsimp only at hSw); go_simp; try with_reducible rfl)
    simp only [Act.put, List.getElem_toArray, List.getElem_cons_zero, List.getElem_cons_succ, List.setIfInBounds_toArray, List.set_cons_zero, List.set_cons_succ]
    refine wpAnyH_take (i := 16) (v := ?_) rfl (by kernel_rfl) (by kernel_rfl) (by kernel_rfl) (fun c a w h => h) (Or.inl ⟨by rfl, ?_⟩) hHeld ?_
    rotate_left
    · (intro w hSw; (try dsimp only at hSw); go_simp; try with_reducible rfl)
    simp only [Act.put, List.getElem_toArray, List.getElem_cons_zero, List.getElem_cons_succ, List.setIfInBounds_toArray, List.set_cons_zero, List.set_cons_succ]
    refine wpAnyH_take (i := 17) (v := ?_) rfl (by kernel_rfl) (by kernel_rfl) (by kernel_rfl) (fun c a w h => h) (Or.inl ⟨by rfl, ?_⟩) hHeld ?_
    rotate_left
    · (intro w hSw; (try dsimp only at hSw); go_simp; try with_reducible rfl)
    simp only [Act.put, List.getElem_toArray, List.getElem_cons_zero, List.getElem_cons_succ, List.setIfInBounds_toArray, List.set_cons_zero, List.set_cons_succ]
    refine wpAnyH_take (i := 18) (v := ?_) rfl (by kernel_rfl) (by kernel_rfl) (by kernel_rfl) (fun c a w h => h) (Or.inl ⟨by rfl, ?_⟩) hHeld ?_
    rotate_left
    · (intro w hSw; (try dsimp only at hSw); go_simp; try with_reducible rfl)
    simp only [Act.put, List.getElem_toArray, List.getElem_cons_zero, List.getElem_cons_succ, List.setIfInBounds_toArray, List.set_cons_zero, List.set_cons_succ]
    refine wpAnyH_take (i := 19) (v := ?_) rfl (by kernel_rfl) (by kernel_rfl) (by kernel_rfl) (fun c a w h => h) (Or.inl ⟨by rfl, ?_⟩) hHeld ?_
    rotate_left
    · (intro w hSw; (try dsimp only at hSw); go_simp; try with_reducible rfl)
    simp only [Act.put, List.getElem_toArray, List.getElem_cons_zero, List.getElem_cons_succ, List.setIfInBounds_toArray, List.set_cons_zero, List.set_cons_succ]
    refine wpAnyH_take (i := 20) (v := ?_) rfl (by kernel_rfl) (by kernel_rfl) (by kernel_rfl) (fun c a w h => h) (Or.inl ⟨by rfl, ?_⟩) hHeld ?_
    rotate_left
    · (intro w hSw; (try dsimp only at hSw); go_simp; try with_reducible rfl)
    simp only [Act.put, List.getElem_toArray, List.getElem_cons_zero, List.getElem_cons_succ, List.setIfInBounds_toArray, List.set_cons_zero, List.set_cons_succ]
    refine wpAnyH_take (i := 21) (v := ?_) rfl (by kernel_rfl) (by kernel_rfl) (by kernel_rfl) (fun c a w h => h) (Or.inl ⟨by rfl, ?_⟩) hHeld ?_
    rotate_left
    · (intro w hSw; (try dsimp only at hSw); go_simp; try with_reducible rfl)
    simp only [Act.put, List.getElem_toArray, List.getElem_cons_zero, List.getElem_cons_succ, List.setIfInBounds_toArray, List.set_cons_zero, List.set_cons_succ]
    refine wpAnyH_take (i := 22) (v := ?_) rfl (by kernel_rfl) (by kernel_rfl) (by kernel_rfl) (fun c a w h => h) (Or.inl ⟨by rfl, ?_⟩) hHeld ?_
    rotate_left
    · (intro w hSw; (try dsimp only at hSw); go_simp; try with_reducible rfl)
    simp only [Act.put, List.getElem_toArray, List.getElem_cons_zero, List.getElem_cons_succ, List.setIfInBounds_toArray, List.set_cons_zero, List.set_cons_succ]
    refine wpAnyH_take (i := 23) (v := ?_) rfl (by kernel_rfl) (by kernel_rfl) (by kernel_rfl) (fun c a w h => h) (Or.inl ⟨by rfl, ?_⟩) hHeld ?_
    rotate_left
    · (intro w hSw; (try dsimp only at hSw); go_simp; try with_reducible rfl)
    simp only [Act.put, List.getElem_toArray, List.getElem_cons_zero, List.getElem_cons_succ, List.setIfInBounds_toArray, List.set_cons_zero, List.set_cons_succ]
    refine wpAnyH_take (i := 24) (v := ?_) rfl (by kernel_rfl) (by kernel_rfl) (by kernel_rfl) (fun c a w h => h) (Or.inl ⟨by rfl, ?_⟩) hHeld ?_
    rotate_left
    · (intro w hSw; (try dsimp only at hSw); go_simp; try with_reducible rfl)
    simp only [Act.put, List.getElem_toArray, List.getElem_cons_zero, List.getElem_cons_succ, List.setIfInBounds_toArray, List.set_cons_zero, List.set_cons_succ]
    refine wpAnyH_take (i := 25) (v := ?_) rfl (by kernel_rfl) (by kernel_rfl) (by kernel_rfl) (fun c a w h => h) (Or.inl ⟨by rfl, ?_⟩) hHeld ?_
    rotate_left
    · (intro w hSw; (try dsimp only at hSw); go_simp; try with_reducible rfl)
    simp only [Act.put, List.getElem_toArray, List.getElem_cons_zero, List.getElem_cons_succ, List.setIfInBounds_toArray, List.set_cons_zero, List.set_cons_succ]
    refine wpAnyH_take (i := 26) (v := ?_) rfl (by kernel_rfl) (by kernel_rfl) (by kernel_rfl) (fun c a w h => h) (Or.inl ⟨by rfl, ?_⟩) hHeld ?_
    rotate_left
    · (intro w hSw; (try dsimp only at hSw); go_simp; try with_reducible rfl)
    simp only [Act.put, List.getElem_toArray, List.getElem_cons_zero, List.getElem_cons_succ, List.setIfInBounds_toArray, List.set_cons_zero, List.set_cons_succ]
    refine wpAnyH_take (i := 27) (v := ?_) rfl (by kernel_rfl) (by kernel_rfl) (by kernel_rfl) (fun c a w h => h) (Or.inl ⟨by rfl, ?_⟩) hHeld ?_
    rotate_left
    · (intro w hSw; (try dsimp only at hSw); go_simp; try with_reducible rfl)
    simp only [Act.put, List.getElem_toArray, List.getElem_cons_zero, List.getElem_cons_succ, List.setIfInBounds_toArray, List.set_cons_zero, List.set_cons_succ]
    refine wpAnyH_ready (rs := [28]) (by kernel_rfl) (by simp) ?_
    refine AllReadyH.cons rfl (fun K hK => ?_) AllReadyH.nil
    go_simp
    refine kt.mono ?_
    rintro e wt ⟨ut, rfl, rt, hbt⟩
    obtain ⟨tp, tc, rfl⟩ := own_formK rt
    have HBt := S.hid (trBK HBd.out hbt HBd.out.size)
    have st := HS.out wt HBt.out
    clear kt rt hbt
    refine hK.out _ _ st (fun hHeld => ?_)
    clear hK K
    refine wpAnyH_take (i := 29) (v := ?_) rfl (by kernel_rfl) (by kernel_rfl) (by kernel_rfl) (fun c a w h => h) (Or.inl ⟨by rfl, ?_⟩) hHeld ?_
    rotate_left
    · (intro w hSw; (try dsimp only at hSw); go_simp; try with_reducible rfl)
    simp only [Act.put, List.getElem_toArray, List.getElem_cons_zero, List.getElem_cons_succ, List.setIfInBounds_toArray, List.set_cons_zero, List.set_cons_succ]
    refine wpAnyH_take (i := 30) (v := ?_) rfl (by kernel_rfl) (by kernel_rfl) (by kernel_rfl) (fun c a w h => h) (Or.inl ⟨by rfl, ?_⟩) hHeld ?_
    rotate_left
    · (intro w hSw; (try dsimp only at hSw); go_simp; try with_reducible rfl)
    simp only [Act.put, List.getElem_toArray, List.getElem_cons_zero, List.getElem_cons_succ, List.setIfInBounds_toArray, List.set_cons_zero, List.set_cons_succ]
    refine wpAnyH_ready (rs := [31]) (by kernel_rfl) (by simp) ?_
    refine AllReadyH.cons rfl (fun K hK => ?_) AllReadyH.nil
    go_simp
    have hb9 := P.bel_alloc wt (.cells #[.int .u8 m.ch, .int .u8 m.pad, .int .u8 (IntKind.u8.wrap m.pitch), .int .u8 (IntKind.u8.wrap (m.pitch / 256)), .int .u8 m.vol, .int .u8 (IntKind.u8.wrap m.time), .int .u8 (IntKind.u8.wrap (m.time / 256)), .int .u8 (IntKind.u8.wrap (m.tones.length : Int))] 5)
    have cv8 := SlconvK (row8 wt m hwf)
    have HB9 := S.hid (trBK HBt.out hb9 HBt.out.size)
    have s9 := HS.out _ HB9.out
    generalize wt.alloc (.cells #[.int .u8 m.ch, .int .u8 m.pad, .int .u8 (IntKind.u8.wrap m.pitch), .int .u8 (IntKind.u8.wrap (m.pitch / 256)), .int .u8 m.vol, .int .u8 (IntKind.u8.wrap m.time), .int .u8 (IntKind.u8.wrap (m.time / 256)), .int .u8 (IntKind.u8.wrap (m.tones.length : Int))] 5) = w9 at *
    generalize wt.heap.size = b9 at *
    refine hK.out _ _ s9 (fun hHeld => ?_)
    clear hK K hb9 st
    try simp only [Act.put, List.getElem_toArray, List.getElem_cons_zero, List.getElem_cons_succ, List.setIfInBounds_toArray, List.set_cons_zero, List.set_cons_succ]
    refine wpAnyH_ready (rs := [32]) (by kernel_rfl) (by simp) ?_
    refine AllReadyH.cons rfl (fun K hK => ?_) AllReadyH.nil
    go_simp
    refine hK.out _ _ s9 (fun hHeld => ?_)
    clear hK K
    refine wpAnyH_take (i := 33) (v := ?_) rfl (by kernel_rfl) (by kernel_rfl) (by kernel_rfl) (fun c a w h => h) (Or.inl ⟨by rfl, ?_⟩) hHeld ?_
    rotate_left
    · (intro w hSw; (try dsimp only at hSw); go_simp; try with_reducible rfl)
    simp only [Act.put, List.getElem_toArray, List.getElem_cons_zero, List.getElem_cons_succ, List.setIfInBounds_toArray, List.set_cons_zero, List.set_cons_succ]
    refine wpAnyH_ready (rs := [34]) (by kernel_rfl) (by simp) ?_
    refine AllReadyH.cons rfl (fun K hK => ?_) AllReadyH.nil
    go_simp
    refine hK.out _ _ s9 (fun hHeld => ?_)
    clear hK K
    refine wpAnyH_done (by kernel_rfl) ?_ _
    clear hHeld
    try simp only [Act.put, List.getElem_toArray, List.getElem_cons_zero, List.getElem_cons_succ, List.setIfInBounds_toArray, List.set_cons_zero, List.set_cons_succ]
    go_wp2
    go_meet
    case rel => exact ⟨rfl, HB9.out⟩
  case rest =>
    obtain ⟨rfl, hcut⟩ := hcut
    have HBc := S.hid hcut
    have HBNc := S.hid (M.BnS.below HBN.out hcut)
    have y0 := below_cellK hcut _ _ (S.cell_of W3 _ 0 [.slice ip (M.inO m 16).length icap, .slice rp m.ram.length rc, .slice sp m.scr.length sc', .int .u8 m.ch, .int .u8 m.pad, .int .u16 m.pitch, .int .u8 m.vol, .int .u16 m.time] _ _ HR3.out rfl)
    have hfu := M.inO_full m hwf 16
    have hz0 : (ba m.ram ++ ba m.scr ++ ba (e8 m)).size = 19464 := by rw [ByteArray.size_append, ByteArray.size_append, zz1, zz2, zz3]
    have hbs : ∀ k, (bks ((M.inO m 16).take k) (ba m.ram ++ ba m.scr ++ ba (e8 m))).size ≤ 19464 + 16384 * ((M.inO m 16).take k).length := fun k => by
      have := bks_size ((M.inO m 16).take k) (fun t ht => Nat.le_of_eq (hfu t (List.mem_of_mem_take ht))) (ba m.ram ++ ba m.scr ++ ba (e8 m))
      rw [hz0] at this; exact this
    have him : imS m = bks (M.inO m 16) (ba m.ram ++ ba m.scr ++ ba (e8 m)) := rfl
    have hk0 : bks ((M.inO m 16).take 0) (ba m.ram ++ ba m.scr ++ ba (e8 m)) = ba m.ram ++ ba m.scr ++ ba (e8 m) := rfl
    generalize ba m.ram ++ ba m.scr ++ ba (e8 m) = s0' at *
    generalize M.inO m 16 = bs at *
    have HBS := S.hid hbs
    have HFU := S.hid hfu
    have HK0 := S.hid hk0
    have HIM := S.hid him
    clear hcut HS s0 kt HBd HM3 HBN HRM HSM HR3 hbs hfu hk0 him hz0 zz1 zz2 zz3
    go_wp2
    go_loopw [4, 5] (fun s i wq => ∃ k : Nat, k ≤ bs.length ∧ i = .int .i64 (k : Int) ∧ s = .string (bks (bs.take k) s0') ∧ wq = wc) (fun _ i _ => bs.length - (intOf i).toNat)
    case atStart => exact ⟨0, by omega, rfl, by rw [HK0.out], rfl⟩
    case round =>
      obtain ⟨k, hk, rfl, rfl, rfl⟩ := hrel
      by_cases hlt : k < bs.length
      · have i1 : (k : Int) < bs.length := by omega
        obtain ⟨bb, o, dv, rfl, _, e3, e4, _⟩ := HBNc.out k bs[k] (List.getElem?_eq_getElem hlt)
        have cv := SlconvK e4
        obtain ⟨dp, dc, rfl, _⟩ := e4.ex
        have hsz : (ba (bs[k]).2).size = 16384 := HFU.out _ (List.getElem_mem hlt)
        have hbz := HBS.out k
        have hlk : (bs.take k).length ≤ 16 := by simp; omega
        have fz : ¬ (9223372036854775807 < (bks (bs.take k) s0').size + (ba (bs[k]).2).size) := by omega
        have enx : bks (bs.take (k + 1)) s0' = bks (bs.take k) s0' ++ ba (bs[k]).2 := by rw [List.take_succ_eq_append_getElem hlt, bks_app]
        have ENX := S.hid enx
        have w1' : wrap64 ((k : Int) + 1) = ((k + 1 : Nat) : Int) := by simp [wrap64]; omega
        clear e4 hsz hbz hlk enx
        generalize bks (bs.take k) s0' = sk at *
        generalize ba (bs[k]).2 = tk at *
        generalize (bs[k]).2.length = tl at *
        go_wp2
        go_roundw
        case rel =>
          refine ⟨k + 1, hlt, ?_, ?_, ?_⟩
          · first | rfl | rw [w1']
          · rw [ENX.out]
          · first | trivial | rfl
        case measure => simp [intOf]; omega
      · obtain rfl : bs.length = k := by omega
        have i1 : ¬ (bs.length : Int) < bs.length := by omega
        go_wp2
        go_ret
        rw [HIM.out]
        exact ⟨rfl, trBK HB3.out HBc.out HB3.out.size⟩
end Go.Proofs.YtgponcjjnjpfkaaGreat.L
/-! PrimKeeps: what the walk holds. -/
namespace Go.Proofs.YtgponcjjnjpfkaaGreat.L
open Go.RowKit
open Go.Proofs
open P
set_option linter.unusedVariables false
set_option linter.unusedSimpArgs false
set_option maxHeartbeats 4000000
set_option maxRecDepth 100000
theorem bel2 {W a b : World} (h : Below W.heap.size W a) (k : Below a.heap.size a b) : Below W.heap.size W b := h.trans (k.mono h.size)
theorem msrK (n : Nat) (a b : Value) (k : Nat) (ha : a = .int .i64 ((k + 1 : Nat) : Int)) (hb : b = .int .i64 (k : Int)) (h : k < n) : n - (intOf a).toNat < n - (intOf b).toNat := by
  subst ha hb; simp only [intOf, Int.toNat_natCast]; omega
theorem own_ltK {w : World} {B : Nat} {e : TypeId} {size : Nat} {v : Value} {n : Nat} {xs : List Value} (h : w.ownsRow B e size v n xs) (k : Nat) (hk : v.ownBlock = some k) : B ≤ k ∧ k < w.heap.size := by
  rcases h.2 with ⟨rfl, _⟩ | ⟨g, cap, cur, rfl, h2, h3, _⟩
  · simp [Value.ownBlock] at hk
  · simp [Value.ownBlock] at hk; subst hk; exact ⟨h2, S.lt_of h3⟩
structure KQ (W0 W : World) (X : Nat → Prop) (B g bd br bm : Nat) (F : Nat → Prop) (D : List Int) (R : List (Int × Int)) (m : M.MS) (g' bd' br' bm' : Nat) (F' : Nat → Prop) (D' : List Int) (R' : List (Int × Int)) (m' : M.MS) : Prop where
  kp : KP W B g bd br bm F D R m g' bd' br' bm' F' D' R' m'
  nt : ∀ k, X k → ¬ TQ g bd br F k ∧ ¬ TQ g' bd' br' F' k
  ke : ∀ k, X k → W.heap[k]? = W0.heap[k]?
  xs : ∀ k, X k → k < W0.heap.size
  sz : W0.heap.size ≤ W.heap.size
section
variable {W0 W W' : World} {X : Nat → Prop} {B g bd br bm : Nat} {F : Nat → Prop} {D D1 : List Int} {R R1 : List (Int × Int)} {m m1 : M.MS} {g' bd' br' bm' : Nat} {F' : Nat → Prop} {D' : List Int} {R' : List (Int × Int)} {m' : M.MS}
theorem KQ.below (h : KQ W0 W X B g bd br bm F D R m g' bd' br' bm' F' D' R' m') (k : Below W.heap.size W W') : KQ W0 W' X B g bd br bm F D R m g' bd' br' bm' F' D' R' m' :=
  ⟨h.kp.below k, h.nt, fun i e => (k.block i (Nat.lt_of_lt_of_le (h.xs i e) h.sz)).trans (h.ke i e), h.xs, Nat.le_trans h.sz k.size⟩
theorem KQ.left (h : KQ W0 W X B g bd br bm F D R m g' bd' br' bm' F' D' R' m') (k : PD W W' bd br bm F D1 R1 m1) : KQ W0 W' X B g bd br bm (M.gr F W W') D1 R1 m1 g' bd' br' bm' F' D' R' m' :=
  ⟨h.kp.left k, fun i e => ⟨fun f => by
      rcases tq_gr f with q | q
      · exact (h.nt i e).1 q
      · have := h.xs i e; have := h.sz; omega, (h.nt i e).2⟩,
    fun i e => (k.t.block i (Nat.lt_of_lt_of_le (h.xs i e) h.sz) fun f => (h.nt i e).1 (tp_tq f)).trans (h.ke i e), h.xs, Nat.le_trans h.sz k.t.size⟩
theorem KQ.right (h : KQ W0 W X B g bd br bm F D R m g' bd' br' bm' F' D' R' m') (k : PD W W' bd' br' bm' F' D1 R1 m1) : KQ W0 W' X B g bd br bm F D R m g' bd' br' bm' (M.gr F' W W') D1 R1 m1 :=
  ⟨h.kp.right k, fun i e => ⟨(h.nt i e).1, fun f => by
      rcases tq_gr f with q | q
      · exact (h.nt i e).2 q
      · have := h.xs i e; have := h.sz; omega⟩,
    fun i e => (k.t.block i (Nat.lt_of_lt_of_le (h.xs i e) h.sz) fun f => (h.nt i e).2 (tp_tq f)).trans (h.ke i e), h.xs, Nat.le_trans h.sz k.t.size⟩
/-- One block, new beside both. -/
theorem KQ.one {W1 : World} (h : KP W1 B g bd br bm F D R m g' bd' br' bm' F' D' R' m') (k : Below W1.heap.size W1 W) (hs : W1.heap.size < W.heap.size) : KQ W W (fun k => k = W1.heap.size) B g bd br bm F D R m g' bd' br' bm' F' D' R' m' :=
  ⟨h.below k, fun i e => ⟨fun f => by have := h.a.lt h.fa i f; omega, fun f => by have := h.b.lt h.fb i f; omega⟩, fun _ _ => rfl, fun i e => by omega, Nat.le_refl _⟩
/-- That block, and rows that were made since lo. -/
theorem KQ.more {W1 W2 : World} {x : Nat} (h : KQ W1 W (fun k => k = x) B g bd br bm F D R m g' bd' br' bm' F' D' R' m') (k : Below W.heap.size W W2) : KQ W2 W2 (fun k => k = x ∨ (W.heap.size ≤ k ∧ k < W2.heap.size)) B g bd br bm F D R m g' bd' br' bm' F' D' R' m' :=
  ⟨h.kp.below k, fun i e => by
      rcases e with e | e
      · exact h.nt i e
      · exact ⟨fun f => by have := h.kp.a.lt h.kp.fa i f; omega, fun f => by have := h.kp.b.lt h.kp.fb i f; omega⟩,
    fun _ _ => rfl, fun i e => by
      rcases e with e | e
      · have := h.xs i e; have := h.sz; have := k.size; omega
      · exact e.2, Nat.le_refl _⟩
theorem KQ.row (h : KQ W0 W X B g bd br bm F D R m g' bd' br' bm' F' D' R' m') {lo : Nat} (hx : ∀ k, lo ≤ k → k < W0.heap.size → X k) {e : TypeId} {size : Nat} {v : Value} {n : Nat} {xs : List Value} (hr : W0.ownsRow lo e size v n xs) : W.ownsRow lo e size v n xs :=
  S.own_kept hr fun i e hi => h.ke i (hx i (own_ltK hr i e).1 hi)
theorem KQ.ca (h : KQ W0 W X B g bd br bm F D R m g' bd' br' bm' F' D' R' m') : W.cell? ⟨g, 0, none⟩ = some (.pointer (some ⟨bd, 0, none⟩)) ∧ W.cell? ⟨g, 1, none⟩ = some (.pointer (some ⟨br, 0, none⟩)) ∧ W.cell? ⟨g, 2, none⟩ = some (.pointer (some ⟨bm, 0, none⟩)) := WPe.cells ⟨F, h.kp.a⟩
theorem KQ.cb (h : KQ W0 W X B g bd br bm F D R m g' bd' br' bm' F' D' R' m') : W.cell? ⟨g', 0, none⟩ = some (.pointer (some ⟨bd', 0, none⟩)) ∧ W.cell? ⟨g', 1, none⟩ = some (.pointer (some ⟨br', 0, none⟩)) ∧ W.cell? ⟨g', 2, none⟩ = some (.pointer (some ⟨bm', 0, none⟩)) := WPe.cells ⟨F', h.kp.b⟩
theorem do_pd (op : Int) (hp : plain op = true) (hD : ∀ x ∈ D, C.C x) (ht : m.tones.length ≤ 999000) (h : PS W bd br bm F D R m) :
    Calls Tryz.prog 12 #[.int .i64 op, .pointer (some ⟨bd, 0, none⟩), .pointer (some ⟨br, 0, none⟩), .pointer (some ⟨bm, 0, none⟩)] W fun e W' => e = .returned (.int .i64 (fl op D R)) ∧ PD W W' bd br bm F (xD op D R m) (xR op D R) (xM op D R m) := by
  refine (do_any op hp bd br bm F D R m hD ht W h).mono fun e W' ⟨h1, h2, h3⟩ => ⟨h1, ?_⟩
  by_cases c : fl op D R = 0
  · unfold xD xR xM
    rw [if_pos c, if_pos c, if_pos c]
    exact h3 c
  · unfold xD xR xM
    rw [if_neg c, if_neg c, if_neg c]
    exact h.same (h2 c)
end
end Go.Proofs.YtgponcjjnjpfkaaGreat.L
