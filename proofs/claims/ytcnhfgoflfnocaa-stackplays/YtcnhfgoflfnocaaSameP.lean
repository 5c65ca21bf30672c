import Derived.Test.YtcnhfgoflfnocaaTakeW
import Derived.Deep.DeepCutAuto
/-! The law's same and still. -/
namespace Go.Proofs.Ytcnhfgoflfnocaa
open Go.RowKit
open Go.Proofs
set_option linter.unusedVariables false
set_option linter.unusedSimpArgs false
def PS (B : Nat) (W : World) (bp : Nat) (D : List Int) (R : List (Int × Int)) (n : Nat) : Prop := ∃ bd br be bq gv gr ev qv vs ws, PX 0 0 B W bp bd br be bq gv gr ev qv vs ws D R n
section
variable {lo hi B : Nat} {W W' : World} {bp bd br be bq : Nat} {gv gr ev qv : Value} {vs ws : List Value} {D : List Int} {R : List (Int × Int)} {n : Nat}
theorem PX.inner (h : PX lo hi B W bp bd br be bq gv gr ev qv vs ws D R n) (hs : W.heap.size ≤ hi) (lo' hi' : Nat) (hl : lo ≤ lo') : PX lo' hi' B W bp bd br be bq gv gr ev qv vs ws D R n := by
  have a : ∀ k, k < W.heap.size → Av lo hi k → Av lo' hi' k := fun k hk c => by rcases c with c | c; exact .inl (by omega); omega
  exact { h with
    abp := a _ (lt_of h.blk) h.abp, abd := a _ (lt_of h.d.1) h.abd, abr := a _ (lt_of h.r.1) h.abr, abe := a _ (lt_of h.e.blk) h.abe, ae := fun g e => a _ (h.e.row.lt g e).2 (h.ae g e), abq := a _ (lt_of h.q.blk) h.abq, aq := fun g e => a _ (h.q.row.lt g e).2 (h.aq g e)
    g := { h.g with
      ag := fun g e => a _ (h.g.gs.lt g e).2 (h.g.ag g e)
      ar := fun g e => a _ (h.g.rs.lt g e).2 (h.g.ar g e)
      av := fun v hv g e => by obtain ⟨i, hi⟩ := List.mem_iff_getElem?.1 hv; obtain ⟨m, _, r⟩ := h.g.vl i v hi; exact a _ (r.lt g e).2 (h.g.av v hv g e)
      aw := fun v hv g e => by obtain ⟨i, hi⟩ := List.mem_iff_getElem?.1 hv; obtain ⟨m, _, r⟩ := h.g.wl i v hi; exact a _ (r.lt g e).2 (h.g.aw v hv g e) } }
set_option maxHeartbeats 4000000
set_option maxRecDepth 100000
theorem still_any (w : World) (h : PX lo hi B w bp bd br be bq gv gr ev qv vs ws D R n) (hn : n ≤ 1500) : Calls Try.prog 24 #[.pointer (some ⟨bp, 0, none⟩)] w fun e w' => e = .returned (.bool true) ∧ w' = w := by
  obtain ⟨pg, cg, rfl⟩ := ex_slice h.g.gs
  obtain ⟨pr, cr, rfl⟩ := ex_slice h.g.rs
  have c4 := cell_of w bp 4 _ 70 _ h.blk rfl
  have c5 := cell_of w bp 5 _ 70 _ h.blk rfl
  have hvl : vs.length = n := by have := h.g.gs.1; omega
  have hwl : ws.length = n := by have := h.g.rs.1; omega
  have HP := hid h
  have HVL := hid hvl
  have HWL := hid hwl
  clear h hvl hwl
  go_enter Try.func24, Try.ntmps24
  go_wp2
  go_loopw [3] (fun j wr => ∃ k : Nat, k ≤ n ∧ j = .int .i64 (k : Int) ∧ wr = w) (fun j _ => n - (intOf j).toNat)
  case atStart => exact ⟨0, by omega, rfl, rfl⟩
  case round =>
    obtain ⟨k, hk, rfl, hwr⟩ := hrel
    obtain rfl := hwr.symm
    by_cases hlt : k < n
    · have i1 : decide ((k : Int) < (n : Int)) = true := decide_eq_true (by omega)
      have i2 : (k : Int) < (n : Int) := by omega
      have hv := List.getElem?_eq_getElem (l := vs) (i := k) (by have := HVL.out; omega)
      have hw := List.getElem?_eq_getElem (l := ws) (i := k) (by have := HWL.out; omega)
      obtain ⟨a, ha, ru⟩ := HP.out.g.vl k _ hv
      obtain ⟨b, hb, rk⟩ := HP.out.g.wl k _ hw
      obtain ⟨gg, capg, eg⟩ := own_pos HP.out.g.gs (by omega)
      obtain ⟨gr', capr, er⟩ := own_pos HP.out.g.rs (by omega)
      simp only [Value.slice.injEq, true_and] at eg er
      obtain ⟨rfl, rfl⟩ := eg
      obtain ⟨rfl, rfl⟩ := er
      have xg := World.ownsRow.cells HP.out.g.gs (g := gg) rfl k _ hv
      have xr := World.ownsRow.cells HP.out.g.rs (g := gr') rfl k _ hw
      rw [Addr.add_lit, Nat.zero_add] at xg xr
      obtain ⟨pu, cu, eu⟩ := ex_slice ru
      obtain ⟨pk, ck, ek⟩ := ex_slice rk
      rw [rU_len] at eu
      rw [rK_len] at ek
      rw [eu] at xg ru
      rw [ek] at xr rk
      have hU' : Sl eU 1 w pu (rU a k) := by
        rcases ru.ls with ⟨e, e2⟩ | ⟨x, c, e, _, hs⟩
        · rw [e2]; intro i a hi; simp at hi
        · simp only [Value.slice.injEq] at e; rw [e.1]; exact hs
      have hK' : Sl eK 2 w pk (rK b k) := by
        rcases rk.ls with ⟨e, e2⟩ | ⟨x, c, e, _, hs⟩
        · rw [e2]; intro i a hi; simp at hi
        · simp only [Value.slice.injEq] at e; rw [e.1]; exact hs
      have e9 : IntKind.i64.wrap (9000 + (k : Int)) = 9000 + (k : Int) := i64_id _ (by omega) (by omega)
      obtain ⟨M, hM⟩ : ∃ M : Int, IntKind.u16.wrap (9000 + (k : Int)) = M := ⟨_, rfl⟩
      have HM := hid (show M = mk k by rw [← hM]; rfl)
      have HU' := hid hU'
      have HK' := hid hK'
      clear hv hw ru rk eu ek hU' hK' HP HVL HWL
      go_wp2
      go_loopw [4] (fun j wr => ∃ i : Nat, i ≤ a ∧ j = .int .i64 (i : Int) ∧ wr = w) (fun j _ => a - (intOf j).toNat)
      case atStart => exact ⟨0, by omega, rfl, rfl⟩
      case round =>
        obtain ⟨i, hi', rfl, hwr⟩ := hrel
        obtain rfl := hwr.symm
        by_cases hlt2 : i < a
        · as_aux_lemma =>
            have j1 : decide ((i : Int) < (a : Int)) = true := decide_eq_true (by omega)
            have j2 : (i : Int) < (a : Int) := by omega
            obtain ⟨b1, o1, rfl, x1⟩ := HU'.out.u i (mk k) (by rw [rU, List.getElem?_replicate, if_pos hlt2])
            rw [← HM.out] at x1
            clear HU' HK' HM
            go_wp2
            go_roundw
            case rel =>
              first
                | exact ⟨i + 1, by omega, by go_num, rfl⟩
                | exact ⟨i + 1, by omega, by go_num, trivial⟩
                | (refine ⟨trivial, ?_⟩; (repeat apply Exists.intro); exact ⟨⟨i + 1, by omega, by go_num, rfl⟩, rfl⟩)
            case measure => first | (simp [intOf]; done) | (simp [intOf]; omega)
        · obtain rfl : i = a := by omega
          have j1 : decide ((i : Int) < (i : Int)) = false := decide_eq_false (by omega)
          clear HU' HM hM
          go_wp2
          go_loopw [5] (fun j wr => ∃ i : Nat, i ≤ b ∧ j = .int .i64 (i : Int) ∧ wr = w) (fun j _ => b - (intOf j).toNat)
          case atStart => exact ⟨0, by omega, rfl, rfl⟩
          case round =>
            obtain ⟨y, hy, rfl, hwr⟩ := hrel
            obtain rfl := hwr.symm
            by_cases hlt3 : y < b
            · as_aux_lemma =>
                have j1 : decide ((y : Int) < (b : Int)) = true := decide_eq_true (by omega)
                have j2 : (y : Int) < (b : Int) := by omega
                obtain ⟨b1, o1, rfl, x1, x2⟩ := HK'.out.k y (9000 + (k : Int), 0) (by rw [rK, List.getElem?_replicate, if_pos hlt3])
                dsimp only at x1 x2
                clear HK'
                go_wp2
                go_roundw
                case rel =>
                  first
                    | exact ⟨y + 1, by omega, by go_num, rfl⟩
                    | exact ⟨y + 1, by omega, by go_num, trivial⟩
                    | (refine ⟨trivial, ?_⟩; (repeat apply Exists.intro); exact ⟨⟨y + 1, by omega, by go_num, rfl⟩, rfl⟩)
                case measure => first | (simp [intOf]; done) | (simp [intOf]; omega)
            · obtain rfl : y = b := by omega
              have j1 : decide ((y : Int) < (y : Int)) = false := decide_eq_false (by omega)
              go_wp2
              go_roundw
              case rel =>
                first
                  | exact ⟨k + 1, by omega, by go_num, rfl⟩
                  | exact ⟨k + 1, by omega, by go_num, trivial⟩
                  | (refine ⟨trivial, ?_⟩; (repeat apply Exists.intro); exact ⟨⟨k + 1, by omega, by go_num, rfl⟩, rfl⟩)
              case measure => first | (simp [intOf]; done) | (simp [intOf]; omega)
    · obtain rfl : k = n := by omega
      have i1 : decide ((k : Int) < (k : Int)) = false := decide_eq_false (by omega)
      go_wp2
      go_ret
      exact ⟨rfl, rfl⟩
end
end Go.Proofs.Ytcnhfgoflfnocaa
