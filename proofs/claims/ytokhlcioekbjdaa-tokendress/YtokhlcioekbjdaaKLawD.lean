import Derived.Test.YtokhlcioekbjdaaKDrD
/-! TokenDress. -/
namespace Go.Proofs.Ytokhlcioekbjdaa.K
open Go.RowKit
open Go.Proofs
open Go.Proofs.Ytokhlcioekbjdaa
open Go.Proofs.Ytokhlcioekbjdaa.T (size_list numE numC)
set_option linter.unusedVariables false
set_option linter.unusedSimpArgs false
set_option maxHeartbeats 1500000
set_option maxRecDepth 20000

theorem ba_same {a b : ByteArray} (h : a.data.toList = b.data.toList) : a = b := by
  obtain ⟨⟨x⟩⟩ := a; obtain ⟨⟨y⟩⟩ := b; simp only at h; subst h; rfl
theorem wds_map (s : ByteArray) (a : List (Nat × Nat)) : wds (a.map (tk s)) = a.map fun q => wd s.data.toList q.1 q.2 := by
  unfold wds; rw [List.map_map]; apply List.map_congr_left; intro q _; show (s.extract q.1 q.2).data.toList = _; rw [ext_list]
/-- A dress: what is put together is scanned to the same words. -/
theorem dress_scan (s : ByteArray) (a : List (Nat × Nat)) (i : Nat) (hsc : sc s.data.toList = (a, i, 0)) (sb r : ByteArray) (hs : Sep sb.data.toList) (hr : r.data.toList = Jn sb.data.toList (wds (a.map (tk s)))) :
    ∃ a', sc r.data.toList = (a', r.size, 0) ∧ a'.length = a.length ∧ ∀ (n : Nat) (x : Tk), (a.map (tk s))[n]? = some x → ∃ y : Tk, (a'.map (tk r))[n]? = some y ∧ x.k = y.k ∧ x.t = y.t ∧ x.v = y.v := by
  have hg : ∀ w ∈ wds (a.map (tk s)), Gd w := by
    rw [wds_map]
    intro w hw
    obtain ⟨q, hq, rfl⟩ := List.mem_map.1 hw
    have := sc_good s.data.toList q (by rw [hsc]; exact hq)
    exact this
  obtain ⟨a', h1, h2⟩ := jn_scan sb.data.toList hs (wds (a.map (tk s))) hg
  rw [← hr] at h1 h2
  rw [size_list] at h1
  rw [wds_map] at h2
  have hl : a'.length = a.length := by have := congrArg List.length h2; simpa using this
  refine ⟨a', h1, hl, fun n x hx => ?_⟩
  rw [List.getElem?_map] at hx
  cases hn : a[n]? with
  | none => rw [hn] at hx; cases hx
  | some q =>
    rw [hn] at hx
    simp only [Option.map_some, Option.some.injEq] at hx
    subst hx
    have hna : n < a.length := (List.getElem?_eq_some_iff.1 hn).1
    have hq' : a'[n]? = some a'[n] := List.getElem?_eq_getElem (by omega)
    refine ⟨tk r a'[n], by rw [List.getElem?_map, hq']; rfl, ?_⟩
    have hw : wd r.data.toList a'[n].1 a'[n].2 = wd s.data.toList q.1 q.2 := by
      have e1 : (a'.map fun q => wd r.data.toList q.1 q.2)[n]? = some (wd r.data.toList a'[n].1 a'[n].2) := by rw [List.getElem?_map, hq']; rfl
      rw [h2, List.getElem?_map, hn] at e1
      simp only [Option.map_some, Option.some.injEq] at e1
      exact e1.symm
    unfold tk
    simp only
    rw [hw]
    exact ⟨rfl, ba_same (by rw [ext_list, ext_list, hw]), rfl⟩
theorem dress_walk (h r : ByteArray) (hh : h.size ≤ 140737488355328) (hr : r.size ≤ 140737488355328) (w : World) : Calls Try.prog 5 #[.string h, .string r] w fun e w' => e = .returned (.bool true) ∧ Below w.heap.size w w' := by
  go_enter Try.func5, Try.ntmps5
  go_upto_if 18 with fail
  go_cut [0] (fun x wc => ∃ hd : ByteArray, x = .string hd ∧ hd.size ≤ 20000 ∧ wc = w)
  case first =>
    by_cases q : 20000 < h.size
    · have d1 : decide ((20000 : Int) < (h.size : Int)) = true := decide_eq_true (by omega)
      have d2 : 20000 ≤ h.size := by omega
      go_wp2
      go_meet
      case rel => exact ⟨h.extract 0 20000, rfl, by rw [ByteArray.size_extract]; omega, rfl⟩
    · have d1 : decide ((20000 : Int) < (h.size : Int)) = false := decide_eq_false (by omega)
      go_wp2
      go_meet
      case rel => exact ⟨h, rfl, by omega, rfl⟩
  case rest =>
    obtain ⟨s, rfl, hss, hwc⟩ := hcut
    obtain rfl := hwc.symm
    clear hh
    obtain ⟨a, i, er, hsc⟩ : ∃ a i er, sc s.data.toList = (a, i, er) := ⟨_, _, _, rfl⟩
    by_cases he : er = 0
    case neg =>
      have hS := scan_err s (by omega) er i a hsc he w
      have e1 : decide (er = 0) = false := decide_eq_false he
      generalize T.place s.data.toList i = p at *
      clear hsc
      go_wp2_with fail
      refine hS.mono ?_
      rintro e w1 ⟨⟨v1, rfl, o1⟩, h1⟩
      obtain ⟨pa1, ca1, rfl⟩ := own_val o1
      obtain ⟨U1, V1, hU1, hz1, hV1, hb1, p1, q1⟩ := pos_row w1 p
      have HB := hid (trB h1 hb1 h1.size)
      clear h1 hb1 o1 hS p1 q1
      go_wp2_with (refine wpList_store_row rfl 24 _ _ rfl w1.heap.size _ rfl rfl 24 #[.int .i64 0, .int .i64 0] hz1 (by exact sizeP) (by rfl) (by simp [Value.oneCell', pc]) ?_)
      refine (fixed_any _).mono ?_
      rintro e w2 ⟨rfl, h2⟩
      have HB := hid (trB HB.out h2 HB.out.size)
      clear h2
      go_wp2_with fail
      refine (fixed_any _).mono ?_
      rintro e w3 ⟨rfl, h3⟩
      have HB := hid (trB HB.out h3 HB.out.size)
      clear h3
      go_wp2_with fail
      go_ret
      exact ⟨rfl, HB.out⟩
    case pos =>
      subst he
      have hS := scan_ok s (by omega) i a hsc w
      by_cases h300 : 300 < a.length
      case pos =>
        have d1 : decide ((300 : Int) < (a.length : Int)) = true := decide_eq_true (by omega)
        have d2 : (300 : Int) < (a.length : Int) := by omega
        clear hsc
        go_wp2_with fail
        refine hS.mono ?_
        rintro e w1 ⟨⟨v1, rfl, o1⟩, h1⟩
        rw [len_map] at o1
        obtain ⟨pa1, ca1, rfl⟩ := own_val o1
        obtain ⟨U1, V1, hU1, hz1, hV1, hb1, p1, q1⟩ := pos_row w1 (0, 0)
        have HB := hid (trB h1 hb1 h1.size)
        clear h1 hb1 o1 hS p1 q1
        go_wp2_with (refine wpList_store_row rfl 24 _ _ rfl w1.heap.size _ rfl rfl 24 #[.int .i64 0, .int .i64 0] hz1 (by exact sizeP) (by rfl) (by simp [Value.oneCell', pc]) ?_)
        refine (fixed_any _).mono ?_
        rintro e w2 ⟨rfl, h2⟩
        have HB := hid (trB HB.out h2 HB.out.size)
        clear h2
        go_wp2_with fail
        refine (fixed_any _).mono ?_
        rintro e w3 ⟨rfl, h3⟩
        have HB := hid (trB HB.out h3 HB.out.size)
        clear h3
        go_wp2_with fail
        go_ret
        exact ⟨rfl, HB.out⟩
      case neg =>
        have d1 : (a.length : Int) ≤ 300 := by omega
        have ha300 : a.length ≤ 300 := by omega
        have HSC := hid hsc
        have HG := hid (show ∀ t ∈ a.map (tk s), t.t.size ≤ 31 by
          intro t ht
          obtain ⟨q, hq, rfl⟩ := List.mem_map.1 ht
          have hg := sc_good s.data.toList q (by rw [hsc]; exact hq)
          have := hg.le
          show (s.extract q.1 q.2).size ≤ 31
          rw [← size_list, ext_list]; exact this)
        clear hsc
        go_wp2_with fail
        refine hS.mono ?_
        rintro e w1 ⟨⟨v1, rfl, o1⟩, h1⟩
        rw [len_map] at o1
        obtain ⟨pa1, ca1, rfl⟩ := own_val o1
        obtain ⟨U1, V1, hU1, hz1, hV1, hb1, p1, q1⟩ := pos_row w1 (0, 0)
        have HB := hid (trB h1 hb1 h1.size)
        have o1 := own_below o1 hb1
        clear h1 hb1 hS p1 q1
        go_wp2_with (refine wpList_store_row rfl 24 _ _ rfl w1.heap.size _ rfl rfl 24 #[.int .i64 0, .int .i64 0] hz1 (by exact sizeP) (by rfl) (by simp [Value.oneCell', pc]) ?_)
        refine (fixed_any _).mono ?_
        rintro e w2 ⟨rfl, h2⟩
        have HB := hid (trB HB.out h2 HB.out.size)
        have o1 := own_below o1 h2
        clear h2
        go_wp2_with fail
        refine (dressed_any r hr _).mono ?_
        rintro e w3 ⟨⟨A, B, rfl, sA, sB, zA, zB⟩, h3⟩
        have HB := hid (trB HB.out h3 HB.out.size)
        have o1 := own_below o1 h3
        obtain ⟨W4, hA4⟩ : ∃ W4, w3.alloc (.cells #[.string ⟨#[32]⟩, .string A, .string B, .string ⟨#[13, 10, 9]⟩] 9) = W4 := ⟨_, rfl⟩
        have hr4 : W4.heap[w3.heap.size]? = some (.cells #[.string ⟨#[32]⟩, .string A, .string B, .string ⟨#[13, 10, 9]⟩] 9 (0, 0)) := by rw [← hA4]; exact heap_alloc_new w3 _
        have hb4 : Below w3.heap.size w3 W4 := by rw [← hA4]; exact bel_alloc w3 _
        have HB := hid (trB HB.out hb4 HB.out.size)
        have o1 := own_below o1 hb4
        have H4 := hid (And.intro o1 hr4)
        have HSE := hid (show ∀ k, k < 4 → ∃ sb : ByteArray, (#[.string ⟨#[32]⟩, .string A, .string B, .string ⟨#[13, 10, 9]⟩] : Array Value)[k]? = some (.string sb) ∧ Sep sb.data.toList ∧ sb.size ≤ 24 by
          intro k hk
          have : k = 0 ∨ k = 1 ∨ k = 2 ∨ k = 3 := by omega
          rcases this with rfl | rfl | rfl | rfl
          · exact ⟨_, rfl, sep_one, by decide⟩
          · exact ⟨_, rfl, sA, zA⟩
          · exact ⟨_, rfl, sB, zB⟩
          · exact ⟨_, rfl, sep_three, by decide⟩)
        clear h3 hb4 o1 hr4 sA sB zA zB
        go_wp2_with fail
        go_loopw [11] (fun x wr => ∃ k : Nat, x = .int .i64 (k : Int) ∧ k ≤ 4 ∧ wr.ownsRow w.heap.size 30 5 (.slice pa1 a.length ca1) a.length (S.en eT (a.map (tk s))) ∧ wr.heap[w3.heap.size]? = some (.cells #[.string ⟨#[32]⟩, .string A, .string B, .string ⟨#[13, 10, 9]⟩] 9 (0, 0)) ∧ Below w.heap.size w wr) (fun x _ => 4 - (Lib.intOf x).toNat)
        case atStart => exact ⟨0, rfl, by omega, H4.out.1, H4.out.2, HB.out⟩
        case round =>
          clear H4 HB
          obtain ⟨k, rfl, hk, hO, hRw, hB⟩ := hrel
          by_cases hlt : k < 4
          case neg =>
            obtain rfl : k = 4 := by omega
            have HB := hid hB
            clear hB hO hRw
            go_wp2_with fail
            go_ret
            exact ⟨rfl, HB.out⟩
          have i1 : (k : Int) < 4 := by omega
          obtain ⟨sb, hcell, hsep, hz⟩ := HSE.out k hlt
          have c0 : wr.cell? ⟨w3.heap.size, k, none⟩ = some (.string sb) := by rw [cell_of_row _ _ k _ _ _ hRw]; exact hcell
          have hls : S.Ls eT 5 wr (.slice pa1 a.length ca1) (a.map (tk s)) := S.own_sl hT (by rw [len_map]; exact hO)
          have hWd := words_any (a.map (tk s)) (by rw [len_map]; omega) HG.out (.slice pa1 a.length ca1) sb hz wr hls
          have HSP := hid hsep
          have HO := hid hO
          have HR := hid hRw
          have HB := hid hB
          clear hcell hsep hls hO hRw hB
          go_wp2_with fail
          refine hWd.mono ?_
          rintro e w5 ⟨S5, rfl, hS5, h5⟩
          obtain ⟨a', hsc', hal, hsame⟩ := dress_scan s a i HSC.out sb S5 HSP.out hS5
          have hsz5 : S5.size ≤ 16500 := by
            have h1 := jn_len sb.data.toList (wds (a.map (tk s))) (by
              intro x hx
              unfold wds at hx
              obtain ⟨t, ht, rfl⟩ := List.mem_map.1 hx
              have := HG.out t ht
              rw [size_list]; exact this)
            rw [← hS5, size_list, size_list] at h1
            have h2 : (wds (a.map (tk s))).length = a.length := by unfold wds; simp
            rw [h2] at h1
            have h3 : a.length * (31 + sb.size) ≤ 300 * 55 := Nat.mul_le_mul ha300 (by omega)
            omega
          have hSc := fun W => scan_ok S5 (by omega) S5.size a' hsc' W
          have HO := hid (own_below HO.out h5)
          have HR := hid ((h5.block _ (lt_of HR.out)).trans HR.out)
          have HB := hid (trB HB.out h5 HB.out.size)
          have j1 : (S5.size : Int) ≤ 65536 := by omega
          have HSM := hid hsame
          clear h5 hWd hsc' hS5 hsame c0
          go_wp2_with fail
          refine (hSc _).mono ?_
          rintro e w6 ⟨⟨v6, rfl, o6⟩, h6⟩
          rw [len_map] at o6
          obtain ⟨pa6, ca6, rfl⟩ := own_val o6
          obtain ⟨U6, V6, hU6, hz6, hV6, hb6, p6, q6⟩ := pos_row w6 (0, 0)
          have h6b := trB h6 hb6 h6.size
          have o6 := own_below o6 hb6
          have HO := hid (own_below HO.out h6b)
          have HR := hid ((h6b.block _ (lt_of HR.out)).trans HR.out)
          have HB := hid (trB HB.out h6b HB.out.size)
          have hSW := sameWords_any (a.map (tk s)) (a'.map (tk S5)) (by rw [len_map]; omega) (by rw [len_map, len_map]; exact hal) HSM.out (.slice pa1 a.length ca1) (.slice pa6 a'.length ca6) V6 (S.own_sl hT (by rw [len_map]; exact HO.out)) (S.own_sl hT (by rw [len_map]; exact o6))
          clear h6 hb6 h6b o6 p6 q6 hSc hal
          go_wp2_with (refine wpList_store_row rfl 24 _ _ rfl w6.heap.size _ rfl rfl 24 #[.int .i64 0, .int .i64 0] hz6 (by exact sizeP) (by rfl) (by simp [Value.oneCell', pc]) ?_)
          refine hSW.mono ?_
          rintro e w7 ⟨rfl, h7⟩
          have HO := hid (own_below HO.out h7)
          have HR := hid ((h7.block _ (lt_of HR.out)).trans HR.out)
          have HB := hid (trB HB.out h7 HB.out.size)
          clear h7 hSW
          go_wp2_with fail
          go_roundw
          case rel => exact ⟨k + 1, by simp, by omega, HO.out, HR.out, HB.out⟩
          case measure => simp only [Lib.intOf]; omega
end Go.Proofs.Ytokhlcioekbjdaa.K
