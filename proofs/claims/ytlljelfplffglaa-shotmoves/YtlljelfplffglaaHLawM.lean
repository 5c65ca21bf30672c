import Derived.Test.YtlljelfplffglaaHMv
import Derived.Test.YtlljelfplffglaaHLawD
/-! ShotMoves: the walk. -/
namespace Go.Proofs.Ytlljelfplffglaa.H
open Go.RowKit
open Go.Proofs
open Go.Proofs.Ytlljelfplffglaa.K
set_option linter.unusedVariables false
set_option linter.unusedSimpArgs false
set_option maxHeartbeats 4000000
set_option maxRecDepth 100000
theorem chF : Try.prog.underlying 32 = some (.struct (Try.prog.fieldsOf 32)) ∧ Try.prog.fieldsOf 32 = #[⟨ "X", 3, 0, false, "", "", 0⟩, ⟨ "Y", 3, 1, false, "", "", 8⟩, ⟨ "Old", 5, 2, false, "", "", 16⟩, ⟨ "New", 5, 3, false, "", "", 17⟩] ∧ Try.prog.stoodInHeld 32 = false ∧ Try.prog.cellsOf 3 = 1 ∧ Try.prog.cellsOf 5 = 1 :=
  ⟨by kernel_rfl, by kernel_rfl, by kernel_rfl, by kernel_rfl, by kernel_rfl⟩
theorem eqCh (W : World) (d : Nat) (x y o n : Int) : (Op.equalIn (d + 2) 32 (.agg #[.int .i64 x, .int .i64 y, .int .u8 o, .int .u8 n]) (.agg #[.int .i64 x, .int .i64 y, .int .u8 o, .int .u8 n])).run Try.prog W = .ok true W := by
  obtain ⟨hs, hf, hp, k3, k5⟩ := chF
  rw [run_equalIn_agg W (d + 1) _ _ _ hs hp, hf]
  simp [go_sem, Try.underlying3, Try.underlying5, k3, k5, Result.andThen]
theorem neq_ch (W : World) (x y o n : Int) : (binOp .neq 32 (.agg #[.int .i64 x, .int .i64 y, .int .u8 o, .int .u8 n]) (.agg #[.int .i64 x, .int .i64 y, .int .u8 o, .int .u8 n])).run Try.prog W = .ok (.bool false) W := by
  rw [run_neq_struct, eqCh W 9998]; rfl
theorem list_cases (l : List Ch) : l = [] ∨ ∃ c r, l = c :: r := by cases l <;> simp
theorem get_ex (l : List Ch) (k : Nat) (h : k < l.length) : ∃ c, l[k]? = some c := ⟨_, List.getElem?_eq_getElem h⟩
theorem pair_next (l : List Ch) (hp : l.Pairwise (fun c d => pos c < pos d)) (k : Nat) (c d : Ch) (hc : l[k]? = some c) (hd : l[k + 1]? = some d) : pos c < pos d := by
  have h1 := List.getElem?_eq_some_iff.1 hc
  have h2 := List.getElem?_eq_some_iff.1 hd
  have := List.pairwise_iff_getElem.1 hp k (k + 1) h1.1 h2.1 (by omega)
  rw [h1.2, h2.2] at this
  exact this
theorem mv_facts (a b : List UInt8) (ha : a.length = 3072) (hb : b.length = 3072) : (dfE a b = df a b ∧ dfE b a = df b a ∧ dfE a a = [] ∧ dfN a b = 0 ∧ dfN b a = 0 ∧ dfN a a = 0) ∧ (df b a).length = (df a b).length ∧ (df a b).length ≤ 3072 ∧ apO a (df a b) = some b ∧ apO b (df b a) = some a ∧ dfTo a b 3072 = df a b ∧ df b a = (df a b).map flip ∧ (df a b).Pairwise (fun c d => pos c < pos d) ∧ ∀ c ∈ df a b, 0 ≤ c.x ∧ c.x ≤ 63 ∧ 0 ≤ c.y ∧ pos c < (3072 : Nat) ∧ c.o ≠ c.n := by
  have hbs : bothS a b = true := (bothS_is a b).2 ⟨ha, hb⟩
  have hbs2 : bothS b a = true := (bothS_is b a).2 ⟨hb, ha⟩
  have hbs3 : bothS a a = true := (bothS_is a a).2 ⟨ha, ha⟩
  have hfl : df b a = (df a b).map flip := by rw [df, df_flip a b, df]
  refine ⟨⟨by rw [dfE, if_pos hbs], by rw [dfE, if_pos hbs2], by rw [dfE, if_pos hbs3, df]; exact df_self a 3072, by rw [dfN, if_pos hbs], by rw [dfN, if_pos hbs2], by rw [dfN, if_pos hbs3]⟩, by rw [hfl, List.length_map], dfTo_len a b 3072, by rw [apO, if_pos ha]; exact ap_df a b ha hb, by rw [apO, if_pos hb]; exact ap_df b a hb ha, by rw [df], hfl, ?_, ?_⟩
  · rw [df]; exact (dfTo_all a b 3072).1
  · rw [df]; exact (dfTo_all a b 3072).2
theorem moves_walk (va vb : Value) (la lb : List UInt8) (hla : la.length ≤ room) (hlb : lb.length ≤ room) (W : World) (ha : Sl W va la) (hb : Sl W vb lb) :
    Calls Try.prog 3 #[va, vb] W fun r w' => r = .returned (.bool true) ∧ Below W.heap.size W w' := by
  obtain ⟨pa, ca, rfl, _⟩ := ha.ex
  obtain ⟨pb, cb, rfl, _⟩ := hb.ex
  have HG := hid (And.intro ha hb)
  clear ha hb
  go_enter Try.func3, Try.ntmps3
  go_wp2_with fail
  refine (screen_any _ la hla W HG.out.1).mono ?_
  rintro e w1 ⟨ga, xa, a, rfl, hal, hra, hb1⟩
  have HB1 := hid hb1
  have HA := hid hra
  have HAL := hid hal
  clear hb1 hra hal
  go_wp2_with fail
  refine (screen_any _ lb hlb w1 (HG.out.2.below HB1.out)).mono ?_
  rintro e w2 ⟨gb, xb, b, rfl, hbl, hrb, hb2⟩
  have HB2 := hid (HB1.out.trans (hb2.mono HB1.out.size))
  have HA := hid (HA.out.below hb2)
  have HB := hid hrb
  have HBL := hid hbl
  clear hb2 hrb hbl HB1 HG
  obtain ⟨L, M, hDf⟩ : ∃ L M : List Ch, (dfE a b = L ∧ dfE b a = M ∧ dfE a a = [] ∧ dfN a b = 0 ∧ dfN b a = 0 ∧ dfN a a = 0) ∧ M.length = L.length ∧ L.length ≤ 3072 ∧ apO a L = some b ∧ apO b M = some a ∧ dfTo a b 3072 = L ∧ M = L.map flip ∧ L.Pairwise (fun c d => pos c < pos d) ∧ ∀ c ∈ L, 0 ≤ c.x ∧ c.x ≤ 63 ∧ 0 ≤ c.y ∧ pos c < (3072 : Nat) ∧ c.o ≠ c.n :=
    ⟨df a b, df b a, mv_facts a b HAL.out HBL.out⟩
  have HD := hid hDf.1
  have HLM := hid hDf.2.1
  have hl72 := hDf.2.2.1
  have hm72 : M.length ≤ 3072 := by rw [hDf.2.1]; exact hl72
  have HF := hid hDf.2.2.2
  have d1 := hDf.1.1
  have n1 := hDf.1.2.2.2.1
  clear hDf
  have q1 := diff_any _ _ a b w2 HA.out.sl HB.out.sl
  rw [d1, n1] at q1
  clear d1 n1
  go_wp2_with fail
  refine q1.mono ?_
  rintro e w3 ⟨p1, c1, rfl, hr1, hb3⟩
  have HB3 := hid (HB2.out.trans (hb3.mono HB2.out.size))
  have HA := hid (HA.out.below hb3)
  have HB := hid (HB.out.below hb3)
  have HL := hid hr1
  clear hb3 hr1 HB2 q1
  have q1 := diff_any _ _ b a w3 HB.out.sl HA.out.sl
  rw [HD.out.2.1, HD.out.2.2.2.2.1] at q1
  go_wp2_with fail
  refine q1.mono ?_
  rintro e w4 ⟨p2, c2, rfl, hr2, hb4⟩
  have HB4 := hid (HB3.out.trans (hb4.mono HB3.out.size))
  have HA := hid (HA.out.below hb4)
  have HB := hid (HB.out.below hb4)
  have HL := hid (own_bel HL.out hb4)
  have HM := hid hr2
  clear hb4 hr2 HB3 q1
  have q1 := diff_any _ _ a a w4 HA.out.sl HA.out.sl
  rw [HD.out.2.2.1, HD.out.2.2.2.2.2] at q1
  go_wp2_with fail
  refine q1.mono ?_
  rintro e w5 ⟨p3, c3, rfl, hr3, hb5⟩
  have HB5 := hid (HB4.out.trans (hb5.mono HB4.out.size))
  have HA := hid (HA.out.below hb5)
  have HB := hid (HB.out.below hb5)
  have HL := hid (own_bel HL.out hb5)
  have HM := hid (own_bel HM.out hb5)
  clear hb5 hr3 HB4 q1
  have e1 : apO a L = some b := HF.out.1
  have e2 : apO b M = some a := HF.out.2.1
  have l1 : apL a L = b := by rw [apL, e1]; rfl
  have l2 : apL b M = a := by rw [apL, e2]; rfl
  have m1 : apN a L = 0 := by rw [apN, e1]; rfl
  have m2 : apN b M = 0 := by rw [apN, e2]; rfl
  have q1 := apply_any _ _ a L (by omega) w5 HA.out.sl (S.own_sl hC HL.out)
  rw [l1, m1, HBL.out] at q1
  have HL2 := hid (And.intro l2 m2)
  clear e1 e2 l1 l2 m1 m2
  go_wp2_with fail
  refine q1.mono ?_
  rintro e w6 ⟨p4, c4, rfl, hr4, hb6⟩
  have HB6 := hid (HB5.out.trans (hb6.mono HB5.out.size))
  have HA := hid (HA.out.below hb6)
  have HB := hid (HB.out.below hb6)
  have HL := hid (own_bel HL.out hb6)
  have HM := hid (own_bel HM.out hb6)
  have HX := hid hr4
  clear hb6 hr4 HB5 q1
  have q1 := apply_any _ _ b M (by omega) w6 HB.out.sl (S.own_sl hC HM.out)
  rw [HL2.out.1, HL2.out.2, HAL.out] at q1
  clear HL2
  go_wp2_with fail
  refine q1.mono ?_
  rintro e w7 ⟨p5, c5, rfl, hr5, hb7⟩
  have HB7 := hid (HB6.out.trans (hb7.mono HB6.out.size))
  have HA := hid (HA.out.below hb7)
  have HB := hid (HB.out.below hb7)
  have HL := hid (own_bel HL.out hb7)
  have HM := hid (own_bel HM.out hb7)
  have HX := hid (HX.out.below hb7)
  have HY := hid hr5
  clear hb7 hr5 HB6 q1
  have v1 := HX.out.sl.conv (by rw [HBL.out]; decide)
  have v2 := HY.out.sl.conv (by rw [HAL.out]; decide)
  have v3 := HA.out.sl.conv (by rw [HAL.out]; decide)
  have v4 := HB.out.sl.conv (by rw [HBL.out]; decide)
  have hlmi : ((M.length : Nat) : Int) = (L.length : Int) := by rw [HLM.out]
  have hlmn := HLM.out
  go_wp2_with fail
  refine (fixed_any w7).mono ?_
  rintro e w8 ⟨rfl, hb8⟩
  have HB8 := hid (HB7.out.trans (hb8.mono HB7.out.size))
  have HA := hid (HA.out.below hb8)
  have HL := hid (own_bel HL.out hb8)
  have HM := hid (own_bel HM.out hb8)
  have kA : ∀ k, k < 3072 → w8.cell? ⟨ga, k, none⟩ = some (.int .u8 ((a.getD k 0).toNat : Int)) := fun k hk => by
    rw [row_cell HA.out k (by rw [HAL.out]; exact hk)]; simp [show k < a.length by rw [HAL.out]; exact hk]
  have kB : ∀ k, k < 3072 → w8.cell? ⟨gb, k, none⟩ = some (.int .u8 ((b.getD k 0).toNat : Int)) := fun k hk => by
    rw [row_cell (HB.out.below hb8) k (by rw [HBL.out]; exact hk)]; simp [show k < b.length by rw [HBL.out]; exact hk]
  have HKK := hid (And.intro kA kB)
  clear hb8 HB7 v1 v2 v3 v4 HX HY kA kB
  go_wp2
  clear hlmi hlmn
  go_loopw [18, 19] (fun n i wr => ∃ k q m : Nat, k ≤ 3072 ∧ i = .int .i64 (k : Int) ∧ n = .int .i64 (m : Int) ∧ (dfTo a b k).length = m ∧ wr = w8.drewN q) (fun _ i _ => 3072 - (intOf i).toNat)
  case atStart => exact ⟨0, 0, 0, by omega, rfl, rfl, rfl, rfl⟩
  case round =>
    obtain ⟨k, q, m, hk, rfl, rfl, hm, rfl⟩ := hrel
    have hmk : m ≤ k := by rw [← hm]; exact dfTo_len a b k
    have HMM := hid hm
    clear hm
    by_cases hlt : k < 3072
    · have i1 : (k : Int) < 3072 := by omega
      have cA := HKK.out.1 k hlt
      have cB := HKK.out.2 k hlt
      have hst : dfTo a b (k + 1) = dfTo a b k ++ (if a.getD k 0 = b.getD k 0 then [] else [⟨((k % 64 : Nat) : Int), ((k / 64 : Nat) : Int), a.getD k 0, b.getD k 0⟩]) := by rw [dfTo]
      generalize a.getD k 0 = A at *
      generalize b.getD k 0 = B at *
      by_cases he : A = B
      · subst he
        rw [if_pos rfl, List.append_nil] at hst
        have HS := hid hst
        clear hst
        go_wp2_with fail
        go_quiet (fail)
        go_wp2
        go_roundw
        case rel => exact ⟨k + 1, _, m, by omega, by go_num, rfl, by rw [HS.out]; exact HMM.out, rfl⟩
        case measure => simp [intOf]; omega
      · rw [if_neg he] at hst
        have he3 : ¬ (A.toNat : Int) = (B.toNat : Int) := fun h => he (UInt8.toNat_inj.1 (by omega))
        have he4 : ((A.toNat : Int) == (B.toNat : Int)) = false := by simpa using he3
        have HS := hid (show (dfTo a b (k + 1)).length = m + 1 by rw [hst, List.length_append, HMM.out]; simp)
        have he5 : ((A.toNat : Int) != (B.toNat : Int)) = true := by simpa using he3
        have im : (m : Int) < 3072 := by omega
        have im2 : m < 3072 := by omega
        clear hst he he3 he4
        go_wp2_with fail
        go_quiet (fail)
        go_wp2
        go_roundw
        case rel => exact ⟨k + 1, _, m + 1, by omega, by go_num, by go_num, HS.out, rfl⟩
        case measure => simp [intOf]; omega
    · obtain rfl : k = 3072 := by omega
      have hdd : dfTo a b 3072 = L := HF.out.2.2.1
      have hmm := HMM.out
      rw [hdd] at hmm
      have hpw := HF.out.2.2.2.2.1
      have hall := HF.out.2.2.2.2.2
      have hfl := HF.out.2.2.2.1
      have lsL := S.own_sl hC HL.out
      have lsM := S.own_sl hC HM.out
      obtain ⟨_, _, e1, _, slL⟩ := lsL.ex
      obtain ⟨_, _, e2, _, slM⟩ := lsM.ex
      cases e1
      cases e2
      have HP := hid (And.intro hpw (And.intro hall (And.intro hfl (And.intro slL (And.intro slM lsL)))))
      clear hpw hall hfl slL slM lsL lsM hdd
      have hL0 : ∀ c, L[0]? = some c → (-1 : Int) < pos c := fun c h => by
        have := HP.out.2.1 c (List.mem_of_getElem? h)
        unfold pos; omega
      have HL0 := hid hL0
      clear hL0
      subst hmm
      clear hmk
      go_wp2
      go_loopw [17, 20] (fun z i wr => ∃ (k q : Nat) (zz : Int), k ≤ L.length ∧ i = .int .i64 (k : Int) ∧ z = .int .i64 zz ∧ (∀ c, L[k]? = some c → zz < pos c) ∧ wr = w8.drewN q) (fun _ i _ => L.length - (intOf i).toNat)
      case atStart => exact ⟨0, _, -1, by omega, rfl, rfl, HL0.out, rfl⟩
      case round =>
        obtain ⟨k, q2, zz, hk, rfl, rfl, hz, rfl⟩ := hrel
        by_cases hlt2 : k < L.length
        · have i1 : (k : Int) < L.length := by omega
          obtain ⟨c, hget⟩ := get_ex L k hlt2
          obtain ⟨hpw, hall, hfl, slL, slM, _⟩ := HP.out
          obtain ⟨b1, o1, e1, hc1⟩ := slL k c hget
          obtain ⟨b2, o2, e2, hc2⟩ := slM k (flip c) (by rw [hfl, List.getElem?_map, hget]; rfl)
          subst e1
          subst e2
          have a0 : w8.cell? ⟨b1, o1 + k * 4, none⟩ = some (.int .i64 c.x) := by simpa using hc1 0 _ rfl
          have a1 : w8.cell? ⟨b1, o1 + k * 4 + 1, none⟩ = some (.int .i64 c.y) := hc1 1 _ rfl
          have a2 : w8.cell? ⟨b1, o1 + k * 4 + 2, none⟩ = some (.int .u8 (c.o.toNat : Int)) := hc1 2 _ rfl
          have a3 : w8.cell? ⟨b1, o1 + k * 4 + 3, none⟩ = some (.int .u8 (c.n.toNat : Int)) := hc1 3 _ rfl
          have m0 : w8.cell? ⟨b2, o2 + k * 4, none⟩ = some (.int .i64 c.x) := by simpa [flip] using hc2 0 _ rfl
          have m1 : w8.cell? ⟨b2, o2 + k * 4 + 1, none⟩ = some (.int .i64 c.y) := hc2 1 _ rfl
          have m2 : w8.cell? ⟨b2, o2 + k * 4 + 2, none⟩ = some (.int .u8 (c.n.toNat : Int)) := hc2 2 _ rfl
          have m3 : w8.cell? ⟨b2, o2 + k * 4 + 3, none⟩ = some (.int .u8 (c.o.toNat : Int)) := hc2 3 _ rfl
          obtain ⟨g0, g1, g2, g3, g4⟩ := hall c (List.mem_of_getElem? hget)
          have hzc := hz c hget
          have hnx : ∀ d, L[k + 1]? = some d → pos c < pos d := fun d hd => pair_next L hpw k c d hget hd
          have hne := fun W => neq_ch W c.x c.y (c.n.toNat : Int) (c.o.toNat : Int)
          have HNX := hid hnx
          have n0 : decide (c.x < 0) = false := decide_eq_false (by omega)
          have n1 : decide ((63 : Int) < c.x) = false := decide_eq_false (by omega)
          have n2 : decide (64 * c.y + c.x ≤ zz) = false := decide_eq_false (by unfold pos at hzc; omega)
          have n3 : ((c.o.toNat : Int) == (c.n.toNat : Int)) = false := by
            apply beq_eq_false_iff_ne.2
            intro e
            exact g4 (UInt8.toNat_inj.1 (by omega))
          have g5 : 64 * c.y + c.x < 3072 := by unfold pos at g3; exact g3
          have hps : pos c = 64 * c.y + c.x := rfl
          have HPS := hid hps
          clear hps hnx hc1 hc2 hget hpw hall hfl slL slM hz hzc g3 g4
          obtain ⟨cx, cy, co, cn⟩ := c
          simp only at *
          generalize (co.toNat : Int) = O at *
          generalize (cn.toNat : Int) = N at *
          have w0 : IntKind.i64.wrap (64 * cy) = 64 * cy := by rw [IntKind.wrap_i64]; omega
          have w1 : IntKind.i64.wrap (64 * cy + cx) = 64 * cy + cx := by rw [IntKind.wrap_i64]; omega
          go_wp2_with fail
          go_quiet (fail)
          go_wp2_with fail
          go_quiet (fail)
          go_wp2
          go_roundw
          case rel => exact ⟨k + 1, _, 64 * cy + cx, by omega, by go_num, rfl, fun d hd => by have := HNX.out d hd; rw [HPS.out] at this; exact this, rfl⟩
          case measure => simp [intOf]; omega
        · obtain rfl : k = L.length := by omega
          go_upto_region 22 with fail
          clear hz hk hlt2
          obtain ⟨DL, hDL⟩ : ∃ DL, L.length = DL := ⟨_, rfl⟩
          rw [hDL]
          have hd72 : DL ≤ 3072 := by rw [← hDL]; exact hl72
          have HDL := hid hDL
          clear hDL hl72
          rcases list_cases L with hLe | ⟨c, r, hLe⟩
          · obtain rfl : 0 = DL := by rw [← HDL.out, hLe]; rfl
            clear hLe
            go_wp2
            go_ret
            exact ⟨rfl, ⟨HB8.out.os, HB8.out.tape, HB8.out.output, HB8.out.size, HB8.out.block⟩⟩
          · have hk1 : 1 ≤ DL := by rw [← HDL.out, hLe]; simp
            have ik : (0 : Int) < (DL : Int) := by omega
            have hall := HP.out.2.1
            have slL := HP.out.2.2.2.1
            have lsL := HP.out.2.2.2.2.2
            clear HP HF
            obtain ⟨b1, o1, e1, hc1⟩ := slL 0 c (by rw [hLe]; rfl)
            subst e1
            have a0 : w8.cell? ⟨b1, o1, none⟩ = some (.int .i64 c.x) := by simpa using hc1 0 _ rfl
            have a1 : w8.cell? ⟨b1, o1 + 1, none⟩ = some (.int .i64 c.y) := by simpa using hc1 1 _ rfl
            have a2 : w8.cell? ⟨b1, o1 + 2, none⟩ = some (.int .u8 (c.o.toNat : Int)) := by simpa using hc1 2 _ rfl
            have a3 : w8.cell? ⟨b1, o1 + 3, none⟩ = some (.int .u8 (c.n.toNat : Int)) := by simpa using hc1 3 _ rfl
            have hne := (hall c (by rw [hLe]; simp)).2.2.2.2
            obtain ⟨wq, hwq⟩ : ∃ wq, w8.drewN q2 = wq := ⟨_, rfl⟩
            have hbq : Below W.heap.size W wq := by rw [← hwq]; exact ⟨HB8.out.os, HB8.out.tape, HB8.out.output, HB8.out.size, HB8.out.block⟩
            have lsq : S.Ls eC 4 wq (.slice (some ⟨b1, o1, none⟩) L.length c1) L := by rw [← hwq]; exact lsL
            have raq : Sl wq (.slice (some ⟨ga, 0, none⟩) 3072 xa) a := by rw [← hwq]; exact HA.out.sl
            have a0 : wq.cell? ⟨b1, o1, none⟩ = some (.int .i64 c.x) := by rw [← hwq]; exact a0
            have a1 : wq.cell? ⟨b1, o1 + 1, none⟩ = some (.int .i64 c.y) := by rw [← hwq]; exact a1
            have a2 : wq.cell? ⟨b1, o1 + 2, none⟩ = some (.int .u8 (c.o.toNat : Int)) := by rw [← hwq]; exact a2
            have a3 : wq.cell? ⟨b1, o1 + 3, none⟩ = some (.int .u8 (c.n.toNat : Int)) := by rw [← hwq]; exact a3
            rw [hwq]
            have hbz : Below wq.heap.size wq (wq.alloc (.cells (eC c).toArray 32)) := (Below.refl _ _).alloc (Nat.le_refl _) _
            have hcs := S.Ls.cs hC (by decide) oneC (lsq.below hbz)
            have hrw : (wq.alloc (.cells (eC c).toArray 32)).ownsRow wq.heap.size 32 4 (.slice (some ⟨wq.heap.size, 0, none⟩) 1 1) 1 (eC c) :=
              ⟨rfl, .inr ⟨wq.heap.size, 1, (eC c).toArray, rfl, Nat.le_refl _, heap_alloc_new wq _, Nat.le_refl _, by decide, rfl, rfl⟩⟩
            rw [HDL.out] at hcs
            have hen : S.en eC (c :: L) = eC c ++ S.en eC L := S.en_cons _ _ _
            have hel : (c :: L).length = 1 + DL := by rw [List.length_cons, HDL.out]; omega
            have e0 : apO a (c :: L) = none := by rw [apO, if_pos HAL.out, hLe]; exact ap_twice a c r hne HAL.out
            have HH := hid (And.intro hrw (And.intro hcs (And.intro hbz (And.intro hbq (And.intro raq (And.intro hen (And.intro hel e0)))))))
            clear hrw hbz hbq raq hne lsq lsL slL hall hcs hwq hc1 hLe hen hel e0
            obtain ⟨cx, cy, co, cn⟩ := c
            simp only at a0 a1 a2 a3
            clear HMM HKK HD HLM
            go_upto_region 23 with fail
            go_wp2_with (first | (at_builtin; refine S.wpList_append_row _ rfl _ _ 24 32 zC 4 24 Try.underlying24 infoS rfl (by decide) rfl wq.heap.size _ 1 (eC ⟨cx, cy, co, cn⟩) rfl HH.out.1 _ DL (S.en eC L) rfl HH.out.2.1 (by unfold S.room; omega) (by unfold maxLen; omega) HH.out.2.2.1.size ?_))
            intro v2 w9 hr9 hg9
            obtain ⟨hrw, hcs, hbz, hbq, raq, hen, hel, e0⟩ := HH.out
            have hg9' : S.Grew (wq.alloc (.cells (eC ⟨cx, cy, co, cn⟩).toArray 32)) w9 (.slice (some ⟨wq.heap.size, 0, none⟩) 1 1) v2 := hg9
            have hb9 : Below wq.heap.size wq w9 := hbz.trans (hg9'.below (fun g e => (hrw.lt g e).1) hbz.size)
            rw [← hen, ← hel] at hr9
            obtain ⟨pv, cv', hv2⟩ := own_val hr9
            have q9 := apply_any _ v2 a (⟨cx, cy, co, cn⟩ :: L) (by rw [hel]; omega) w9 (raq.below hb9) (S.own_sl hC hr9)
            rw [show apL a (⟨cx, cy, co, cn⟩ :: L) = [] by rw [apL, e0]; rfl, show apN a (⟨cx, cy, co, cn⟩ :: L) = 2 by rw [apN, e0]; rfl] at q9
            rw [hel] at hv2
            subst hv2
            have HZ := hid (hbq.trans (hb9.mono hbq.size))
            clear HH hrw hcs hbz hbq raq hen hel e0 hr9 hg9 hg9' hb9
            go_wp2_with fail
            refine q9.mono ?_
            rintro e w10 ⟨pz, cz, rfl, _, hb10⟩
            have HE := hid (HZ.out.trans (hb10.mono HZ.out.size))
            clear hb10 q9
            go_wp2
            go_ret
            exact ⟨rfl, HE.out⟩
end Go.Proofs.Ytlljelfplffglaa.H
