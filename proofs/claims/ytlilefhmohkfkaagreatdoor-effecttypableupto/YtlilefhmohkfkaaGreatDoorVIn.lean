import Derived.Test.YtlilefhmohkfkaaGreatDoorECatch
import Derived.Test.YtlilefhmohkfkaaGreatDoorQRNam
import Derived.Test.YtlilefhmohkfkaaGreatDoorTParts
namespace Go.Proofs.YtlilefhmohkfkaaGreatDoor.V
open Go.RowKit
open Go.Proofs
open Go.Proofs.YtlilefhmohkfkaaGreatDoor.Y (Nd Df Ps ndc dfc hid NV DV D1 cells6 BV)
set_option linter.unusedVariables false
set_option linter.unusedSimpArgs false
set_option maxHeartbeats 2000000
set_option maxRecDepth 100000
def SV (W : World) (v : Value) (ns : List ByteArray) : Prop := ∃ p c, v = .slice p ns.length c /\ ns.length <= 140737488355328 /\ ∀ (i : Nat) (s : ByteArray), ns[i]? = some s -> ∃ b o, p = some ⟨b, o, none⟩ /\ b < W.heap.size /\ W.cell? ⟨b, o + i, none⟩ = some (.string s)
theorem SV.below {W W' : World} {v : Value} {ns : List ByteArray} (h : SV W v ns) (k : Below W.heap.size W W') : SV W' v ns := by
  obtain ⟨p, c, rfl, hl, hp⟩ := h
  refine ⟨p, c, rfl, hl, fun i s hi => ?_⟩
  obtain ⟨b, o, e, hb, hc⟩ := hp i s hi
  exact ⟨b, o, e, Nat.lt_of_lt_of_le hb k.size, (World.cell?_of_block (w := W) (a := ⟨b, o + i, none⟩) (k.block b hb)).trans hc⟩
def inN (ns : List ByteArray) (x : ByteArray) : Bool := ns.any fun s => decide (s = x)
theorem inN_take (ns : List ByteArray) (x : ByteArray) (k : Nat) (s : ByteArray) (h : ns[k]? = some s) (h0 : inN (ns.take k) x = false) : inN (ns.take (k + 1)) x = decide (s = x) := by
  unfold inN at *
  rw [List.take_add_one, h, List.any_append, h0]
  simp
theorem inN_of (ns : List ByteArray) (x : ByteArray) (k : Nat) (h : inN (ns.take k) x = true) : inN ns x = true := by
  unfold inN at *
  rw [<- List.take_append_drop k ns, List.any_append, h, Bool.true_or]
theorem in_any (ns : List ByteArray) (x : ByteArray) (v : Value) (W : World) (h : SV W v ns) :
    Calls Tryz.prog 40 #[v, .string x] W fun e w' => e = .returned (.bool (inN ns x)) /\ Below W.heap.size W w' := by
  obtain ⟨p, c, rfl, hl, hp⟩ := h
  go_enter Tryz.func40, Tryz.ntmps40
  go_wp2
  go_loopw [5] (fun ix wr => ∃ k : Nat, k <= ns.length /\ ix = .int .i64 (k : Int) /\ Below W.heap.size W wr /\ inN (ns.take k) x = false) (fun ix _ => ns.length - (intOf ix).toNat)
  case atStart => exact ⟨0, by omega, rfl, Below.refl _ _, rfl⟩
  case round =>
    obtain ⟨k, hk, rfl, hb, hE⟩ := hrel
    by_cases hlt : k < ns.length
    · have i1 : (k : Int) < ns.length := by omega
      have ea := List.getElem?_eq_getElem hlt
      generalize ns[k] = d at *
      obtain ⟨b, o, rfl, hbl, hc⟩ := hp k d ea
      have g0 := (World.cell?_of_block (w := W) (a := ⟨b, o + k, none⟩) (hb.block b hbl)).trans hc
      have HT := hid (inN_take ns x k d ea hE)
      have HB := hid hb
      clear hp hc ea hE hb
      by_cases hy : d = x
      · subst hy
        go_wp2
        go_ret
        exact ⟨by rw [inN_of ns d _ (by rw [HT.out]; simp)]; rfl, HB.out⟩
      · have hy2 : (d.toList == x.toList) = false := by
          rw [beq_eq_false_iff_ne]
          intro e
          rw [ByteArray.toList_eq, ByteArray.toList_eq] at e
          exact hy (by cases d; cases x; simp only [Array.toList_inj] at e; rw [e])
        go_wp2
        go_roundw
        case rel =>
          first
            | exact ⟨k + 1, by omega, by go_num, HB.out, by rw [HT.out]; exact decide_eq_false hy⟩
            | ((repeat apply Exists.intro); refine ⟨⟨k + 1, by omega, ?_, HB.out, by rw [HT.out]; exact decide_eq_false hy⟩, rfl⟩; go_num)
        case measure => simp [intOf]; omega
    · have i1 : ¬ (k : Int) < ns.length := by omega
      rw [List.take_of_length_le (by omega)] at hE
      have HE := hid hE
      clear hE
      go_wp2
      go_ret
      exact ⟨by rw [HE.out]; rfl, hb⟩
open R (resL resW prN isRes isNm)
set_option linter.unusedVariables false
set_option linter.unusedSimpArgs false
set_option maxHeartbeats 2000000
set_option maxRecDepth 100000
def resN : List ByteArray := resL.map fun l => ⟨l.toArray⟩
structure GW (w : World) : Prop where
 lt : 0 < w.heap.size
 ex : ∃ v, w.cell? ⟨0, 0, none⟩ = some v /\ SV w v resN
theorem GW.below {W W' : World} (h : GW W) (k : Below W.heap.size W W') : GW W' := by
 obtain ⟨hl, v, hc, hs⟩ := h
 exact ⟨Nat.lt_of_lt_of_le hl k.size, v, (World.cell?_of_block (w := W) (a := ⟨0, 0, none⟩) (k.block 0 hl)).trans hc, hs.below k⟩
theorem inN_res (s : ByteArray) : inN resN s = resW s := by
 unfold inN resN resW
 rw [List.any_map]
 congr 1
 funext l
 show decide ((⟨l.toArray⟩ : ByteArray) = s) = (s.toList == l)
 rw [Bool.eq_iff_iff, decide_eq_true_eq, beq_iff_eq]
 constructor
 ·rintro rfl; rw [ByteArray.toList_eq]
 ·rintro rfl
  rw [ByteArray.toList_eq]
theorem nm_empty : ((List.range 64).all fun x => (P.nm x).toList.isEmpty == decide (x < 9)) = true := by kernel_rfl
theorem nm_e (x : Nat) (h : x < 64) : (P.nm x).toList.isEmpty = decide (x < 9) := by
 have := List.all_eq_true.1 nm_empty x (List.mem_range.2 h)
 simpa using this
theorem allN_mem (x : Nat) : x ∈ P.allN ↔ 1 <= x /\ x < 64 := by
 unfold P.allN
 rw [List.mem_range'_1]
theorem prN_yes (s : ByteArray) (x : Nat) (h9 : 9 <= x) (h : x < 64) (e : (P.nm x).toList = s.toList) : prN s = true := by
 unfold prN
 have h1 := nm_e x h
 rw [e, decide_eq_false (by omega)] at h1
 rw [h1]
 simp only [Bool.not_false, Bool.true_and]
 exact List.any_eq_true.2 ⟨x, (allN_mem x).2 ⟨by omega, h⟩, by simpa using e⟩
theorem prN_no (s : ByteArray) (h : ∀ x : Nat, 9 <= x -> x < 64 -> (P.nm x).toList ≠ s.toList) : prN s = false := by
 rw [Bool.eq_false_iff]
 intro c
 unfold prN at c
 rw [Bool.and_eq_true] at c
 obtain ⟨x, hx, e⟩ := List.any_eq_true.1 c.2
 have hx2 := (allN_mem x).1 hx
 have e2 : (P.nm x).toList = s.toList := by simpa using e
 by_cases h9 : 9 <= x
 ·exact h x h9 hx2.2 e2
 ·have h1 := nm_e x hx2.2
  rw [e2, decide_eq_true (by omega)] at h1
  rw [h1] at c
  cases c.1
theorem rnamed_b (s : ByteArray) (w : World) : Calls Tryz.prog 61 #[.string s] w fun e w' => (∃ a0 a1 a2 a3 a4 a5, e = .returned (.tuple #[.agg #[.int .i64 a0, .string a1, .int .i64 a2, .int .i64 a3, .int .i64 a4, .bool a5], .bool (prN s)])) /\ Below w.heap.size w w' :=
 (Q.rnamed_any s w).mono fun e w' h => by
  rcases h with ⟨⟨x, h9, h64, he, rfl⟩ | ⟨hn, rfl⟩, hb⟩
  ·rw [prN_yes s x h9 h64 he]
   exact ⟨⟨_, _, _, _, _, _, rfl⟩, hb⟩
  ·rw [prN_no s hn]
   exact ⟨⟨_, _, _, _, _, _, rfl⟩, hb⟩
theorem reserved_any (s : ByteArray) (w : World) (hG : GW w) : Calls Tryz.prog 52 #[.string s] w fun e w' => e = .returned (.bool (isRes s)) /\ Below w.heap.size w w' := by
 have hn := rnamed_b s w
 have hI : ∀ w', GW w' -> ∃ p c, w'.cell? ⟨0, 0, none⟩ = some (.slice p resN.length c) /\ Calls Tryz.prog 40 #[.slice p resN.length c, .string s] w' fun e w2 => e = .returned (.bool (resW s)) /\ Below w'.heap.size w' w2 := fun w' h => by
  obtain ⟨_, v, hc, hs⟩ := h
  obtain ⟨p, c, rfl, _, _⟩ := id hs
  exact ⟨p, c, hc, (inN_res s) ▸ in_any resN s _ w' hs⟩
 have HI := hid hI
 have HG := hid hG
 clear hI hG
 unfold isRes
 go_enter Tryz.func52, Tryz.ntmps52
 go_wp2_with fail
 refine hn.mono ?_
 rintro e w1 ⟨⟨a0, a1, a2, a3, a4, a5, rfl⟩, hb⟩
 clear hn
 obtain ⟨W2, hW2⟩ : ∃ W2, w1.alloc (.cells #[.int .i64 a0, .string a1, .int .i64 a2, .int .i64 a3, .int .i64 a4, .bool a5] 119) = W2 := ⟨_, rfl⟩
 have hB2 : Below w.heap.size w W2 := by rw [<- hW2]; exact hb.alloc hb.size _
 obtain ⟨p, c, hc, hcall⟩ := HI.out W2 (HG.out.below hB2)
 have HB2 := hid hB2
 clear hb hB2
 generalize hr : resW s = r at *
 generalize hz : prN s = z at *
 have HR := hid (And.intro hr hz)
 clear hr hz
 cases z
 ·go_wp2_with fail
  refine hcall.mono ?_
  rintro e w3 ⟨rfl, hb3⟩
  clear hcall hc
  have HB3 := hid (HB2.out.trans (hb3.mono HB2.out.size))
  clear hb3
  go_wp2
  go_ret
  exact ⟨by rw [HR.out.1, HR.out.2]; simp, HB3.out⟩
 ·go_wp2
  go_ret
  exact ⟨by rw [HR.out.1, HR.out.2]; simp, HB2.out⟩
theorem mayName_any (s : ByteArray) (hs : s.size <= maxLen) (w : World) (hG : GW w) : Calls Tryz.prog 39 #[.string s] w fun e w' => e = .returned (.bool (isNm s)) /\ Below w.heap.size w w' := by
 have hc := T.rname_any s hs w
 have hd : ∀ w', Below w.heap.size w w' -> Calls Tryz.prog 52 #[.string s] w' fun e w2 => e = .returned (.bool (isRes s)) /\ Below w'.heap.size w' w2 := fun w' hb => reserved_any s w' (hG.below hb)
 have HD := hid hd
 clear hd hG
 unfold isNm
 generalize T.nameB s.data.toList = z at *
 generalize isRes s = r at *
 go_enter Tryz.func39, Tryz.ntmps39
 go_wp2_with fail
 refine hc.mono ?_
 rintro e w1 ⟨rfl, hb⟩
 clear hc
 have HB := hid hb
 clear hb
 cases z
 ·go_wp2
  go_ret
  exact ⟨rfl, HB.out⟩
 ·go_wp2_with fail
  refine (HD.out _ HB.out).mono ?_
  rintro e w2 ⟨rfl, hb2⟩
  have HB2 := hid (HB.out.trans (hb2.mono HB.out.size))
  clear hb2
  go_wp2
  go_ret
  exact ⟨by cases r <;> rfl, HB2.out⟩
open Go.Proofs.YtlilefhmohkfkaaGreatDoor.Y (Nd Df Ps ndc dfc hid)
open R (usesF strc uses len_ne)
set_option linter.unusedVariables false
set_option linter.unusedSimpArgs false
set_option maxHeartbeats 2000000
set_option maxRecDepth 100000
theorem ho_1_0 (op v p1 p2 : Int) (nm : ByteArray) (n1 n2 d1 d2 : Nat) (q1 q2 : Option Addr) (has : Bool) (W : World) (h_v : (v == 0) = false) :
 R.NF 62 1 op v nm q1 n1 d1 q2 n2 d2 has p1 p2 W false := by
 unfold R.NF
 have g_v : ¬ v = 0 := by simpa using h_v
 obtain ⟨W1, hW1, HB, x0, x1, x2, x3, x4, x5, x6, f1⟩ := R.nbx 1 op v nm q1 n1 d1 q2 n2 d2 has p1 p2 W
 go_enter Tryz.func62, Tryz.ntmps62
 go_wp2
 go_ret
 exact ⟨rfl, by repeat (first | exact HB.out | exact R.nal | apply R.nst)⟩
theorem ho_1_1 (op v p1 p2 : Int) (nm : ByteArray) (n1 n2 d1 d2 : Nat) (q1 q2 : Option Addr) (has : Bool) (W : World) (h_v : (v == 0) = true) (h_nm : nm.toList.isEmpty = false) :
 R.NF 62 1 op v nm q1 n1 d1 q2 n2 d2 has p1 p2 W false := by
 unfold R.NF
 have g_v : v = 0 := by simpa using h_v
 have g_nm : ¬ nm.toList = [] := by simpa using h_nm
 obtain ⟨W1, hW1, HB, x0, x1, x2, x3, x4, x5, x6, f1⟩ := R.nbx 1 op v nm q1 n1 d1 q2 n2 d2 has p1 p2 W
 go_enter Tryz.func62, Tryz.ntmps62
 go_wp2
 go_ret
 exact ⟨rfl, by repeat (first | exact HB.out | exact R.nal | apply R.nst)⟩
theorem ho_1_2 (op v p1 p2 : Int) (nm : ByteArray) (n1 n2 d1 d2 : Nat) (q1 q2 : Option Addr) (has : Bool) (W : World) (h_v : (v == 0) = true) (h_nm : nm.toList.isEmpty = true) :
 R.NF 62 1 op v nm q1 n1 d1 q2 n2 d2 true p1 p2 W false := by
 unfold R.NF
 have g_v : v = 0 := by simpa using h_v
 have g_nm : nm.toList = [] := by simpa using h_nm
 obtain ⟨W1, hW1, HB, x0, x1, x2, x3, x4, x5, x6, f1⟩ := R.nbx 1 op v nm q1 n1 d1 q2 n2 d2 true p1 p2 W
 go_enter Tryz.func62, Tryz.ntmps62
 go_wp2
 go_ret
 exact ⟨rfl, by repeat (first | exact HB.out | exact R.nal | apply R.nst)⟩
theorem ho_1_3 (op v p1 p2 : Int) (nm : ByteArray) (n1 n2 d1 d2 : Nat) (q1 q2 : Option Addr) (has : Bool) (W : World) (h_v : (v == 0) = true) (h_nm : nm.toList.isEmpty = true) (h_th : (((n1 + 1 : Nat) : Int) == 0) = false) :
 R.NF 62 1 op v nm q1 (n1 + 1) d1 q2 n2 d2 false p1 p2 W false := by
 unfold R.NF
 have g_v : v = 0 := by simpa using h_v
 have g_nm : nm.toList = [] := by simpa using h_nm
 obtain ⟨W1, hW1, HB, x0, x1, x2, x3, x4, x5, x6, f1⟩ := R.nbx 1 op v nm q1 (n1 + 1) d1 q2 n2 d2 false p1 p2 W
 go_enter Tryz.func62, Tryz.ntmps62
 go_wp2
 go_ret
 exact ⟨rfl, by repeat (first | exact HB.out | exact R.nal | apply R.nst)⟩
theorem ho_1_4 (op v p1 p2 : Int) (nm : ByteArray) (n1 n2 d1 d2 : Nat) (q1 q2 : Option Addr) (has : Bool) (W : World) (h_v : (v == 0) = true) (h_nm : nm.toList.isEmpty = true) (h_el : (((n2 + 1 : Nat) : Int) == 0) = false) :
 R.NF 62 1 op v nm q1 0 d1 q2 (n2 + 1) d2 false p1 p2 W false := by
 unfold R.NF
 have g_v : v = 0 := by simpa using h_v
 have g_nm : nm.toList = [] := by simpa using h_nm
 obtain ⟨W1, hW1, HB, x0, x1, x2, x3, x4, x5, x6, f1⟩ := R.nbx 1 op v nm q1 0 d1 q2 (n2 + 1) d2 false p1 p2 W
 go_enter Tryz.func62, Tryz.ntmps62
 go_wp2
 go_ret
 exact ⟨rfl, by repeat (first | exact HB.out | exact R.nal | apply R.nst)⟩
theorem ho_1_5 (op v p1 p2 : Int) (nm : ByteArray) (n1 n2 d1 d2 : Nat) (q1 q2 : Option Addr) (has : Bool) (W : World) (h_v : (v == 0) = true) (h_nm : nm.toList.isEmpty = true) :
 R.NF 62 1 op v nm q1 0 d1 q2 0 d2 false p1 p2 W true := by
 unfold R.NF
 have g_v : v = 0 := by simpa using h_v
 have g_nm : nm.toList = [] := by simpa using h_nm
 obtain ⟨W1, hW1, HB, x0, x1, x2, x3, x4, x5, x6, f1⟩ := R.nbx 1 op v nm q1 0 d1 q2 0 d2 false p1 p2 W
 go_enter Tryz.func62, Tryz.ntmps62
 go_wp2
 go_ret
 exact ⟨rfl, by repeat (first | exact HB.out | exact R.nal | apply R.nst)⟩
theorem ho_2_0 (op v p1 p2 : Int) (nm : ByteArray) (n1 n2 d1 d2 : Nat) (q1 q2 : Option Addr) (has : Bool) (W : World) (h_op : (op == 0) = false) :
 R.NF 62 2 op v nm q1 n1 d1 q2 n2 d2 has p1 p2 W false := by
 unfold R.NF
 have g_op : ¬ op = 0 := by simpa using h_op
 obtain ⟨W1, hW1, HB, x0, x1, x2, x3, x4, x5, x6, f1⟩ := R.nbx 2 op v nm q1 n1 d1 q2 n2 d2 has p1 p2 W
 go_enter Tryz.func62, Tryz.ntmps62
 go_wp2
 go_ret
 exact ⟨rfl, by repeat (first | exact HB.out | exact R.nal | apply R.nst)⟩
theorem ho_2_1 (op v p1 p2 : Int) (nm : ByteArray) (n1 n2 d1 d2 : Nat) (q1 q2 : Option Addr) (has : Bool) (W : World) (h_op : (op == 0) = true) (h_nm : nm.toList.isEmpty = false) :
 R.NF 62 2 op v nm q1 n1 d1 q2 n2 d2 has p1 p2 W false := by
 unfold R.NF
 have g_op : op = 0 := by simpa using h_op
 have g_nm : ¬ nm.toList = [] := by simpa using h_nm
 obtain ⟨W1, hW1, HB, x0, x1, x2, x3, x4, x5, x6, f1⟩ := R.nbx 2 op v nm q1 n1 d1 q2 n2 d2 has p1 p2 W
 go_enter Tryz.func62, Tryz.ntmps62
 go_wp2
 go_ret
 exact ⟨rfl, by repeat (first | exact HB.out | exact R.nal | apply R.nst)⟩
theorem ho_2_2 (op v p1 p2 : Int) (nm : ByteArray) (n1 n2 d1 d2 : Nat) (q1 q2 : Option Addr) (has : Bool) (W : World) (h_op : (op == 0) = true) (h_nm : nm.toList.isEmpty = true) :
 R.NF 62 2 op v nm q1 n1 d1 q2 n2 d2 true p1 p2 W false := by
 unfold R.NF
 have g_op : op = 0 := by simpa using h_op
 have g_nm : nm.toList = [] := by simpa using h_nm
 obtain ⟨W1, hW1, HB, x0, x1, x2, x3, x4, x5, x6, f1⟩ := R.nbx 2 op v nm q1 n1 d1 q2 n2 d2 true p1 p2 W
 go_enter Tryz.func62, Tryz.ntmps62
 go_wp2
 go_ret
 exact ⟨rfl, by repeat (first | exact HB.out | exact R.nal | apply R.nst)⟩
theorem ho_2_3 (op v p1 p2 : Int) (nm : ByteArray) (n1 n2 d1 d2 : Nat) (q1 q2 : Option Addr) (has : Bool) (W : World) (h_op : (op == 0) = true) (h_nm : nm.toList.isEmpty = true) (h_th : (((n1 + 1 : Nat) : Int) == 0) = false) :
 R.NF 62 2 op v nm q1 (n1 + 1) d1 q2 n2 d2 false p1 p2 W false := by
 unfold R.NF
 have g_op : op = 0 := by simpa using h_op
 have g_nm : nm.toList = [] := by simpa using h_nm
 obtain ⟨W1, hW1, HB, x0, x1, x2, x3, x4, x5, x6, f1⟩ := R.nbx 2 op v nm q1 (n1 + 1) d1 q2 n2 d2 false p1 p2 W
 go_enter Tryz.func62, Tryz.ntmps62
 go_wp2
 go_ret
 exact ⟨rfl, by repeat (first | exact HB.out | exact R.nal | apply R.nst)⟩
theorem ho_2_4 (op v p1 p2 : Int) (nm : ByteArray) (n1 n2 d1 d2 : Nat) (q1 q2 : Option Addr) (has : Bool) (W : World) (h_op : (op == 0) = true) (h_nm : nm.toList.isEmpty = true) (h_el : (((n2 + 1 : Nat) : Int) == 0) = false) :
 R.NF 62 2 op v nm q1 0 d1 q2 (n2 + 1) d2 false p1 p2 W false := by
 unfold R.NF
 have g_op : op = 0 := by simpa using h_op
 have g_nm : nm.toList = [] := by simpa using h_nm
 obtain ⟨W1, hW1, HB, x0, x1, x2, x3, x4, x5, x6, f1⟩ := R.nbx 2 op v nm q1 0 d1 q2 (n2 + 1) d2 false p1 p2 W
 go_enter Tryz.func62, Tryz.ntmps62
 go_wp2
 go_ret
 exact ⟨rfl, by repeat (first | exact HB.out | exact R.nal | apply R.nst)⟩
theorem ho_2_5 (op v p1 p2 : Int) (nm : ByteArray) (n1 n2 d1 d2 : Nat) (q1 q2 : Option Addr) (has : Bool) (W : World) (h_op : (op == 0) = true) (h_nm : nm.toList.isEmpty = true) :
 R.NF 62 2 op v nm q1 0 d1 q2 0 d2 false p1 p2 W true := by
 unfold R.NF
 have g_op : op = 0 := by simpa using h_op
 have g_nm : nm.toList = [] := by simpa using h_nm
 obtain ⟨W1, hW1, HB, x0, x1, x2, x3, x4, x5, x6, f1⟩ := R.nbx 2 op v nm q1 0 d1 q2 0 d2 false p1 p2 W
 go_enter Tryz.func62, Tryz.ntmps62
 go_wp2
 go_ret
 exact ⟨rfl, by repeat (first | exact HB.out | exact R.nal | apply R.nst)⟩
theorem ho_3_0 (op v p1 p2 : Int) (nm : ByteArray) (n1 n2 d1 d2 : Nat) (q1 q2 : Option Addr) (has : Bool) (W : World) (h_op : (op == 0) = false) :
 R.NF 62 3 op v nm q1 n1 d1 q2 n2 d2 has p1 p2 W false := by
 unfold R.NF
 have g_op : ¬ op = 0 := by simpa using h_op
 obtain ⟨W1, hW1, HB, x0, x1, x2, x3, x4, x5, x6, f1⟩ := R.nbx 3 op v nm q1 n1 d1 q2 n2 d2 has p1 p2 W
 go_enter Tryz.func62, Tryz.ntmps62
 go_wp2
 go_ret
 exact ⟨rfl, by repeat (first | exact HB.out | exact R.nal | apply R.nst)⟩
theorem ho_3_1 (op v p1 p2 : Int) (nm : ByteArray) (n1 n2 d1 d2 : Nat) (q1 q2 : Option Addr) (has : Bool) (W : World) (h_op : (op == 0) = true) (h_v : (v == 0) = false) :
 R.NF 62 3 op v nm q1 n1 d1 q2 n2 d2 has p1 p2 W false := by
 unfold R.NF
 have g_op : op = 0 := by simpa using h_op
 have g_v : ¬ v = 0 := by simpa using h_v
 obtain ⟨W1, hW1, HB, x0, x1, x2, x3, x4, x5, x6, f1⟩ := R.nbx 3 op v nm q1 n1 d1 q2 n2 d2 has p1 p2 W
 go_enter Tryz.func62, Tryz.ntmps62
 go_wp2
 go_ret
 exact ⟨rfl, by repeat (first | exact HB.out | exact R.nal | apply R.nst)⟩
theorem ho_3_2 (op v p1 p2 : Int) (nm : ByteArray) (n1 n2 d1 d2 : Nat) (q1 q2 : Option Addr) (has : Bool) (W : World) (h_op : (op == 0) = true) (h_v : (v == 0) = true) :
 R.NF 62 3 op v nm q1 n1 d1 q2 n2 d2 true p1 p2 W false := by
 unfold R.NF
 have g_op : op = 0 := by simpa using h_op
 have g_v : v = 0 := by simpa using h_v
 obtain ⟨W1, hW1, HB, x0, x1, x2, x3, x4, x5, x6, f1⟩ := R.nbx 3 op v nm q1 n1 d1 q2 n2 d2 true p1 p2 W
 go_enter Tryz.func62, Tryz.ntmps62
 go_wp2
 go_ret
 exact ⟨rfl, by repeat (first | exact HB.out | exact R.nal | apply R.nst)⟩
theorem ho_3_3 (op v p1 p2 : Int) (nm : ByteArray) (n1 n2 d1 d2 : Nat) (q1 q2 : Option Addr) (has : Bool) (W : World) (h_op : (op == 0) = true) (h_v : (v == 0) = true) (h_th : (((n1 + 1 : Nat) : Int) == 0) = false) :
 R.NF 62 3 op v nm q1 (n1 + 1) d1 q2 n2 d2 false p1 p2 W false := by
 unfold R.NF
 have g_op : op = 0 := by simpa using h_op
 have g_v : v = 0 := by simpa using h_v
 obtain ⟨W1, hW1, HB, x0, x1, x2, x3, x4, x5, x6, f1⟩ := R.nbx 3 op v nm q1 (n1 + 1) d1 q2 n2 d2 false p1 p2 W
 go_enter Tryz.func62, Tryz.ntmps62
 go_wp2
 go_ret
 exact ⟨rfl, by repeat (first | exact HB.out | exact R.nal | apply R.nst)⟩
theorem ho_3_4 (op v p1 p2 : Int) (nm : ByteArray) (n1 n2 d1 d2 : Nat) (q1 q2 : Option Addr) (has : Bool) (W : World) (h_op : (op == 0) = true) (h_v : (v == 0) = true) (h_el : (((n2 + 1 : Nat) : Int) == 0) = false) :
 R.NF 62 3 op v nm q1 0 d1 q2 (n2 + 1) d2 false p1 p2 W false := by
 unfold R.NF
 have g_op : op = 0 := by simpa using h_op
 have g_v : v = 0 := by simpa using h_v
 obtain ⟨W1, hW1, HB, x0, x1, x2, x3, x4, x5, x6, f1⟩ := R.nbx 3 op v nm q1 0 d1 q2 (n2 + 1) d2 false p1 p2 W
 go_enter Tryz.func62, Tryz.ntmps62
 go_wp2
 go_ret
 exact ⟨rfl, by repeat (first | exact HB.out | exact R.nal | apply R.nst)⟩
theorem ho_3_5 (op v p1 p2 : Int) (nm : ByteArray) (n1 n2 d1 d2 : Nat) (q1 q2 : Option Addr) (has : Bool) (W : World) (h_op : (op == 0) = true) (h_v : (v == 0) = true) :
 R.NF 62 3 op v nm q1 0 d1 q2 0 d2 false p1 p2 W true := by
 unfold R.NF
 have g_op : op = 0 := by simpa using h_op
 have g_v : v = 0 := by simpa using h_v
 obtain ⟨W1, hW1, HB, x0, x1, x2, x3, x4, x5, x6, f1⟩ := R.nbx 3 op v nm q1 0 d1 q2 0 d2 false p1 p2 W
 go_enter Tryz.func62, Tryz.ntmps62
 go_wp2
 go_ret
 exact ⟨rfl, by repeat (first | exact HB.out | exact R.nal | apply R.nst)⟩
theorem ho_4f_0 (op v p1 p2 : Int) (nm : ByteArray) (n1 n2 d1 d2 : Nat) (q1 q2 : Option Addr) (has : Bool) (W : World) (h_op : (op == 0) = false) :
 R.NF 62 4 op v nm q1 n1 d1 q2 n2 d2 false p1 p2 W false := by
 unfold R.NF
 have g_op : ¬ op = 0 := by simpa using h_op
 obtain ⟨W1, hW1, HB, x0, x1, x2, x3, x4, x5, x6, f1⟩ := R.nbx 4 op v nm q1 n1 d1 q2 n2 d2 false p1 p2 W
 go_enter Tryz.func62, Tryz.ntmps62
 go_wp2
 go_ret
 exact ⟨rfl, by repeat (first | exact HB.out | exact R.nal | apply R.nst)⟩
theorem ho_4f_1 (op v p1 p2 : Int) (nm : ByteArray) (n1 n2 d1 d2 : Nat) (q1 q2 : Option Addr) (has : Bool) (W : World) (h_op : (op == 0) = true) (h_v : (v == 0) = false) :
 R.NF 62 4 op v nm q1 n1 d1 q2 n2 d2 false p1 p2 W false := by
 unfold R.NF
 have g_op : op = 0 := by simpa using h_op
 have g_v : ¬ v = 0 := by simpa using h_v
 obtain ⟨W1, hW1, HB, x0, x1, x2, x3, x4, x5, x6, f1⟩ := R.nbx 4 op v nm q1 n1 d1 q2 n2 d2 false p1 p2 W
 go_enter Tryz.func62, Tryz.ntmps62
 go_wp2
 go_ret
 exact ⟨rfl, by repeat (first | exact HB.out | exact R.nal | apply R.nst)⟩
theorem ho_4f_2 (op v p1 p2 : Int) (nm : ByteArray) (n1 n2 d1 d2 : Nat) (q1 q2 : Option Addr) (has : Bool) (W : World) (h_op : (op == 0) = true) (h_v : (v == 0) = true) (h_nm : nm.toList.isEmpty = false) :
 R.NF 62 4 op v nm q1 n1 d1 q2 n2 d2 false p1 p2 W false := by
 unfold R.NF
 have g_op : op = 0 := by simpa using h_op
 have g_v : v = 0 := by simpa using h_v
 have g_nm : ¬ nm.toList = [] := by simpa using h_nm
 obtain ⟨W1, hW1, HB, x0, x1, x2, x3, x4, x5, x6, f1⟩ := R.nbx 4 op v nm q1 n1 d1 q2 n2 d2 false p1 p2 W
 go_enter Tryz.func62, Tryz.ntmps62
 go_wp2
 go_ret
 exact ⟨rfl, by repeat (first | exact HB.out | exact R.nal | apply R.nst)⟩
theorem ho_4f_3 (op v p1 p2 : Int) (nm : ByteArray) (n1 n2 d1 d2 : Nat) (q1 q2 : Option Addr) (has : Bool) (W : World) (h_op : (op == 0) = true) (h_v : (v == 0) = true) (h_nm : nm.toList.isEmpty = true) (h_el : (((n2 + 1 : Nat) : Int) == 0) = false) :
 R.NF 62 4 op v nm q1 n1 d1 q2 (n2 + 1) d2 false p1 p2 W false := by
 unfold R.NF
 have g_op : op = 0 := by simpa using h_op
 have g_v : v = 0 := by simpa using h_v
 have g_nm : nm.toList = [] := by simpa using h_nm
 obtain ⟨W1, hW1, HB, x0, x1, x2, x3, x4, x5, x6, f1⟩ := R.nbx 4 op v nm q1 n1 d1 q2 (n2 + 1) d2 false p1 p2 W
 go_enter Tryz.func62, Tryz.ntmps62
 go_wp2
 go_ret
 exact ⟨rfl, by repeat (first | exact HB.out | exact R.nal | apply R.nst)⟩
theorem ho_4f_4 (op v p1 p2 : Int) (nm : ByteArray) (n1 n2 d1 d2 : Nat) (q1 q2 : Option Addr) (has : Bool) (W : World) (h_op : (op == 0) = true) (h_v : (v == 0) = true) (h_nm : nm.toList.isEmpty = true) :
 R.NF 62 4 op v nm q1 n1 d1 q2 0 d2 false p1 p2 W true := by
 unfold R.NF
 have g_op : op = 0 := by simpa using h_op
 have g_v : v = 0 := by simpa using h_v
 have g_nm : nm.toList = [] := by simpa using h_nm
 obtain ⟨W1, hW1, HB, x0, x1, x2, x3, x4, x5, x6, f1⟩ := R.nbx 4 op v nm q1 n1 d1 q2 0 d2 false p1 p2 W
 go_enter Tryz.func62, Tryz.ntmps62
 go_wp2
 go_ret
 exact ⟨rfl, by repeat (first | exact HB.out | exact R.nal | apply R.nst)⟩
theorem ho_4t_0 (op v p1 p2 : Int) (nm : ByteArray) (n1 n2 d1 d2 : Nat) (q1 q2 : Option Addr) (has : Bool) (W : World) (h_op : (op == 0) = false) :
 R.NF 62 4 op v nm q1 n1 d1 q2 n2 d2 true p1 p2 W false := by
 unfold R.NF
 have g_op : ¬ op = 0 := by simpa using h_op
 obtain ⟨W1, hW1, HB, x0, x1, x2, x3, x4, x5, x6, f1⟩ := R.nbx 4 op v nm q1 n1 d1 q2 n2 d2 true p1 p2 W
 go_enter Tryz.func62, Tryz.ntmps62
 go_wp2
 go_ret
 exact ⟨rfl, by repeat (first | exact HB.out | exact R.nal | apply R.nst)⟩
theorem ho_4t_1 (op v p1 p2 : Int) (nm : ByteArray) (n1 n2 d1 d2 : Nat) (q1 q2 : Option Addr) (has : Bool) (W : World) (h_op : (op == 0) = true) (h_v : (v == 0) = false) :
 R.NF 62 4 op v nm q1 n1 d1 q2 n2 d2 true p1 p2 W false := by
 unfold R.NF
 have g_op : op = 0 := by simpa using h_op
 have g_v : ¬ v = 0 := by simpa using h_v
 obtain ⟨W1, hW1, HB, x0, x1, x2, x3, x4, x5, x6, f1⟩ := R.nbx 4 op v nm q1 n1 d1 q2 n2 d2 true p1 p2 W
 go_enter Tryz.func62, Tryz.ntmps62
 go_wp2
 go_ret
 exact ⟨rfl, by repeat (first | exact HB.out | exact R.nal | apply R.nst)⟩
theorem ho_4t_2 (op v p1 p2 : Int) (nm : ByteArray) (n1 n2 d1 d2 : Nat) (q1 q2 : Option Addr) (has : Bool) (W : World) (h_op : (op == 0) = true) (h_v : (v == 0) = true) (h_nm : nm.toList.isEmpty = false) :
 R.NF 62 4 op v nm q1 n1 d1 q2 n2 d2 true p1 p2 W false := by
 unfold R.NF
 have g_op : op = 0 := by simpa using h_op
 have g_v : v = 0 := by simpa using h_v
 have g_nm : ¬ nm.toList = [] := by simpa using h_nm
 obtain ⟨W1, hW1, HB, x0, x1, x2, x3, x4, x5, x6, f1⟩ := R.nbx 4 op v nm q1 n1 d1 q2 n2 d2 true p1 p2 W
 go_enter Tryz.func62, Tryz.ntmps62
 go_wp2
 go_ret
 exact ⟨rfl, by repeat (first | exact HB.out | exact R.nal | apply R.nst)⟩
theorem ho_4t_3 (op v p1 p2 : Int) (nm : ByteArray) (n1 n2 d1 d2 : Nat) (q1 q2 : Option Addr) (has : Bool) (W : World) (h_op : (op == 0) = true) (h_v : (v == 0) = true) (h_nm : nm.toList.isEmpty = true) :
 R.NF 62 4 op v nm q1 n1 d1 q2 n2 d2 true p1 p2 W true := by
 unfold R.NF
 have g_op : op = 0 := by simpa using h_op
 have g_v : v = 0 := by simpa using h_v
 have g_nm : nm.toList = [] := by simpa using h_nm
 obtain ⟨W1, hW1, HB, x0, x1, x2, x3, x4, x5, x6, f1⟩ := R.nbx 4 op v nm q1 n1 d1 q2 n2 d2 true p1 p2 W
 go_enter Tryz.func62, Tryz.ntmps62
 go_wp2
 go_ret
 exact ⟨rfl, by repeat (first | exact HB.out | exact R.nal | apply R.nst)⟩
theorem ho_5_0 (op v p1 p2 : Int) (nm : ByteArray) (n1 n2 d1 d2 : Nat) (q1 q2 : Option Addr) (has : Bool) (W : World) (h_op : (op == 0) = false) :
 R.NF 62 5 op v nm q1 n1 d1 q2 n2 d2 has p1 p2 W false := by
 unfold R.NF
 have g_op : ¬ op = 0 := by simpa using h_op
 obtain ⟨W1, hW1, HB, x0, x1, x2, x3, x4, x5, x6, f1⟩ := R.nbx 5 op v nm q1 n1 d1 q2 n2 d2 has p1 p2 W
 go_enter Tryz.func62, Tryz.ntmps62
 go_wp2
 go_ret
 exact ⟨rfl, by repeat (first | exact HB.out | exact R.nal | apply R.nst)⟩
theorem ho_5_1 (op v p1 p2 : Int) (nm : ByteArray) (n1 n2 d1 d2 : Nat) (q1 q2 : Option Addr) (has : Bool) (W : World) (h_op : (op == 0) = true) (h_v : (v == 0) = false) :
 R.NF 62 5 op v nm q1 n1 d1 q2 n2 d2 has p1 p2 W false := by
 unfold R.NF
 have g_op : op = 0 := by simpa using h_op
 have g_v : ¬ v = 0 := by simpa using h_v
 obtain ⟨W1, hW1, HB, x0, x1, x2, x3, x4, x5, x6, f1⟩ := R.nbx 5 op v nm q1 n1 d1 q2 n2 d2 has p1 p2 W
 go_enter Tryz.func62, Tryz.ntmps62
 go_wp2
 go_ret
 exact ⟨rfl, by repeat (first | exact HB.out | exact R.nal | apply R.nst)⟩
theorem ho_5_2 (op v p1 p2 : Int) (nm : ByteArray) (n1 n2 d1 d2 : Nat) (q1 q2 : Option Addr) (has : Bool) (W : World) (h_op : (op == 0) = true) (h_v : (v == 0) = true) (h_nm : nm.toList.isEmpty = false) :
 R.NF 62 5 op v nm q1 n1 d1 q2 n2 d2 has p1 p2 W false := by
 unfold R.NF
 have g_op : op = 0 := by simpa using h_op
 have g_v : v = 0 := by simpa using h_v
 have g_nm : ¬ nm.toList = [] := by simpa using h_nm
 obtain ⟨W1, hW1, HB, x0, x1, x2, x3, x4, x5, x6, f1⟩ := R.nbx 5 op v nm q1 n1 d1 q2 n2 d2 has p1 p2 W
 go_enter Tryz.func62, Tryz.ntmps62
 go_wp2
 go_ret
 exact ⟨rfl, by repeat (first | exact HB.out | exact R.nal | apply R.nst)⟩
theorem ho_5_3 (op v p1 p2 : Int) (nm : ByteArray) (n1 n2 d1 d2 : Nat) (q1 q2 : Option Addr) (has : Bool) (W : World) (h_op : (op == 0) = true) (h_v : (v == 0) = true) (h_nm : nm.toList.isEmpty = true) :
 R.NF 62 5 op v nm q1 n1 d1 q2 n2 d2 true p1 p2 W false := by
 unfold R.NF
 have g_op : op = 0 := by simpa using h_op
 have g_v : v = 0 := by simpa using h_v
 have g_nm : nm.toList = [] := by simpa using h_nm
 obtain ⟨W1, hW1, HB, x0, x1, x2, x3, x4, x5, x6, f1⟩ := R.nbx 5 op v nm q1 n1 d1 q2 n2 d2 true p1 p2 W
 go_enter Tryz.func62, Tryz.ntmps62
 go_wp2
 go_ret
 exact ⟨rfl, by repeat (first | exact HB.out | exact R.nal | apply R.nst)⟩
theorem ho_5_4 (op v p1 p2 : Int) (nm : ByteArray) (n1 n2 d1 d2 : Nat) (q1 q2 : Option Addr) (has : Bool) (W : World) (h_op : (op == 0) = true) (h_v : (v == 0) = true) (h_nm : nm.toList.isEmpty = true) (h_el : (((n2 + 1 : Nat) : Int) == 0) = false) :
 R.NF 62 5 op v nm q1 n1 d1 q2 (n2 + 1) d2 false p1 p2 W false := by
 unfold R.NF
 have g_op : op = 0 := by simpa using h_op
 have g_v : v = 0 := by simpa using h_v
 have g_nm : nm.toList = [] := by simpa using h_nm
 obtain ⟨W1, hW1, HB, x0, x1, x2, x3, x4, x5, x6, f1⟩ := R.nbx 5 op v nm q1 n1 d1 q2 (n2 + 1) d2 false p1 p2 W
 go_enter Tryz.func62, Tryz.ntmps62
 go_wp2
 go_ret
 exact ⟨rfl, by repeat (first | exact HB.out | exact R.nal | apply R.nst)⟩
theorem ho_5_5 (op v p1 p2 : Int) (nm : ByteArray) (n1 n2 d1 d2 : Nat) (q1 q2 : Option Addr) (has : Bool) (W : World) (h_op : (op == 0) = true) (h_v : (v == 0) = true) (h_nm : nm.toList.isEmpty = true) :
 R.NF 62 5 op v nm q1 n1 d1 q2 0 d2 false p1 p2 W true := by
 unfold R.NF
 have g_op : op = 0 := by simpa using h_op
 have g_v : v = 0 := by simpa using h_v
 have g_nm : nm.toList = [] := by simpa using h_nm
 obtain ⟨W1, hW1, HB, x0, x1, x2, x3, x4, x5, x6, f1⟩ := R.nbx 5 op v nm q1 n1 d1 q2 0 d2 false p1 p2 W
 go_enter Tryz.func62, Tryz.ntmps62
 go_wp2
 go_ret
 exact ⟨rfl, by repeat (first | exact HB.out | exact R.nal | apply R.nst)⟩
theorem ho_6_0 (op v p1 p2 : Int) (nm : ByteArray) (n1 n2 d1 d2 : Nat) (q1 q2 : Option Addr) (has : Bool) (W : World) (h_op : (op == 0) = false) :
 R.NF 62 6 op v nm q1 n1 d1 q2 n2 d2 has p1 p2 W false := by
 unfold R.NF
 have g_op : ¬ op = 0 := by simpa using h_op
 obtain ⟨W1, hW1, HB, x0, x1, x2, x3, x4, x5, x6, f1⟩ := R.nbx 6 op v nm q1 n1 d1 q2 n2 d2 has p1 p2 W
 go_enter Tryz.func62, Tryz.ntmps62
 go_wp2
 go_ret
 exact ⟨rfl, by repeat (first | exact HB.out | exact R.nal | apply R.nst)⟩
theorem ho_6_1 (op v p1 p2 : Int) (nm : ByteArray) (n1 n2 d1 d2 : Nat) (q1 q2 : Option Addr) (has : Bool) (W : World) (h_op : (op == 0) = true) (h_v : (v == 0) = false) :
 R.NF 62 6 op v nm q1 n1 d1 q2 n2 d2 has p1 p2 W false := by
 unfold R.NF
 have g_op : op = 0 := by simpa using h_op
 have g_v : ¬ v = 0 := by simpa using h_v
 obtain ⟨W1, hW1, HB, x0, x1, x2, x3, x4, x5, x6, f1⟩ := R.nbx 6 op v nm q1 n1 d1 q2 n2 d2 has p1 p2 W
 go_enter Tryz.func62, Tryz.ntmps62
 go_wp2
 go_ret
 exact ⟨rfl, by repeat (first | exact HB.out | exact R.nal | apply R.nst)⟩
theorem ho_6_2 (op v p1 p2 : Int) (nm : ByteArray) (n1 n2 d1 d2 : Nat) (q1 q2 : Option Addr) (has : Bool) (W : World) (h_op : (op == 0) = true) (h_v : (v == 0) = true) (h_nm : nm.toList.isEmpty = false) :
 R.NF 62 6 op v nm q1 n1 d1 q2 n2 d2 has p1 p2 W false := by
 unfold R.NF
 have g_op : op = 0 := by simpa using h_op
 have g_v : v = 0 := by simpa using h_v
 have g_nm : ¬ nm.toList = [] := by simpa using h_nm
 obtain ⟨W1, hW1, HB, x0, x1, x2, x3, x4, x5, x6, f1⟩ := R.nbx 6 op v nm q1 n1 d1 q2 n2 d2 has p1 p2 W
 go_enter Tryz.func62, Tryz.ntmps62
 go_wp2
 go_ret
 exact ⟨rfl, by repeat (first | exact HB.out | exact R.nal | apply R.nst)⟩
theorem ho_6_3 (op v p1 p2 : Int) (nm : ByteArray) (n1 n2 d1 d2 : Nat) (q1 q2 : Option Addr) (has : Bool) (W : World) (h_op : (op == 0) = true) (h_v : (v == 0) = true) (h_nm : nm.toList.isEmpty = true) :
 R.NF 62 6 op v nm q1 n1 d1 q2 n2 d2 true p1 p2 W false := by
 unfold R.NF
 have g_op : op = 0 := by simpa using h_op
 have g_v : v = 0 := by simpa using h_v
 have g_nm : nm.toList = [] := by simpa using h_nm
 obtain ⟨W1, hW1, HB, x0, x1, x2, x3, x4, x5, x6, f1⟩ := R.nbx 6 op v nm q1 n1 d1 q2 n2 d2 true p1 p2 W
 go_enter Tryz.func62, Tryz.ntmps62
 go_wp2
 go_ret
 exact ⟨rfl, by repeat (first | exact HB.out | exact R.nal | apply R.nst)⟩
theorem ho_6_4 (op v p1 p2 : Int) (nm : ByteArray) (n1 n2 d1 d2 : Nat) (q1 q2 : Option Addr) (has : Bool) (W : World) (h_op : (op == 0) = true) (h_v : (v == 0) = true) (h_nm : nm.toList.isEmpty = true) :
 R.NF 62 6 op v nm q1 n1 d1 q2 n2 d2 false p1 p2 W true := by
 unfold R.NF
 have g_op : op = 0 := by simpa using h_op
 have g_v : v = 0 := by simpa using h_v
 have g_nm : nm.toList = [] := by simpa using h_nm
 obtain ⟨W1, hW1, HB, x0, x1, x2, x3, x4, x5, x6, f1⟩ := R.nbx 6 op v nm q1 n1 d1 q2 n2 d2 false p1 p2 W
 go_enter Tryz.func62, Tryz.ntmps62
 go_wp2
 go_ret
 exact ⟨rfl, by repeat (first | exact HB.out | exact R.nal | apply R.nst)⟩
theorem ho_7_0 (op v p1 p2 : Int) (nm : ByteArray) (n1 n2 d1 d2 : Nat) (q1 q2 : Option Addr) (has : Bool) (W : World) (h_op : (op == 0) = false) :
 R.NF 62 7 op v nm q1 n1 d1 q2 n2 d2 has p1 p2 W false := by
 unfold R.NF
 have g_op : ¬ op = 0 := by simpa using h_op
 obtain ⟨W1, hW1, HB, x0, x1, x2, x3, x4, x5, x6, f1⟩ := R.nbx 7 op v nm q1 n1 d1 q2 n2 d2 has p1 p2 W
 go_enter Tryz.func62, Tryz.ntmps62
 go_wp2
 go_ret
 exact ⟨rfl, by repeat (first | exact HB.out | exact R.nal | apply R.nst)⟩
theorem ho_7_1 (op v p1 p2 : Int) (nm : ByteArray) (n1 n2 d1 d2 : Nat) (q1 q2 : Option Addr) (has : Bool) (W : World) (h_op : (op == 0) = true) (h_v : (v == 0) = false) :
 R.NF 62 7 op v nm q1 n1 d1 q2 n2 d2 has p1 p2 W false := by
 unfold R.NF
 have g_op : op = 0 := by simpa using h_op
 have g_v : ¬ v = 0 := by simpa using h_v
 obtain ⟨W1, hW1, HB, x0, x1, x2, x3, x4, x5, x6, f1⟩ := R.nbx 7 op v nm q1 n1 d1 q2 n2 d2 has p1 p2 W
 go_enter Tryz.func62, Tryz.ntmps62
 go_wp2
 go_ret
 exact ⟨rfl, by repeat (first | exact HB.out | exact R.nal | apply R.nst)⟩
theorem ho_7_2 (op v p1 p2 : Int) (nm : ByteArray) (n1 n2 d1 d2 : Nat) (q1 q2 : Option Addr) (has : Bool) (W : World) (h_op : (op == 0) = true) (h_v : (v == 0) = true) (h_nm : nm.toList.isEmpty = false) :
 R.NF 62 7 op v nm q1 n1 d1 q2 n2 d2 has p1 p2 W false := by
 unfold R.NF
 have g_op : op = 0 := by simpa using h_op
 have g_v : v = 0 := by simpa using h_v
 have g_nm : ¬ nm.toList = [] := by simpa using h_nm
 obtain ⟨W1, hW1, HB, x0, x1, x2, x3, x4, x5, x6, f1⟩ := R.nbx 7 op v nm q1 n1 d1 q2 n2 d2 has p1 p2 W
 go_enter Tryz.func62, Tryz.ntmps62
 go_wp2
 go_ret
 exact ⟨rfl, by repeat (first | exact HB.out | exact R.nal | apply R.nst)⟩
theorem ho_7_3 (op v p1 p2 : Int) (nm : ByteArray) (n1 n2 d1 d2 : Nat) (q1 q2 : Option Addr) (has : Bool) (W : World) (h_op : (op == 0) = true) (h_v : (v == 0) = true) (h_nm : nm.toList.isEmpty = true) :
 R.NF 62 7 op v nm q1 n1 d1 q2 n2 d2 true p1 p2 W false := by
 unfold R.NF
 have g_op : op = 0 := by simpa using h_op
 have g_v : v = 0 := by simpa using h_v
 have g_nm : nm.toList = [] := by simpa using h_nm
 obtain ⟨W1, hW1, HB, x0, x1, x2, x3, x4, x5, x6, f1⟩ := R.nbx 7 op v nm q1 n1 d1 q2 n2 d2 true p1 p2 W
 go_enter Tryz.func62, Tryz.ntmps62
 go_wp2
 go_ret
 exact ⟨rfl, by repeat (first | exact HB.out | exact R.nal | apply R.nst)⟩
theorem ho_7_4 (op v p1 p2 : Int) (nm : ByteArray) (n1 n2 d1 d2 : Nat) (q1 q2 : Option Addr) (has : Bool) (W : World) (h_op : (op == 0) = true) (h_v : (v == 0) = true) (h_nm : nm.toList.isEmpty = true) (h_el : (((n2 + 1 : Nat) : Int) == 0) = false) :
 R.NF 62 7 op v nm q1 n1 d1 q2 (n2 + 1) d2 false p1 p2 W false := by
 unfold R.NF
 have g_op : op = 0 := by simpa using h_op
 have g_v : v = 0 := by simpa using h_v
 have g_nm : nm.toList = [] := by simpa using h_nm
 obtain ⟨W1, hW1, HB, x0, x1, x2, x3, x4, x5, x6, f1⟩ := R.nbx 7 op v nm q1 n1 d1 q2 (n2 + 1) d2 false p1 p2 W
 go_enter Tryz.func62, Tryz.ntmps62
 go_wp2
 go_ret
 exact ⟨rfl, by repeat (first | exact HB.out | exact R.nal | apply R.nst)⟩
theorem ho_7_5 (op v p1 p2 : Int) (nm : ByteArray) (n1 n2 d1 d2 : Nat) (q1 q2 : Option Addr) (has : Bool) (W : World) (h_op : (op == 0) = true) (h_v : (v == 0) = true) (h_nm : nm.toList.isEmpty = true) :
 R.NF 62 7 op v nm q1 n1 d1 q2 0 d2 false p1 p2 W true := by
 unfold R.NF
 have g_op : op = 0 := by simpa using h_op
 have g_v : v = 0 := by simpa using h_v
 have g_nm : nm.toList = [] := by simpa using h_nm
 obtain ⟨W1, hW1, HB, x0, x1, x2, x3, x4, x5, x6, f1⟩ := R.nbx 7 op v nm q1 n1 d1 q2 0 d2 false p1 p2 W
 go_enter Tryz.func62, Tryz.ntmps62
 go_wp2
 go_ret
 exact ⟨rfl, by repeat (first | exact HB.out | exact R.nal | apply R.nst)⟩
theorem ho_8_0 (op v p1 p2 : Int) (nm : ByteArray) (n1 n2 d1 d2 : Nat) (q1 q2 : Option Addr) (has : Bool) (W : World) (h_op : (op == 0) = false) :
 R.NF 62 8 op v nm q1 n1 d1 q2 n2 d2 has p1 p2 W false := by
 unfold R.NF
 have g_op : ¬ op = 0 := by simpa using h_op
 obtain ⟨W1, hW1, HB, x0, x1, x2, x3, x4, x5, x6, f1⟩ := R.nbx 8 op v nm q1 n1 d1 q2 n2 d2 has p1 p2 W
 go_enter Tryz.func62, Tryz.ntmps62
 go_wp2
 go_ret
 exact ⟨rfl, by repeat (first | exact HB.out | exact R.nal | apply R.nst)⟩
theorem ho_8_1 (op v p1 p2 : Int) (nm : ByteArray) (n1 n2 d1 d2 : Nat) (q1 q2 : Option Addr) (has : Bool) (W : World) (h_op : (op == 0) = true) (h_v : (v == 0) = false) :
 R.NF 62 8 op v nm q1 n1 d1 q2 n2 d2 has p1 p2 W false := by
 unfold R.NF
 have g_op : op = 0 := by simpa using h_op
 have g_v : ¬ v = 0 := by simpa using h_v
 obtain ⟨W1, hW1, HB, x0, x1, x2, x3, x4, x5, x6, f1⟩ := R.nbx 8 op v nm q1 n1 d1 q2 n2 d2 has p1 p2 W
 go_enter Tryz.func62, Tryz.ntmps62
 go_wp2
 go_ret
 exact ⟨rfl, by repeat (first | exact HB.out | exact R.nal | apply R.nst)⟩
theorem ho_8_2 (op v p1 p2 : Int) (nm : ByteArray) (n1 n2 d1 d2 : Nat) (q1 q2 : Option Addr) (has : Bool) (W : World) (h_op : (op == 0) = true) (h_v : (v == 0) = true) (h_nm : nm.toList.isEmpty = false) :
 R.NF 62 8 op v nm q1 n1 d1 q2 n2 d2 has p1 p2 W false := by
 unfold R.NF
 have g_op : op = 0 := by simpa using h_op
 have g_v : v = 0 := by simpa using h_v
 have g_nm : ¬ nm.toList = [] := by simpa using h_nm
 obtain ⟨W1, hW1, HB, x0, x1, x2, x3, x4, x5, x6, f1⟩ := R.nbx 8 op v nm q1 n1 d1 q2 n2 d2 has p1 p2 W
 go_enter Tryz.func62, Tryz.ntmps62
 go_wp2
 go_ret
 exact ⟨rfl, by repeat (first | exact HB.out | exact R.nal | apply R.nst)⟩
theorem ho_8_3 (op v p1 p2 : Int) (nm : ByteArray) (n1 n2 d1 d2 : Nat) (q1 q2 : Option Addr) (has : Bool) (W : World) (h_op : (op == 0) = true) (h_v : (v == 0) = true) (h_nm : nm.toList.isEmpty = true) :
 R.NF 62 8 op v nm q1 n1 d1 q2 n2 d2 true p1 p2 W false := by
 unfold R.NF
 have g_op : op = 0 := by simpa using h_op
 have g_v : v = 0 := by simpa using h_v
 have g_nm : nm.toList = [] := by simpa using h_nm
 obtain ⟨W1, hW1, HB, x0, x1, x2, x3, x4, x5, x6, f1⟩ := R.nbx 8 op v nm q1 n1 d1 q2 n2 d2 true p1 p2 W
 go_enter Tryz.func62, Tryz.ntmps62
 go_wp2
 go_ret
 exact ⟨rfl, by repeat (first | exact HB.out | exact R.nal | apply R.nst)⟩
theorem ho_8_4 (op v p1 p2 : Int) (nm : ByteArray) (n1 n2 d1 d2 : Nat) (q1 q2 : Option Addr) (has : Bool) (W : World) (h_op : (op == 0) = true) (h_v : (v == 0) = true) (h_nm : nm.toList.isEmpty = true) (h_el : (((n2 + 1 : Nat) : Int) == 0) = false) :
 R.NF 62 8 op v nm q1 n1 d1 q2 (n2 + 1) d2 false p1 p2 W false := by
 unfold R.NF
 have g_op : op = 0 := by simpa using h_op
 have g_v : v = 0 := by simpa using h_v
 have g_nm : nm.toList = [] := by simpa using h_nm
 obtain ⟨W1, hW1, HB, x0, x1, x2, x3, x4, x5, x6, f1⟩ := R.nbx 8 op v nm q1 n1 d1 q2 (n2 + 1) d2 false p1 p2 W
 go_enter Tryz.func62, Tryz.ntmps62
 go_wp2
 go_ret
 exact ⟨rfl, by repeat (first | exact HB.out | exact R.nal | apply R.nst)⟩
theorem ho_8_5 (op v p1 p2 : Int) (nm : ByteArray) (n1 n2 d1 d2 : Nat) (q1 q2 : Option Addr) (has : Bool) (W : World) (h_op : (op == 0) = true) (h_v : (v == 0) = true) (h_nm : nm.toList.isEmpty = true) :
 R.NF 62 8 op v nm q1 n1 d1 q2 0 d2 false p1 p2 W true := by
 unfold R.NF
 have g_op : op = 0 := by simpa using h_op
 have g_v : v = 0 := by simpa using h_v
 have g_nm : nm.toList = [] := by simpa using h_nm
 obtain ⟨W1, hW1, HB, x0, x1, x2, x3, x4, x5, x6, f1⟩ := R.nbx 8 op v nm q1 n1 d1 q2 0 d2 false p1 p2 W
 go_enter Tryz.func62, Tryz.ntmps62
 go_wp2
 go_ret
 exact ⟨rfl, by repeat (first | exact HB.out | exact R.nal | apply R.nst)⟩
theorem ho_9_0 (op v p1 p2 : Int) (nm : ByteArray) (n1 n2 d1 d2 : Nat) (q1 q2 : Option Addr) (has : Bool) (W : World) (h_op : (op == 0) = false) :
 R.NF 62 9 op v nm q1 n1 d1 q2 n2 d2 has p1 p2 W false := by
 unfold R.NF
 have g_op : ¬ op = 0 := by simpa using h_op
 obtain ⟨W1, hW1, HB, x0, x1, x2, x3, x4, x5, x6, f1⟩ := R.nbx 9 op v nm q1 n1 d1 q2 n2 d2 has p1 p2 W
 go_enter Tryz.func62, Tryz.ntmps62
 go_wp2
 go_ret
 exact ⟨rfl, by repeat (first | exact HB.out | exact R.nal | apply R.nst)⟩
theorem ho_9_1 (op v p1 p2 : Int) (nm : ByteArray) (n1 n2 d1 d2 : Nat) (q1 q2 : Option Addr) (has : Bool) (W : World) (h_op : (op == 0) = true) (h_v : (v == 0) = false) :
 R.NF 62 9 op v nm q1 n1 d1 q2 n2 d2 has p1 p2 W false := by
 unfold R.NF
 have g_op : op = 0 := by simpa using h_op
 have g_v : ¬ v = 0 := by simpa using h_v
 obtain ⟨W1, hW1, HB, x0, x1, x2, x3, x4, x5, x6, f1⟩ := R.nbx 9 op v nm q1 n1 d1 q2 n2 d2 has p1 p2 W
 go_enter Tryz.func62, Tryz.ntmps62
 go_wp2
 go_ret
 exact ⟨rfl, by repeat (first | exact HB.out | exact R.nal | apply R.nst)⟩
theorem ho_9_2 (op v p1 p2 : Int) (nm : ByteArray) (n1 n2 d1 d2 : Nat) (q1 q2 : Option Addr) (has : Bool) (W : World) (h_op : (op == 0) = true) (h_v : (v == 0) = true) (h_nm : nm.toList.isEmpty = false) :
 R.NF 62 9 op v nm q1 n1 d1 q2 n2 d2 has p1 p2 W false := by
 unfold R.NF
 have g_op : op = 0 := by simpa using h_op
 have g_v : v = 0 := by simpa using h_v
 have g_nm : ¬ nm.toList = [] := by simpa using h_nm
 obtain ⟨W1, hW1, HB, x0, x1, x2, x3, x4, x5, x6, f1⟩ := R.nbx 9 op v nm q1 n1 d1 q2 n2 d2 has p1 p2 W
 go_enter Tryz.func62, Tryz.ntmps62
 go_wp2
 go_ret
 exact ⟨rfl, by repeat (first | exact HB.out | exact R.nal | apply R.nst)⟩
theorem ho_9_3 (op v p1 p2 : Int) (nm : ByteArray) (n1 n2 d1 d2 : Nat) (q1 q2 : Option Addr) (has : Bool) (W : World) (h_op : (op == 0) = true) (h_v : (v == 0) = true) (h_nm : nm.toList.isEmpty = true) :
 R.NF 62 9 op v nm q1 n1 d1 q2 n2 d2 true p1 p2 W false := by
 unfold R.NF
 have g_op : op = 0 := by simpa using h_op
 have g_v : v = 0 := by simpa using h_v
 have g_nm : nm.toList = [] := by simpa using h_nm
 obtain ⟨W1, hW1, HB, x0, x1, x2, x3, x4, x5, x6, f1⟩ := R.nbx 9 op v nm q1 n1 d1 q2 n2 d2 true p1 p2 W
 go_enter Tryz.func62, Tryz.ntmps62
 go_wp2
 go_ret
 exact ⟨rfl, by repeat (first | exact HB.out | exact R.nal | apply R.nst)⟩
theorem ho_9_4 (op v p1 p2 : Int) (nm : ByteArray) (n1 n2 d1 d2 : Nat) (q1 q2 : Option Addr) (has : Bool) (W : World) (h_op : (op == 0) = true) (h_v : (v == 0) = true) (h_nm : nm.toList.isEmpty = true) (h_th : (((n1 + 1 : Nat) : Int) == 0) = false) :
 R.NF 62 9 op v nm q1 (n1 + 1) d1 q2 n2 d2 false p1 p2 W false := by
 unfold R.NF
 have g_op : op = 0 := by simpa using h_op
 have g_v : v = 0 := by simpa using h_v
 have g_nm : nm.toList = [] := by simpa using h_nm
 obtain ⟨W1, hW1, HB, x0, x1, x2, x3, x4, x5, x6, f1⟩ := R.nbx 9 op v nm q1 (n1 + 1) d1 q2 n2 d2 false p1 p2 W
 go_enter Tryz.func62, Tryz.ntmps62
 go_wp2
 go_ret
 exact ⟨rfl, by repeat (first | exact HB.out | exact R.nal | apply R.nst)⟩
theorem ho_9_5 (op v p1 p2 : Int) (nm : ByteArray) (n1 n2 d1 d2 : Nat) (q1 q2 : Option Addr) (has : Bool) (W : World) (h_op : (op == 0) = true) (h_v : (v == 0) = true) (h_nm : nm.toList.isEmpty = true) (h_el : (((n2 + 1 : Nat) : Int) == 0) = false) :
 R.NF 62 9 op v nm q1 0 d1 q2 (n2 + 1) d2 false p1 p2 W false := by
 unfold R.NF
 have g_op : op = 0 := by simpa using h_op
 have g_v : v = 0 := by simpa using h_v
 have g_nm : nm.toList = [] := by simpa using h_nm
 obtain ⟨W1, hW1, HB, x0, x1, x2, x3, x4, x5, x6, f1⟩ := R.nbx 9 op v nm q1 0 d1 q2 (n2 + 1) d2 false p1 p2 W
 go_enter Tryz.func62, Tryz.ntmps62
 go_wp2
 go_ret
 exact ⟨rfl, by repeat (first | exact HB.out | exact R.nal | apply R.nst)⟩
theorem ho_9_6 (op v p1 p2 : Int) (nm : ByteArray) (n1 n2 d1 d2 : Nat) (q1 q2 : Option Addr) (has : Bool) (W : World) (h_op : (op == 0) = true) (h_v : (v == 0) = true) (h_nm : nm.toList.isEmpty = true) :
 R.NF 62 9 op v nm q1 0 d1 q2 0 d2 false p1 p2 W true := by
 unfold R.NF
 have g_op : op = 0 := by simpa using h_op
 have g_v : v = 0 := by simpa using h_v
 have g_nm : nm.toList = [] := by simpa using h_nm
 obtain ⟨W1, hW1, HB, x0, x1, x2, x3, x4, x5, x6, f1⟩ := R.nbx 9 op v nm q1 0 d1 q2 0 d2 false p1 p2 W
 go_enter Tryz.func62, Tryz.ntmps62
 go_wp2
 go_ret
 exact ⟨rfl, by repeat (first | exact HB.out | exact R.nal | apply R.nst)⟩
end Go.Proofs.YtlilefhmohkfkaaGreatDoor.V
