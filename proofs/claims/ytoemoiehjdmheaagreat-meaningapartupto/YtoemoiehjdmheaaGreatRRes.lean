import Derived.Test.YtoemoiehjdmheaaGreatRMath
import Derived.Test.YtoemoiehjdmheaaGreatPAll
import Derived.Test.YtoemoiehjdmheaaGreatTParts
import Derived.Laws.Strings
namespace Go.Proofs.YtoemoiehjdmheaaGreat.R
open Go.RowKit
open Go.Proofs
set_option linter.unusedVariables false
set_option linter.unusedSimpArgs false
set_option maxHeartbeats 2000000
set_option maxRecDepth 100000
theorem of_list {s : ByteArray} {l : List UInt8} (h : (s.toList == l) = true) : s = ⟨l.toArray⟩ := by
 have h1 := eq_of_beq h
 rw [ByteArray.toList_eq] at h1
 cases s
 simp at h1
 rw [<- h1]
theorem res_0 (w : World) : Calls Tryz.prog 132 #[.string ⟨#[58]⟩] w fun e w' => e = .returned (.bool true) /\ Below w.heap.size w w' := by
 go_enter Tryz.func132, Tryz.ntmps132
 go_wp2
 go_ret
 exact ⟨rfl, Below.refl _ _⟩
theorem res_1 (w : World) : Calls Tryz.prog 132 #[.string ⟨#[59]⟩] w fun e w' => e = .returned (.bool true) /\ Below w.heap.size w w' := by
 go_enter Tryz.func132, Tryz.ntmps132
 go_wp2
 go_ret
 exact ⟨rfl, Below.refl _ _⟩
theorem res_2 (w : World) : Calls Tryz.prog 132 #[.string ⟨#[99, 111, 110, 115, 116, 97, 110, 116]⟩] w fun e w' => e = .returned (.bool true) /\ Below w.heap.size w w' := by
 go_enter Tryz.func132, Tryz.ntmps132
 go_wp2
 go_ret
 exact ⟨rfl, Below.refl _ _⟩
theorem res_3 (w : World) : Calls Tryz.prog 132 #[.string ⟨#[118, 97, 114, 105, 97, 98, 108, 101]⟩] w fun e w' => e = .returned (.bool true) /\ Below w.heap.size w w' := by
 go_enter Tryz.func132, Tryz.ntmps132
 go_wp2
 go_ret
 exact ⟨rfl, Below.refl _ _⟩
theorem res_4 (w : World) : Calls Tryz.prog 132 #[.string ⟨#[98, 117, 102, 102, 101, 114]⟩] w fun e w' => e = .returned (.bool true) /\ Below w.heap.size w w' := by
 go_enter Tryz.func132, Tryz.ntmps132
 go_wp2
 go_ret
 exact ⟨rfl, Below.refl _ _⟩
theorem res_5 (w : World) : Calls Tryz.prog 132 #[.string ⟨#[98, 97, 110, 107]⟩] w fun e w' => e = .returned (.bool true) /\ Below w.heap.size w w' := by
 go_enter Tryz.func132, Tryz.ntmps132
 go_wp2
 go_ret
 exact ⟨rfl, Below.refl _ _⟩
theorem res_6 (w : World) : Calls Tryz.prog 132 #[.string ⟨#[123]⟩] w fun e w' => e = .returned (.bool true) /\ Below w.heap.size w w' := by
 go_enter Tryz.func132, Tryz.ntmps132
 go_wp2
 go_ret
 exact ⟨rfl, Below.refl _ _⟩
theorem res_7 (w : World) : Calls Tryz.prog 132 #[.string ⟨#[125]⟩] w fun e w' => e = .returned (.bool true) /\ Below w.heap.size w w' := by
 go_enter Tryz.func132, Tryz.ntmps132
 go_wp2
 go_ret
 exact ⟨rfl, Below.refl _ _⟩
theorem res_8 (w : World) : Calls Tryz.prog 132 #[.string ⟨#[105, 102]⟩] w fun e w' => e = .returned (.bool true) /\ Below w.heap.size w w' := by
 go_enter Tryz.func132, Tryz.ntmps132
 go_wp2
 go_ret
 exact ⟨rfl, Below.refl _ _⟩
theorem res_9 (w : World) : Calls Tryz.prog 132 #[.string ⟨#[101, 108, 115, 101]⟩] w fun e w' => e = .returned (.bool true) /\ Below w.heap.size w w' := by
 go_enter Tryz.func132, Tryz.ntmps132
 go_wp2
 go_ret
 exact ⟨rfl, Below.refl _ _⟩
theorem res_10 (w : World) : Calls Tryz.prog 132 #[.string ⟨#[116, 104, 101, 110]⟩] w fun e w' => e = .returned (.bool true) /\ Below w.heap.size w w' := by
 go_enter Tryz.func132, Tryz.ntmps132
 go_wp2
 go_ret
 exact ⟨rfl, Below.refl _ _⟩
theorem res_11 (w : World) : Calls Tryz.prog 132 #[.string ⟨#[98, 101, 103, 105, 110]⟩] w fun e w' => e = .returned (.bool true) /\ Below w.heap.size w w' := by
 go_enter Tryz.func132, Tryz.ntmps132
 go_wp2
 go_ret
 exact ⟨rfl, Below.refl _ _⟩
theorem res_12 (w : World) : Calls Tryz.prog 132 #[.string ⟨#[117, 110, 116, 105, 108]⟩] w fun e w' => e = .returned (.bool true) /\ Below w.heap.size w w' := by
 go_enter Tryz.func132, Tryz.ntmps132
 go_wp2
 go_ret
 exact ⟨rfl, Below.refl _ _⟩
theorem res_13 (w : World) : Calls Tryz.prog 132 #[.string ⟨#[119, 104, 105, 108, 101]⟩] w fun e w' => e = .returned (.bool true) /\ Below w.heap.size w w' := by
 go_enter Tryz.func132, Tryz.ntmps132
 go_wp2
 go_ret
 exact ⟨rfl, Below.refl _ _⟩
theorem res_14 (w : World) : Calls Tryz.prog 132 #[.string ⟨#[114, 101, 112, 101, 97, 116]⟩] w fun e w' => e = .returned (.bool true) /\ Below w.heap.size w w' := by
 go_enter Tryz.func132, Tryz.ntmps132
 go_wp2
 go_ret
 exact ⟨rfl, Below.refl _ _⟩
theorem res_15 (w : World) : Calls Tryz.prog 132 #[.string ⟨#[97, 103, 97, 105, 110]⟩] w fun e w' => e = .returned (.bool true) /\ Below w.heap.size w w' := by
 go_enter Tryz.func132, Tryz.ntmps132
 go_wp2
 go_ret
 exact ⟨rfl, Below.refl _ _⟩
theorem res_16 (w : World) : Calls Tryz.prog 132 #[.string ⟨#[100, 111]⟩] w fun e w' => e = .returned (.bool true) /\ Below w.heap.size w w' := by
 go_enter Tryz.func132, Tryz.ntmps132
 go_wp2
 go_ret
 exact ⟨rfl, Below.refl _ _⟩
theorem res_17 (w : World) : Calls Tryz.prog 132 #[.string ⟨#[108, 111, 111, 112]⟩] w fun e w' => e = .returned (.bool true) /\ Below w.heap.size w w' := by
 go_enter Tryz.func132, Tryz.ntmps132
 go_wp2
 go_ret
 exact ⟨rfl, Below.refl _ _⟩
theorem res_18 (w : World) : Calls Tryz.prog 132 #[.string ⟨#[101, 120, 105, 116]⟩] w fun e w' => e = .returned (.bool true) /\ Below w.heap.size w w' := by
 go_enter Tryz.func132, Tryz.ntmps132
 go_wp2
 go_ret
 exact ⟨rfl, Below.refl _ _⟩
theorem reserved_yes (s : ByteArray) (h : resW s = true) (w : World) : Calls Tryz.prog 132 #[.string s] w fun e w' => e = .returned (.bool true) /\ Below w.heap.size w w' := by
 unfold resW resL at h
 simp only [List.any_cons, List.any_nil, Bool.or_eq_true, Bool.or_false] at h
 rcases h with h | h | h | h | h | h | h | h | h | h | h | h | h | h | h | h | h | h | h
 ·rw [of_list h]; exact res_0 w
 ·rw [of_list h]; exact res_1 w
 ·rw [of_list h]; exact res_2 w
 ·rw [of_list h]; exact res_3 w
 ·rw [of_list h]; exact res_4 w
 ·rw [of_list h]; exact res_5 w
 ·rw [of_list h]; exact res_6 w
 ·rw [of_list h]; exact res_7 w
 ·rw [of_list h]; exact res_8 w
 ·rw [of_list h]; exact res_9 w
 ·rw [of_list h]; exact res_10 w
 ·rw [of_list h]; exact res_11 w
 ·rw [of_list h]; exact res_12 w
 ·rw [of_list h]; exact res_13 w
 ·rw [of_list h]; exact res_14 w
 ·rw [of_list h]; exact res_15 w
 ·rw [of_list h]; exact res_16 w
 ·rw [of_list h]; exact res_17 w
 ·rw [of_list h]; exact res_18 w
theorem reserved_no (s : ByteArray) (h : resW s = false) (w : World) : Calls Tryz.prog 132 #[.string s] w fun e w' => e = .returned (.bool (prN s)) /\ Below w.heap.size w w' := by
 unfold resW resL at h
 simp only [List.any_cons, List.any_nil, Bool.or_eq_false_iff] at h
 obtain ⟨h0, h1, h2, h3, h4, h5, h6, h7, h8, h9, h10, h11, h12, h13, h14, h15, h16, h17, h18, _⟩ := h
 by_cases he : s.toList.isEmpty = true
 ·have E : prN s = false := by unfold prN; rw [he]; rfl
  rw [E]
  have HE := Y.hid E
  clear E
  have hc := P.named_empty s he w
  clear he
  go_enter Tryz.func132, Tryz.ntmps132
  go_wp2_with fail
  refine hc.mono ?_
  unfold P.rowV
  rintro e w1 ⟨rfl, hb⟩
  have HB := Y.hid hb
  clear hb
  go_wp2
  go_ret
  exact ⟨rfl, HB.out.alloc HB.out.size _⟩
 ·have he2 : s.toList.isEmpty = false := by simpa using he
  have hc := P.named_yes s he2 w
  clear he
  have HE := Y.hid he2
  clear he2
  generalize hz : prN s = z
  have HZ := Y.hid hz
  clear hz
  go_enter Tryz.func132, Tryz.ntmps132
  go_wp2_with fail
  refine hc.mono ?_
  rintro e w1 ⟨h | h, hb⟩
  ·obtain ⟨x, hx, hn, rfl⟩ := h
   have E : z = true := by rw [<- HZ.out]; unfold prN; rw [HE.out]; simp only [Bool.not_false, Bool.true_and]; exact List.any_eq_true.2 ⟨x, hx, by simpa using hn⟩
   subst E
   have HB := Y.hid hb
   clear hb hn hx
   unfold P.rowN P.rowV
   go_wp2
   go_ret
   exact ⟨rfl, HB.out.alloc HB.out.size _⟩
  ·obtain ⟨hn, rfl⟩ := h
   have E : z = false := by
    rw [<- HZ.out]; unfold prN; rw [HE.out]; simp only [Bool.not_false, Bool.true_and]
    rw [Bool.eq_false_iff]
    intro c
    obtain ⟨x, hx, hh⟩ := List.any_eq_true.1 c
    exact hn x hx (by simpa using hh)
   subst E
   have HB := Y.hid hb
   clear hb hn
   unfold P.rowV
   go_wp2
   go_ret
   exact ⟨rfl, HB.out.alloc HB.out.size _⟩
theorem reserved_any (s : ByteArray) (w : World) : Calls Tryz.prog 132 #[.string s] w fun e w' => e = .returned (.bool (isRes s)) /\ Below w.heap.size w w' := by
 unfold isRes
 cases h : resW s with
 | true => rw [Bool.true_or]; exact reserved_yes s h w
 | false => rw [Bool.false_or]; exact reserved_no s h w
theorem isName_any (s : ByteArray) (hs : s.size <= maxLen) (w : World) : Calls Tryz.prog 81 #[.string s] w fun e w' => e = .returned (.bool (isNm s)) /\ Below w.heap.size w w' := by
 have hc := T.name_any s hs w
 have hd : ∀ w', Calls Tryz.prog 132 #[.string s] w' fun e w2 => e = .returned (.bool (isRes s)) /\ Below w'.heap.size w' w2 := fun w' => reserved_any s w'
 unfold isNm
 generalize T.nameB s.data.toList = x at *
 generalize isRes s = y at *
 cases x
 ·go_enter Tryz.func81, Tryz.ntmps81
  go_wp2_with fail
  refine hc.mono ?_
  rintro e w1 ⟨rfl, hb⟩
  have HB := Y.hid hb
  clear hb hd hc
  go_wp2
  go_ret
  exact ⟨rfl, HB.out⟩
 ·go_enter Tryz.func81, Tryz.ntmps81
  go_wp2_with fail
  refine hc.mono ?_
  rintro e w1 ⟨rfl, hb⟩
  have HB := Y.hid hb
  clear hb hc
  go_wp2_with fail
  refine (hd _).mono ?_
  rintro e w2 ⟨rfl, hb⟩
  have HB2 := Y.hid (HB.out.trans (hb.mono HB.out.size))
  clear hb hd
  go_wp2
  go_ret
  exact ⟨rfl, HB2.out⟩
end Go.Proofs.YtoemoiehjdmheaaGreat.R
