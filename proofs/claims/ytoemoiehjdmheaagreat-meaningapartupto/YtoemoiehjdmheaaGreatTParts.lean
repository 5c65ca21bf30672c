import Derived.Test.YtoemoiehjdmheaaGreatTLeaf
import Derived.Test.YtoemoiehjdmheaaGreatShelf
import Derived.Deep.QuietTactic
import Derived.BigQuiet
namespace Go.Proofs.YtoemoiehjdmheaaGreat.T
open Go.RowKit
set_option linter.unusedVariables false
def hd (l : List UInt8) : Nat := match l with | [] => 999 | c :: _ => c.toNat
theorem prefix_at (l : List UInt8) (c : UInt8) : Lib.hasPrefix l [c] = decide (hd l = c.toNat) := by
  unfold Lib.hasPrefix
  have hc : c.toNat < 256 := c.toNat_lt
  cases l with
  | nil => have h2 : ¬ 999 = c.toNat := by omega
           simp [List.isPrefixOf, hd, h2]
  | cons a t =>
    by_cases h : c = a
    · subst h; simp [List.isPrefixOf, hd]
    · have h2 : ¬ a.toNat = c.toNat := fun e => h (UInt8.toNat_inj.1 e).symm
      simp [List.isPrefixOf, hd, h, h2]
theorem hd_cons {l : List UInt8} {c : Nat} (h : hd l = c) (hc : c < 256) : ∃ a t, l = a :: t /\ a.toNat = c := by
  cases l with
  | nil => simp [hd] at h; omega
  | cons a t => exact ⟨a, t, rfl, h⟩
theorem hd_size {s : ByteArray} {c : Nat} (h : hd s.data.toList = c) (hc : c < 256) : 1 <= s.size := by
  obtain ⟨a, t, e, _⟩ := hd_cons h hc
  rw [<- size_list, e]; simp
theorem tail_list (s : ByteArray) (c : UInt8) (t : List UInt8) (h : s.data.toList = c :: t) : (s.extract 1 s.size).data.toList = t := by
  have hz : s.size = t.length + 1 := by rw [<- size_list, h]; rfl
  rw [ByteArray.data_extract, Array.toList_extract, h, hz]
  simp
theorem below_drewN (w : World) (n : Nat) : Below w.heap.size w (w.drewN n) := ⟨rfl, rfl, rfl, Nat.le_refl _, fun _ _ => rfl⟩
theorem parts_minus (s : ByteArray) (hs : s.size <= maxLen) (h : hd s.data.toList = 45) (w : World) :
    Calls Tryz.prog 159 #[.string s] w fun e w' => e = .returned (.tuple #[.int .i64 (-1), .int .i64 10, .string (s.extract 1 s.size)]) /\ Below w.heap.size w w' := by
  unfold maxLen at hs
  have hp : Lib.hasPrefix s.data.toList [45] = true := by rw [prefix_at, h]; decide
  have hz := hd_size h (by omega)
  clear h
  go_enter Tryz.func159, Tryz.ntmps159
  go_wp2_with (go_at_call 164; refine (Tryz.strings_HasPrefix _ _ _).mono ?_; rintro e w' ⟨rfl, rfl⟩)
  go_quiet (fail)
  go_wp2
  exact bodyPost_ret (v := .tuple #[.int .i64 (-1), .int .i64 10, .string (s.extract 1 s.size)]) (by simp [results, Tryz.results159, go_sem]) rfl ⟨rfl, below_drewN _ _⟩
theorem parts_dollar (s : ByteArray) (hs : s.size <= maxLen) (h : hd s.data.toList = 36) (w : World) :
    Calls Tryz.prog 159 #[.string s] w fun e w' => e = .returned (.tuple #[.int .i64 1, .int .i64 16, .string (s.extract 1 s.size)]) /\ Below w.heap.size w w' := by
  unfold maxLen at hs
  have hp : Lib.hasPrefix s.data.toList [36] = true := by rw [prefix_at, h]; decide
  have hp45 : Lib.hasPrefix s.data.toList [45] = false := by rw [prefix_at, h]; decide
  have hz := hd_size h (by omega)
  clear h
  go_enter Tryz.func159, Tryz.ntmps159
  go_wp2_with (go_at_call 164; refine (Tryz.strings_HasPrefix _ _ _).mono ?_; rintro e w' ⟨rfl, rfl⟩)
  go_quiet (fail)
  go_wp2
  exact bodyPost_ret (v := .tuple #[.int .i64 1, .int .i64 16, .string (s.extract 1 s.size)]) (by simp [results, Tryz.results159, go_sem]) rfl ⟨rfl, below_drewN _ _⟩
theorem parts_percent (s : ByteArray) (hs : s.size <= maxLen) (h : hd s.data.toList = 37) (w : World) :
    Calls Tryz.prog 159 #[.string s] w fun e w' => e = .returned (.tuple #[.int .i64 1, .int .i64 2, .string (s.extract 1 s.size)]) /\ Below w.heap.size w w' := by
  unfold maxLen at hs
  have hp : Lib.hasPrefix s.data.toList [37] = true := by rw [prefix_at, h]; decide
  have hp45 : Lib.hasPrefix s.data.toList [45] = false := by rw [prefix_at, h]; decide
  have hp36 : Lib.hasPrefix s.data.toList [36] = false := by rw [prefix_at, h]; decide
  have hz := hd_size h (by omega)
  clear h
  go_enter Tryz.func159, Tryz.ntmps159
  go_wp2_with (go_at_call 164; refine (Tryz.strings_HasPrefix _ _ _).mono ?_; rintro e w' ⟨rfl, rfl⟩)
  go_quiet (fail)
  go_wp2
  exact bodyPost_ret (v := .tuple #[.int .i64 1, .int .i64 2, .string (s.extract 1 s.size)]) (by simp [results, Tryz.results159, go_sem]) rfl ⟨rfl, below_drewN _ _⟩
theorem parts_else (s : ByteArray) (h1 : hd s.data.toList ≠ 45) (h2 : hd s.data.toList ≠ 36) (h3 : hd s.data.toList ≠ 37) (w : World) :
    Calls Tryz.prog 159 #[.string s] w fun e w' => e = .returned (.tuple #[.int .i64 1, .int .i64 10, .string s]) /\ Below w.heap.size w w' := by
  have hp1 : Lib.hasPrefix s.data.toList [45] = false := by rw [prefix_at]; simpa using h1
  have hp2 : Lib.hasPrefix s.data.toList [36] = false := by rw [prefix_at]; simpa using h2
  have hp3 : Lib.hasPrefix s.data.toList [37] = false := by rw [prefix_at]; simpa using h3
  clear h1 h2 h3
  go_enter Tryz.func159, Tryz.ntmps159
  go_wp2_with (go_at_call 164; refine (Tryz.strings_HasPrefix _ _ _).mono ?_; rintro e w' ⟨rfl, rfl⟩)
  exact bodyPost_ret (v := .tuple #[.int .i64 1, .int .i64 10, .string s]) (by simp [results, Tryz.results159, go_sem]) rfl ⟨rfl, Below.refl _ _⟩
theorem nb_body (b : Nat) (l : List UInt8) : (nb b l = false /\ body b l = none) \/ ∃ v, nb b l = true /\ body b l = some v /\ nv b l = ((min v 65536 : Nat) : Int) := by
  unfold body
  by_cases h : l = []
  · left; subst h; exact ⟨rfl, rfl⟩
  · cases hv : val b l with
    | none => left; exact ⟨nb_none hv, by rw [if_neg h]⟩
    | some v => right; exact ⟨v, by rw [nb_some hv]; simpa using h, by rw [if_neg h], nv_some hv⟩
theorem numI_quo (l : List UInt8) (h : quo l = true) : numI l = some ((l.getD 1 0).toNat : Int) := by unfold numI; rw [if_pos h]
theorem numI_minus (l t : List UInt8) (a : UInt8) (h : quo l = false) (e : l = a :: t) (ha : a.toNat = 45) : numI l = (body 10 t).map fun n => -(n : Int) := by
  subst e; unfold numI; rw [if_neg (by simp [h])]; simp [ha]
theorem numI_dollar (l t : List UInt8) (a : UInt8) (h : quo l = false) (e : l = a :: t) (ha : a.toNat = 36) : numI l = (body 16 t).map fun n => (n : Int) := by
  subst e; unfold numI; rw [if_neg (by simp [h])]; simp [ha]
theorem numI_percent (l t : List UInt8) (a : UInt8) (h : quo l = false) (e : l = a :: t) (ha : a.toNat = 37) : numI l = (body 2 t).map fun n => (n : Int) := by
  subst e; unfold numI; rw [if_neg (by simp [h])]; simp [ha]
theorem numI_else (l : List UInt8) (h : quo l = false) (h1 : hd l ≠ 45) (h2 : hd l ≠ 36) (h3 : hd l ≠ 37) : numI l = (body 10 l).map fun n => (n : Int) := by
  unfold numI; rw [if_neg (by simp [h])]
  cases l with
  | nil => rfl
  | cons a t => have h1 : ¬ a.toNat = 45 := h1; have h2 : ¬ a.toNat = 36 := h2; have h3 : ¬ a.toNat = 37 := h3
                simp [h1, h2, h3]
theorem ret_num {a a' b b' : Int} (h1 : a = a') (h2 : b = b') : Ending.returned (.tuple #[.int .u16 a, .int .i64 b]) = .returned (.tuple #[.int .u16 a', .int .i64 b']) := by rw [h1, h2]
theorem numC_none {l : List UInt8} (h : numI l = none) : numC l = 0 /\ numE l = 20 := by unfold numC numE; rw [h]; exact ⟨rfl, rfl⟩
theorem numC_in {l : List UInt8} {n : Int} (h : numI l = some n) (a : -32768 <= n) (b : n <= 65535) : numC l = n % 65536 /\ numE l = 0 := by
  unfold numC numE cellOf errOf; rw [h]; simp [a, b]
theorem numC_out {l : List UInt8} {n : Int} (h : numI l = some n) (a : n < -32768 \/ 65535 < n) : numC l = 0 /\ numE l = 21 := by
  have : ¬ (-32768 <= n /\ n <= 65535) := by omega
  unfold numC numE cellOf errOf; rw [h]; simp only [if_neg this]; exact ⟨trivial, trivial⟩
theorem numeral_of (s d : ByteArray) (hd : d.size <= maxLen) (σ : Int) (hσ : σ = 1 \/ σ = -1) (b : Nat) (hb2 : 2 <= b) (hb16 : b <= 16) (hs : s.size <= maxLen)
    (hq : quo s.data.toList = false)
    (hp : ∀ w, Calls Tryz.prog 159 #[.string s] w fun e w' => e = .returned (.tuple #[.int .i64 σ, .int .i64 b, .string d]) /\ Below w.heap.size w w')
    (hn : numI s.data.toList = (body b d.data.toList).map fun n => σ * (n : Int)) (w : World) :
    Calls Tryz.prog 146 #[.string s] w fun e w' => e = .returned (.tuple #[.int .u16 (numC s.data.toList), .int .i64 (numE s.data.toList)]) /\ Below w.heap.size w w' := by
  rcases nb_body b d.data.toList with ⟨hf, hb⟩ | ⟨v, ht, hb, hv⟩
  · rw [hb] at hn
    have H : Hid (numC s.data.toList = 0 /\ numE s.data.toList = 20) := numC_none hn
    clear hn hb
    go_enter Tryz.func146, Tryz.ntmps146
    go_wp2_with (first | (go_at_call 158; refine (quoted_any _ hs _).mono ?_; rintro e w1 ⟨rfl, rfl⟩) | (go_at_call 159; refine (hp _).mono ?_; rintro e w2 ⟨rfl, hb1⟩) | (go_at_call 160; refine (number_any d b hd hb2 hb16 _).mono ?_; rintro e w3 ⟨rfl, hb2⟩))
    go_ret2
    exact ⟨ret_num H.out.1.symm H.out.2.symm, hb1.trans (hb2.mono hb1.size)⟩
  · rw [hb] at hn
    have hn' : numI s.data.toList = some (σ * (v : Int)) := hn
    clear hn hb
    by_cases hin : -32768 <= σ * (v : Int) /\ σ * (v : Int) <= 65535
    · have H : Hid (numC s.data.toList = (σ * (v : Int)) % 65536 /\ numE s.data.toList = 0) := numC_in hn' hin.1 hin.2
      obtain ⟨h1, h2⟩ := hin
      clear hn'
      have hv' : nv b d.data.toList = (v : Int) := by rw [hv]; rcases hσ with rfl | rfl <;> omega
      clear hv
      rcases hσ with rfl | rfl
      all_goals
        have h3 : 0 <= (v : Int) := by omega
        have h4 : (v : Int) <= 65535 := by omega
        go_enter Tryz.func146, Tryz.ntmps146
        go_wp2_with (first | (go_at_call 158; refine (quoted_any _ hs _).mono ?_; rintro e w1 ⟨rfl, rfl⟩) | (go_at_call 159; refine (hp _).mono ?_; rintro e w2 ⟨rfl, hb1⟩) | (go_at_call 160; refine (number_any d b hd hb2 hb16 _).mono ?_; rintro e w3 ⟨rfl, hb2⟩))
        go_ret2
        exact ⟨ret_num (by rw [H.out.1]; first | omega | (rw [IntKind.wrap_u16]; omega)) H.out.2.symm, hb1.trans (hb2.mono hb1.size)⟩
    · have H : Hid (numC s.data.toList = 0 /\ numE s.data.toList = 21) := numC_out hn' (by omega)
      clear hn'
      generalize hm : min v 65536 = m at hv
      have hmI : Hid (m = min v 65536) := hm.symm
      clear hm
      rcases hσ with rfl | rfl
      · have h4 : (65535 : Int) < m := by have := hmI.out; omega
        have h5 : (m : Int) <= 65536 := by have := hmI.out; omega
        clear hin
        go_enter Tryz.func146, Tryz.ntmps146
        go_wp2_with (first | (go_at_call 158; refine (quoted_any _ hs _).mono ?_; rintro e w1 ⟨rfl, rfl⟩) | (go_at_call 159; refine (hp _).mono ?_; rintro e w2 ⟨rfl, hb1⟩) | (go_at_call 160; refine (number_any d b hd hb2 hb16 _).mono ?_; rintro e w3 ⟨rfl, hb2⟩))
        go_ret2
        exact ⟨ret_num H.out.1.symm H.out.2.symm, hb1.trans (hb2.mono hb1.size)⟩
      · have h4 : (32768 : Int) < m := by have := hmI.out; omega
        have h5 : (m : Int) <= 65536 := by have := hmI.out; omega
        clear hin
        go_enter Tryz.func146, Tryz.ntmps146
        go_wp2_with (first | (go_at_call 158; refine (quoted_any _ hs _).mono ?_; rintro e w1 ⟨rfl, rfl⟩) | (go_at_call 159; refine (hp _).mono ?_; rintro e w2 ⟨rfl, hb1⟩) | (go_at_call 160; refine (number_any d b hd hb2 hb16 _).mono ?_; rintro e w3 ⟨rfl, hb2⟩))
        go_ret2
        exact ⟨ret_num H.out.1.symm H.out.2.symm, hb1.trans (hb2.mono hb1.size)⟩
theorem extract_le (s : ByteArray) (h : s.size <= maxLen) : (s.extract 1 s.size).size <= maxLen := by
  have : (s.extract 1 s.size).size = min s.size s.size - 1 := by simp [ByteArray.size_extract]
  omega
theorem numeral_any (s : ByteArray) (hs : s.size <= maxLen) (w : World) :
    Calls Tryz.prog 146 #[.string s] w fun e w' => e = .returned (.tuple #[.int .u16 (numC s.data.toList), .int .i64 (numE s.data.toList)]) /\ Below w.heap.size w w' := by
  cases hq : quo s.data.toList with
  | true =>
    have h3 : s.size = 3 := by
      by_cases h : s.size = 3
      · exact h
      · rw [quo_else s h] at hq; cases hq
    have hl1 : 1 < s.size := by omega
    have hb1 : s[1].toNat < 256 := s[1].toNat_lt
    have hn : numI s.data.toList = some (s[1].toNat : Int) := by
      rw [numI_quo _ hq]
      obtain ⟨a, b, c, rfl⟩ := three s h3
      rfl
    have H : Hid (numC s.data.toList = (s[1].toNat : Int) % 65536 /\ numE s.data.toList = 0) := numC_in hn (by omega) (by omega)
    clear hn
    go_enter Tryz.func146, Tryz.ntmps146
    go_wp2_with (first | (go_at_call 158; refine (quoted_any _ hs _).mono ?_; rintro e w1 ⟨rfl, rfl⟩))
    go_ret2
    exact ⟨ret_num (by rw [H.out.1]; omega) H.out.2.symm, Below.refl _ _⟩
  | false =>
    by_cases h1 : hd s.data.toList = 45
    · obtain ⟨a, t, e, ha⟩ := hd_cons h1 (by omega)
      exact numeral_of s (s.extract 1 s.size) (extract_le s hs) (-1) (.inr rfl) 10 (by omega) (by omega) hs hq (fun w => parts_minus s hs h1 w)
        (by rw [numI_minus _ t a hq e ha, tail_list s a t e]; congr 1; funext n; omega) w
    · by_cases h2 : hd s.data.toList = 36
      · obtain ⟨a, t, e, ha⟩ := hd_cons h2 (by omega)
        exact numeral_of s (s.extract 1 s.size) (extract_le s hs) 1 (.inl rfl) 16 (by omega) (by omega) hs hq (fun w => parts_dollar s hs h2 w)
          (by rw [numI_dollar _ t a hq e ha, tail_list s a t e]; congr 1; funext n; omega) w
      · by_cases h3 : hd s.data.toList = 37
        · obtain ⟨a, t, e, ha⟩ := hd_cons h3 (by omega)
          exact numeral_of s (s.extract 1 s.size) (extract_le s hs) 1 (.inl rfl) 2 (by omega) (by omega) hs hq (fun w => parts_percent s hs h3 w)
            (by rw [numI_percent _ t a hq e ha, tail_list s a t e]; congr 1; funext n; omega) w
        · exact numeral_of s s hs 1 (.inl rfl) 10 (by omega) (by omega) hs hq (fun w => parts_else s h1 h2 h3 w)
            (by rw [numI_else _ hq h1 h2 h3]; congr 1; funext n; omega) w
theorem seen_rune (s : ByteArray) (pos : Nat) (h : pos < s.size) : seen (Utf8.decode s pos).1 = seen (s[pos]'h).toNat /\ (seen (Utf8.decode s pos).1 = true -> (Utf8.decode s pos).2 = 1) := by
  by_cases ha : (s[pos]'h).toNat < 128
  · rw [decode_ascii s pos h ha]; exact ⟨rfl, fun _ => rfl⟩
  · have h1 := (decode_high s pos h (by omega)).1
    have e1 : seen (Utf8.decode s pos).1 = false := by unfold seen; simp; omega
    have e2 : seen (s[pos]'h).toNat = false := by unfold seen; simp; omega
    rw [e1, e2]
    exact ⟨rfl, fun x => by cases x⟩
theorem all_take_false (l : List UInt8) (k : Nat) (h : (l.take k).all (fun c => seen c.toNat) = false) : l.all (fun c => seen c.toNat) = false := by
  rw [<- List.take_append_drop k l, List.all_append, h, Bool.false_and]
theorem nameB_of (l : List UInt8) (h1 : 1 <= l.length) (h2 : l.length <= 31) (h3 : l ≠ [92]) (h4 : l ≠ [40]) :
    nameB l = (l.all (fun c => seen c.toNat) && decide (numI l = none)) := by
  unfold nameB; simp [h1, h2, h3, h4]
theorem errOf_20 (o : Option Int) : decide (errOf o = 20) = decide (o = none) := by
  cases o with
  | none => rfl
  | some n => unfold errOf; simp only; split <;> simp
theorem list_eq (s : ByteArray) (c : UInt8) : (s.toList == [c]) = decide (s.data.toList = [c]) := by
  rw [ByteArray.toList_eq, Bool.eq_iff_iff]; simp
set_option maxHeartbeats 1000000 in
set_option maxRecDepth 100000 in
theorem name_any (s : ByteArray) (hs : s.size <= maxLen) (w : World) :
    Calls Tryz.prog 131 #[.string s] w fun e w' => e = .returned (.bool (nameB s.data.toList)) /\ Below w.heap.size w w' := by
  have hmax := hs
  unfold maxLen at hs
  by_cases h1 : s.size < 1
  · have H : Hid (nameB s.data.toList = false) := by
      have : ¬ 1 <= s.data.toList.length := by rw [size_list]; omega
      show _ = _; unfold nameB; rw [decide_eq_false this]; rfl
    go_enter Tryz.func131, Tryz.ntmps131
    go_wp2
    go_ret
    exact ⟨ret_bool H.out.symm, Below.refl _ _⟩
  · by_cases h2 : 31 < s.size
    · have H : Hid (nameB s.data.toList = false) := by
        have : ¬ s.data.toList.length <= 31 := by rw [size_list]; omega
        show _ = _; unfold nameB; rw [decide_eq_false this]; simp
      go_enter Tryz.func131, Tryz.ntmps131
      go_wp2
      go_ret
      exact ⟨ret_bool H.out.symm, Below.refl _ _⟩
    · by_cases h3 : s.data.toList = [92]
      · have H : Hid (nameB s.data.toList = false) := by show _ = _; rw [h3]; rfl
        have e3 : (s.toList == [92]) = true := by rw [list_eq]; simpa using h3
        clear h3
        go_enter Tryz.func131, Tryz.ntmps131
        go_wp2
        go_ret
        exact ⟨ret_bool H.out.symm, Below.refl _ _⟩
      · by_cases h4 : s.data.toList = [40]
        · have H : Hid (nameB s.data.toList = false) := by show _ = _; rw [h4]; rfl
          have e3 : (s.toList == [92]) = false := by rw [list_eq]; simpa using h3
          have e4 : (s.toList == [40]) = true := by rw [list_eq]; simpa using h4
          clear h3 h4
          go_enter Tryz.func131, Tryz.ntmps131
          go_wp2
          go_ret
          exact ⟨ret_bool H.out.symm, Below.refl _ _⟩
        · have H : Hid (nameB s.data.toList = (s.data.toList.all (fun c => seen c.toNat) && decide (numI s.data.toList = none))) :=
            nameB_of _ (by rw [size_list]; omega) (by rw [size_list]; omega) h3 h4
          have e3 : (s.toList == [92]) = false := by rw [list_eq]; simpa using h3
          have e4 : (s.toList == [40]) = false := by rw [list_eq]; simpa using h4
          clear h3 h4
          go_enter Tryz.func131, Tryz.ntmps131
          go_wp2
          go_loopw [4] (fun _ wr => ∃ pos : Nat, pos <= s.size /\ wr.heap[w.heap.size]? = some (.stringIter s pos) /\ Below w.heap.size w wr /\ (s.data.toList.take pos).all (fun c => seen c.toNat) = true) (fun _ wr => s.size - wr.iterPos w.heap.size)
          case atStart =>
            refine ⟨0, Nat.zero_le _, ?_, (Below.refl _ w).alloc (Nat.le_refl _) _, rfl⟩
            have := World.iter_heap w s 0
            simpa using this
          case round =>
            obtain ⟨pos, hpos, hit, hbw, hall⟩ := hrel
            have hsz : w.heap.size < wr.heap.size := (Array.getElem?_eq_some_iff.1 hit).1
            by_cases hp : pos < s.size
            · have hnx : ∀ ty, (Instr.next (.pointer (some ⟨w.heap.size, 0, none⟩)) true ty).run Tryz.prog wr = _ := fun ty => Lib.run_next_any_at wr w.heap.size s pos ty hit hp
              obtain ⟨hdr, hd1⟩ := seen_rune s pos hp
              have hle := decode_le s pos
              have hit2 := Lib.iterAt_heap wr w.heap.size s pos (pos + (Utf8.decode s pos).2) hit
              have hbw2 := Lib.below_iterAt hbw (k := w.heap.size) (Nat.le_refl _) s (pos + (Utf8.decode s pos).2)
              have hts := take_snoc s pos hp
              have HA : Hid ((s.data.toList.take (pos + 1)).all (fun c => seen c.toNat) = seen (Utf8.decode s pos).1) := by
                show _ = _; rw [hts, List.all_append, hall, hdr]; simp
              clear hts hdr hall
              generalize hr : (Utf8.decode s pos).1 = r at *
              generalize hw1 : (Utf8.decode s pos).2 = wd at *
              clear hr hw1
              cases hd : seen r with
              | true =>
                obtain rfl := hd1 hd
                go_wp2_with (go_at_call 145; refine (visible_yes r hd _).mono ?_; rintro e w' ⟨rfl, rfl⟩)
                go_roundw
                case rel => exact ⟨pos + 1, by omega, hit2, hbw2, by rw [HA.out, hd]⟩
                case measure => simp only [World.iterPos, hit2, hit]; omega
              | false =>
                have H2 : Hid (nameB s.data.toList = false) := by
                  show _ = _; rw [H.out, all_take_false _ (pos + 1) (by rw [HA.out, hd])]; rfl
                clear HA hd1
                go_wp2_with (go_at_call 145; refine (visible_no r hd _).mono ?_; rintro e w' ⟨rfl, rfl⟩)
                go_ret
                exact ⟨ret_bool H2.out.symm, hbw2⟩
            · have hnx : ∀ ty, (Instr.next (.pointer (some ⟨w.heap.size, 0, none⟩)) true ty).run Tryz.prog wr = _ := fun ty => Lib.run_next_end_at wr w.heap.size s pos ty hit hp
              have hl : s.data.toList.take pos = s.data.toList := List.take_of_length_le (by rw [size_list]; omega)
              rw [hl] at hall
              have H2 : Hid (nameB s.data.toList = decide (numE s.data.toList = 20)) := by
                show _ = _; rw [H.out, hall]; unfold numE; rw [errOf_20]; rfl
              clear hl hall
              go_wp2_with (go_at_call 146; refine (numeral_any s hmax _).mono ?_; rintro e w' ⟨rfl, hbn⟩)
              go_ret
              exact ⟨ret_bool (by rw [H2.out]; rfl), hbw.trans (hbn.mono (by omega))⟩
end Go.Proofs.YtoemoiehjdmheaaGreat.T
