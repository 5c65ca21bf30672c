import Derived.Test.YtlilefhmohkfkaaGreatDoorTLeaf
import Derived.Test.YtlilefhmohkfkaaGreatDoorShelf
import Derived.Deep.QuietTactic
import Derived.BigQuiet
namespace Go.Proofs.YtlilefhmohkfkaaGreatDoor.T
open Go.RowKit
set_option linter.unusedVariables false
def hd (l : List UInt8) : Nat := match l with | [] => 999 | c :: _ => c.toNat
theorem prefix_at (l : List UInt8) (c : UInt8) : Lib.hasPrefix l [c] = decide (hd l = c.toNat) := by
  unfold Lib.hasPrefix
  have hc : c.toNat < 256 := c.toNat_lt
  cases l with
  | nil => have h2 : ¬ 999 = c.toNat := by omega
           simp [List.isPrefixOf, hd, h2]
  | cons a t =>
    by_cases h : c = a
    · subst h; simp [List.isPrefixOf, hd]
    · have h2 : ¬ a.toNat = c.toNat := fun e => h (UInt8.toNat_inj.1 e).symm
      simp [List.isPrefixOf, hd, h, h2]
theorem hd_cons {l : List UInt8} {c : Nat} (h : hd l = c) (hc : c < 256) : ∃ a t, l = a :: t /\ a.toNat = c := by
  cases l with
  | nil => simp [hd] at h; omega
  | cons a t => exact ⟨a, t, rfl, h⟩
theorem hd_size {s : ByteArray} {c : Nat} (h : hd s.data.toList = c) (hc : c < 256) : 1 <= s.size := by
  obtain ⟨a, t, e, _⟩ := hd_cons h hc
  rw [<- size_list, e]; simp
theorem tail_list (s : ByteArray) (c : UInt8) (t : List UInt8) (h : s.data.toList = c :: t) : (s.extract 1 s.size).data.toList = t := by
  have hz : s.size = t.length + 1 := by rw [<- size_list, h]; rfl
  rw [ByteArray.data_extract, Array.toList_extract, h, hz]
  simp
theorem below_drewN (w : World) (n : Nat) : Below w.heap.size w (w.drewN n) := ⟨rfl, rfl, rfl, Nat.le_refl _, fun _ _ => rfl⟩
theorem parts_minus (s : ByteArray) (hs : s.size <= maxLen) (h : hd s.data.toList = 45) (w : World) :
    Calls Tryz.prog 108 #[.string s] w fun e w' => e = .returned (.tuple #[.int .i64 (-1), .int .i64 10, .string (s.extract 1 s.size)]) /\ Below w.heap.size w w' := by
  unfold maxLen at hs
  have hp : Lib.hasPrefix s.data.toList [45] = true := by rw [prefix_at, h]; decide
  have hz := hd_size h (by omega)
  clear h
  go_enter Tryz.func108, Tryz.ntmps108
  go_wp2_with (go_at_call 116; refine (Tryz.strings_HasPrefix _ _ _).mono ?_; rintro e w' ⟨rfl, rfl⟩)
  go_quiet (fail)
  go_wp2
  exact bodyPost_ret (v := .tuple #[.int .i64 (-1), .int .i64 10, .string (s.extract 1 s.size)]) (by simp [results, Tryz.results108, go_sem]) rfl ⟨rfl, below_drewN _ _⟩
theorem parts_dollar (s : ByteArray) (hs : s.size <= maxLen) (h : hd s.data.toList = 36) (w : World) :
    Calls Tryz.prog 108 #[.string s] w fun e w' => e = .returned (.tuple #[.int .i64 1, .int .i64 16, .string (s.extract 1 s.size)]) /\ Below w.heap.size w w' := by
  unfold maxLen at hs
  have hp : Lib.hasPrefix s.data.toList [36] = true := by rw [prefix_at, h]; decide
  have hp45 : Lib.hasPrefix s.data.toList [45] = false := by rw [prefix_at, h]; decide
  have hz := hd_size h (by omega)
  clear h
  go_enter Tryz.func108, Tryz.ntmps108
  go_wp2_with (go_at_call 116; refine (Tryz.strings_HasPrefix _ _ _).mono ?_; rintro e w' ⟨rfl, rfl⟩)
  go_quiet (fail)
  go_wp2
  exact bodyPost_ret (v := .tuple #[.int .i64 1, .int .i64 16, .string (s.extract 1 s.size)]) (by simp [results, Tryz.results108, go_sem]) rfl ⟨rfl, below_drewN _ _⟩
theorem parts_percent (s : ByteArray) (hs : s.size <= maxLen) (h : hd s.data.toList = 37) (w : World) :
    Calls Tryz.prog 108 #[.string s] w fun e w' => e = .returned (.tuple #[.int .i64 1, .int .i64 2, .string (s.extract 1 s.size)]) /\ Below w.heap.size w w' := by
  unfold maxLen at hs
  have hp : Lib.hasPrefix s.data.toList [37] = true := by rw [prefix_at, h]; decide
  have hp45 : Lib.hasPrefix s.data.toList [45] = false := by rw [prefix_at, h]; decide
  have hp36 : Lib.hasPrefix s.data.toList [36] = false := by rw [prefix_at, h]; decide
  have hz := hd_size h (by omega)
  clear h
  go_enter Tryz.func108, Tryz.ntmps108
  go_wp2_with (go_at_call 116; refine (Tryz.strings_HasPrefix _ _ _).mono ?_; rintro e w' ⟨rfl, rfl⟩)
  go_quiet (fail)
  go_wp2
  exact bodyPost_ret (v := .tuple #[.int .i64 1, .int .i64 2, .string (s.extract 1 s.size)]) (by simp [results, Tryz.results108, go_sem]) rfl ⟨rfl, below_drewN _ _⟩
theorem parts_else (s : ByteArray) (h1 : hd s.data.toList ≠ 45) (h2 : hd s.data.toList ≠ 36) (h3 : hd s.data.toList ≠ 37) (w : World) :
    Calls Tryz.prog 108 #[.string s] w fun e w' => e = .returned (.tuple #[.int .i64 1, .int .i64 10, .string s]) /\ Below w.heap.size w w' := by
  have hp1 : Lib.hasPrefix s.data.toList [45] = false := by rw [prefix_at]; simpa using h1
  have hp2 : Lib.hasPrefix s.data.toList [36] = false := by rw [prefix_at]; simpa using h2
  have hp3 : Lib.hasPrefix s.data.toList [37] = false := by rw [prefix_at]; simpa using h3
  clear h1 h2 h3
  go_enter Tryz.func108, Tryz.ntmps108
  go_wp2_with (go_at_call 116; refine (Tryz.strings_HasPrefix _ _ _).mono ?_; rintro e w' ⟨rfl, rfl⟩)
  exact bodyPost_ret (v := .tuple #[.int .i64 1, .int .i64 10, .string s]) (by simp [results, Tryz.results108, go_sem]) rfl ⟨rfl, Below.refl _ _⟩
theorem nb_body (b : Nat) (l : List UInt8) : (nb b l = false /\ body b l = none) \/ ∃ v, nb b l = true /\ body b l = some v /\ nv b l = ((min v 65536 : Nat) : Int) := by
  unfold body
  by_cases h : l = []
  · left; subst h; exact ⟨rfl, rfl⟩
  · cases hv : val b l with
    | none => left; exact ⟨nb_none hv, by rw [if_neg h]⟩
    | some v => right; exact ⟨v, by rw [nb_some hv]; simpa using h, by rw [if_neg h], nv_some hv⟩
theorem numI_quo (l : List UInt8) (h : quo l = true) : numI l = some ((l.getD 1 0).toNat : Int) := by unfold numI; rw [if_pos h]
theorem numI_minus (l t : List UInt8) (a : UInt8) (h : quo l = false) (e : l = a :: t) (ha : a.toNat = 45) : numI l = (body 10 t).map fun n => -(n : Int) := by
  subst e; unfold numI; rw [if_neg (by simp [h])]; simp [ha]
theorem numI_dollar (l t : List UInt8) (a : UInt8) (h : quo l = false) (e : l = a :: t) (ha : a.toNat = 36) : numI l = (body 16 t).map fun n => (n : Int) := by
  subst e; unfold numI; rw [if_neg (by simp [h])]; simp [ha]
theorem numI_percent (l t : List UInt8) (a : UInt8) (h : quo l = false) (e : l = a :: t) (ha : a.toNat = 37) : numI l = (body 2 t).map fun n => (n : Int) := by
  subst e; unfold numI; rw [if_neg (by simp [h])]; simp [ha]
theorem numI_else (l : List UInt8) (h : quo l = false) (h1 : hd l ≠ 45) (h2 : hd l ≠ 36) (h3 : hd l ≠ 37) : numI l = (body 10 l).map fun n => (n : Int) := by
  unfold numI; rw [if_neg (by simp [h])]
  cases l with
  | nil => rfl
  | cons a t => have h1 : ¬ a.toNat = 45 := h1; have h2 : ¬ a.toNat = 36 := h2; have h3 : ¬ a.toNat = 37 := h3
                simp [h1, h2, h3]
theorem ret_num {a a' b b' : Int} (h1 : a = a') (h2 : b = b') : Ending.returned (.tuple #[.int .u16 a, .int .i64 b]) = .returned (.tuple #[.int .u16 a', .int .i64 b']) := by rw [h1, h2]
theorem numC_none {l : List UInt8} (h : numI l = none) : numC l = 0 /\ numE l = 20 := by unfold numC numE; rw [h]; exact ⟨rfl, rfl⟩
theorem numC_in {l : List UInt8} {n : Int} (h : numI l = some n) (a : -32768 <= n) (b : n <= 65535) : numC l = n % 65536 /\ numE l = 0 := by
  unfold numC numE cellOf errOf; rw [h]; simp [a, b]
theorem numC_out {l : List UInt8} {n : Int} (h : numI l = some n) (a : n < -32768 \/ 65535 < n) : numC l = 0 /\ numE l = 21 := by
  have : ¬ (-32768 <= n /\ n <= 65535) := by omega
  unfold numC numE cellOf errOf; rw [h]; simp only [if_neg this]; exact ⟨trivial, trivial⟩
theorem numeral_of (s d : ByteArray) (hd : d.size <= maxLen) (σ : Int) (hσ : σ = 1 \/ σ = -1) (b : Nat) (hb2 : 2 <= b) (hb16 : b <= 16) (hs : s.size <= maxLen)
    (hq : quo s.data.toList = false)
    (hp : ∀ w, Calls Tryz.prog 108 #[.string s] w fun e w' => e = .returned (.tuple #[.int .i64 σ, .int .i64 b, .string d]) /\ Below w.heap.size w w')
    (hn : numI s.data.toList = (body b d.data.toList).map fun n => σ * (n : Int)) (w : World) :
    Calls Tryz.prog 93 #[.string s] w fun e w' => e = .returned (.tuple #[.int .u16 (numC s.data.toList), .int .i64 (numE s.data.toList)]) /\ Below w.heap.size w w' := by
  rcases nb_body b d.data.toList with ⟨hf, hb⟩ | ⟨v, ht, hb, hv⟩
  · rw [hb] at hn
    have H : Hid (numC s.data.toList = 0 /\ numE s.data.toList = 20) := numC_none hn
    clear hn hb
    go_enter Tryz.func93, Tryz.ntmps93
    go_wp2_with (first | (go_at_call 107; refine (quoted_any _ hs _).mono ?_; rintro e w1 ⟨rfl, rfl⟩) | (go_at_call 108; refine (hp _).mono ?_; rintro e w2 ⟨rfl, hb1⟩) | (go_at_call 109; refine (number_any d b hd hb2 hb16 _).mono ?_; rintro e w3 ⟨rfl, hb2⟩))
    go_ret2
    exact ⟨ret_num H.out.1.symm H.out.2.symm, hb1.trans (hb2.mono hb1.size)⟩
  · rw [hb] at hn
    have hn' : numI s.data.toList = some (σ * (v : Int)) := hn
    clear hn hb
    by_cases hin : -32768 <= σ * (v : Int) /\ σ * (v : Int) <= 65535
    · have H : Hid (numC s.data.toList = (σ * (v : Int)) % 65536 /\ numE s.data.toList = 0) := numC_in hn' hin.1 hin.2
      obtain ⟨h1, h2⟩ := hin
      clear hn'
      have hv' : nv b d.data.toList = (v : Int) := by rw [hv]; rcases hσ with rfl | rfl <;> omega
      clear hv
      rcases hσ with rfl | rfl
      all_goals
        have h3 : 0 <= (v : Int) := by omega
        have h4 : (v : Int) <= 65535 := by omega
        go_enter Tryz.func93, Tryz.ntmps93
        go_wp2_with (first | (go_at_call 107; refine (quoted_any _ hs _).mono ?_; rintro e w1 ⟨rfl, rfl⟩) | (go_at_call 108; refine (hp _).mono ?_; rintro e w2 ⟨rfl, hb1⟩) | (go_at_call 109; refine (number_any d b hd hb2 hb16 _).mono ?_; rintro e w3 ⟨rfl, hb2⟩))
        go_ret2
        exact ⟨ret_num (by rw [H.out.1]; first | omega | (rw [IntKind.wrap_u16]; omega)) H.out.2.symm, hb1.trans (hb2.mono hb1.size)⟩
    · have H : Hid (numC s.data.toList = 0 /\ numE s.data.toList = 21) := numC_out hn' (by omega)
      clear hn'
      generalize hm : min v 65536 = m at hv
      have hmI : Hid (m = min v 65536) := hm.symm
      clear hm
      rcases hσ with rfl | rfl
      · have h4 : (65535 : Int) < m := by have := hmI.out; omega
        have h5 : (m : Int) <= 65536 := by have := hmI.out; omega
        clear hin
        go_enter Tryz.func93, Tryz.ntmps93
        go_wp2_with (first | (go_at_call 107; refine (quoted_any _ hs _).mono ?_; rintro e w1 ⟨rfl, rfl⟩) | (go_at_call 108; refine (hp _).mono ?_; rintro e w2 ⟨rfl, hb1⟩) | (go_at_call 109; refine (number_any d b hd hb2 hb16 _).mono ?_; rintro e w3 ⟨rfl, hb2⟩))
        go_ret2
        exact ⟨ret_num H.out.1.symm H.out.2.symm, hb1.trans (hb2.mono hb1.size)⟩
      · have h4 : (32768 : Int) < m := by have := hmI.out; omega
        have h5 : (m : Int) <= 65536 := by have := hmI.out; omega
        clear hin
        go_enter Tryz.func93, Tryz.ntmps93
        go_wp2_with (first | (go_at_call 107; refine (quoted_any _ hs _).mono ?_; rintro e w1 ⟨rfl, rfl⟩) | (go_at_call 108; refine (hp _).mono ?_; rintro e w2 ⟨rfl, hb1⟩) | (go_at_call 109; refine (number_any d b hd hb2 hb16 _).mono ?_; rintro e w3 ⟨rfl, hb2⟩))
        go_ret2
        exact ⟨ret_num H.out.1.symm H.out.2.symm, hb1.trans (hb2.mono hb1.size)⟩
theorem extract_le (s : ByteArray) (h : s.size <= maxLen) : (s.extract 1 s.size).size <= maxLen := by
  have : (s.extract 1 s.size).size = min s.size s.size - 1 := by simp [ByteArray.size_extract]
  omega
theorem numeral_any (s : ByteArray) (hs : s.size <= maxLen) (w : World) :
    Calls Tryz.prog 93 #[.string s] w fun e w' => e = .returned (.tuple #[.int .u16 (numC s.data.toList), .int .i64 (numE s.data.toList)]) /\ Below w.heap.size w w' := by
  cases hq : quo s.data.toList with
  | true =>
    have h3 : s.size = 3 := by
      by_cases h : s.size = 3
      · exact h
      · rw [quo_else s h] at hq; cases hq
    have hl1 : 1 < s.size := by omega
    have hb1 : s[1].toNat < 256 := s[1].toNat_lt
    have hn : numI s.data.toList = some (s[1].toNat : Int) := by
      rw [numI_quo _ hq]
      obtain ⟨a, b, c, rfl⟩ := three s h3
      rfl
    have H : Hid (numC s.data.toList = (s[1].toNat : Int) % 65536 /\ numE s.data.toList = 0) := numC_in hn (by omega) (by omega)
    clear hn
    go_enter Tryz.func93, Tryz.ntmps93
    go_wp2_with (first | (go_at_call 107; refine (quoted_any _ hs _).mono ?_; rintro e w1 ⟨rfl, rfl⟩))
    go_ret2
    exact ⟨ret_num (by rw [H.out.1]; omega) H.out.2.symm, Below.refl _ _⟩
  | false =>
    by_cases h1 : hd s.data.toList = 45
    · obtain ⟨a, t, e, ha⟩ := hd_cons h1 (by omega)
      exact numeral_of s (s.extract 1 s.size) (extract_le s hs) (-1) (.inr rfl) 10 (by omega) (by omega) hs hq (fun w => parts_minus s hs h1 w)
        (by rw [numI_minus _ t a hq e ha, tail_list s a t e]; congr 1; funext n; omega) w
    · by_cases h2 : hd s.data.toList = 36
      · obtain ⟨a, t, e, ha⟩ := hd_cons h2 (by omega)
        exact numeral_of s (s.extract 1 s.size) (extract_le s hs) 1 (.inl rfl) 16 (by omega) (by omega) hs hq (fun w => parts_dollar s hs h2 w)
          (by rw [numI_dollar _ t a hq e ha, tail_list s a t e]; congr 1; funext n; omega) w
      · by_cases h3 : hd s.data.toList = 37
        · obtain ⟨a, t, e, ha⟩ := hd_cons h3 (by omega)
          exact numeral_of s (s.extract 1 s.size) (extract_le s hs) 1 (.inl rfl) 2 (by omega) (by omega) hs hq (fun w => parts_percent s hs h3 w)
            (by rw [numI_percent _ t a hq e ha, tail_list s a t e]; congr 1; funext n; omega) w
        · exact numeral_of s s hs 1 (.inl rfl) 10 (by omega) (by omega) hs hq (fun w => parts_else s h1 h2 h3 w)
            (by rw [numI_else _ hq h1 h2 h3]; congr 1; funext n; omega) w
theorem seen_rune (s : ByteArray) (pos : Nat) (h : pos < s.size) : seen (Utf8.decode s pos).1 = seen (s[pos]'h).toNat /\ (seen (Utf8.decode s pos).1 = true -> (Utf8.decode s pos).2 = 1) := by
  by_cases ha : (s[pos]'h).toNat < 128
  · rw [decode_ascii s pos h ha]; exact ⟨rfl, fun _ => rfl⟩
  · have h1 := (decode_high s pos h (by omega)).1
    have e1 : seen (Utf8.decode s pos).1 = false := by unfold seen; simp; omega
    have e2 : seen (s[pos]'h).toNat = false := by unfold seen; simp; omega
    rw [e1, e2]
    exact ⟨rfl, fun x => by cases x⟩
theorem all_take_false (l : List UInt8) (k : Nat) (h : (l.take k).all (fun c => seen c.toNat) = false) : l.all (fun c => seen c.toNat) = false := by
  rw [<- List.take_append_drop k l, List.all_append, h, Bool.false_and]
theorem nameB_of (l : List UInt8) (h1 : 1 <= l.length) (h2 : l.length <= 31) (h3 : l ≠ [92]) (h4 : l ≠ [40]) :
    nameB l = (l.all (fun c => seen c.toNat) && decide (numI l = none)) := by
  unfold nameB; simp [h1, h2, h3, h4]
theorem errOf_20 (o : Option Int) : decide (errOf o = 20) = decide (o = none) := by
  cases o with
  | none => rfl
  | some n => unfold errOf; simp only; split <;> simp
theorem list_eq (s : ByteArray) (c : UInt8) : (s.toList == [c]) = decide (s.data.toList = [c]) := by
  rw [ByteArray.toList_eq, Bool.eq_iff_iff]; simp
set_option maxHeartbeats 1000000 in
set_option maxRecDepth 100000 in
theorem name_any (s : ByteArray) (hs : s.size <= maxLen) (w : World) :
    Calls Tryz.prog 78 #[.string s] w fun e w' => e = .returned (.bool (nameB s.data.toList)) /\ Below w.heap.size w w' := by
  have hmax := hs
  unfold maxLen at hs
  by_cases h1 : s.size < 1
  · have H : Hid (nameB s.data.toList = false) := by
      have : ¬ 1 <= s.data.toList.length := by rw [size_list]; omega
      show _ = _; unfold nameB; rw [decide_eq_false this]; rfl
    go_enter Tryz.func78, Tryz.ntmps78
    go_wp2
    go_ret
    exact ⟨ret_bool H.out.symm, Below.refl _ _⟩
  · by_cases h2 : 31 < s.size
    · have H : Hid (nameB s.data.toList = false) := by
        have : ¬ s.data.toList.length <= 31 := by rw [size_list]; omega
        show _ = _; unfold nameB; rw [decide_eq_false this]; simp
      go_enter Tryz.func78, Tryz.ntmps78
      go_wp2
      go_ret
      exact ⟨ret_bool H.out.symm, Below.refl _ _⟩
    · by_cases h3 : s.data.toList = [92]
      · have H : Hid (nameB s.data.toList = false) := by show _ = _; rw [h3]; rfl
        have e3 : (s.toList == [92]) = true := by rw [list_eq]; simpa using h3
        clear h3
        go_enter Tryz.func78, Tryz.ntmps78
        go_wp2
        go_ret
        exact ⟨ret_bool H.out.symm, Below.refl _ _⟩
      · by_cases h4 : s.data.toList = [40]
        · have H : Hid (nameB s.data.toList = false) := by show _ = _; rw [h4]; rfl
          have e3 : (s.toList == [92]) = false := by rw [list_eq]; simpa using h3
          have e4 : (s.toList == [40]) = true := by rw [list_eq]; simpa using h4
          clear h3 h4
          go_enter Tryz.func78, Tryz.ntmps78
          go_wp2
          go_ret
          exact ⟨ret_bool H.out.symm, Below.refl _ _⟩
        · have H : Hid (nameB s.data.toList = (s.data.toList.all (fun c => seen c.toNat) && decide (numI s.data.toList = none))) :=
            nameB_of _ (by rw [size_list]; omega) (by rw [size_list]; omega) h3 h4
          have e3 : (s.toList == [92]) = false := by rw [list_eq]; simpa using h3
          have e4 : (s.toList == [40]) = false := by rw [list_eq]; simpa using h4
          clear h3 h4
          go_enter Tryz.func78, Tryz.ntmps78
          go_wp2
          go_loopw [4] (fun _ wr => ∃ pos : Nat, pos <= s.size /\ wr.heap[w.heap.size]? = some (.stringIter s pos) /\ Below w.heap.size w wr /\ (s.data.toList.take pos).all (fun c => seen c.toNat) = true) (fun _ wr => s.size - wr.iterPos w.heap.size)
          case atStart =>
            refine ⟨0, Nat.zero_le _, ?_, (Below.refl _ w).alloc (Nat.le_refl _) _, rfl⟩
            have := World.iter_heap w s 0
            simpa using this
          case round =>
            obtain ⟨pos, hpos, hit, hbw, hall⟩ := hrel
            have hsz : w.heap.size < wr.heap.size := (Array.getElem?_eq_some_iff.1 hit).1
            by_cases hp : pos < s.size
            · have hnx : ∀ ty, (Instr.next (.pointer (some ⟨w.heap.size, 0, none⟩)) true ty).run Tryz.prog wr = _ := fun ty => Lib.run_next_any_at wr w.heap.size s pos ty hit hp
              obtain ⟨hdr, hd1⟩ := seen_rune s pos hp
              have hle := decode_le s pos
              have hit2 := Lib.iterAt_heap wr w.heap.size s pos (pos + (Utf8.decode s pos).2) hit
              have hbw2 := Lib.below_iterAt hbw (k := w.heap.size) (Nat.le_refl _) s (pos + (Utf8.decode s pos).2)
              have hts := take_snoc s pos hp
              have HA : Hid ((s.data.toList.take (pos + 1)).all (fun c => seen c.toNat) = seen (Utf8.decode s pos).1) := by
                show _ = _; rw [hts, List.all_append, hall, hdr]; simp
              clear hts hdr hall
              generalize hr : (Utf8.decode s pos).1 = r at *
              generalize hw1 : (Utf8.decode s pos).2 = wd at *
              clear hr hw1
              cases hd : seen r with
              | true =>
                obtain rfl := hd1 hd
                go_wp2_with (go_at_call 92; refine (visible_yes r hd _).mono ?_; rintro e w' ⟨rfl, rfl⟩)
                go_roundw
                case rel => exact ⟨pos + 1, by omega, hit2, hbw2, by rw [HA.out, hd]⟩
                case measure => simp only [World.iterPos, hit2, hit]; omega
              | false =>
                have H2 : Hid (nameB s.data.toList = false) := by
                  show _ = _; rw [H.out, all_take_false _ (pos + 1) (by rw [HA.out, hd])]; rfl
                clear HA hd1
                go_wp2_with (go_at_call 92; refine (visible_no r hd _).mono ?_; rintro e w' ⟨rfl, rfl⟩)
                go_ret
                exact ⟨ret_bool H2.out.symm, hbw2⟩
            · have hnx : ∀ ty, (Instr.next (.pointer (some ⟨w.heap.size, 0, none⟩)) true ty).run Tryz.prog wr = _ := fun ty => Lib.run_next_end_at wr w.heap.size s pos ty hit hp
              have hl : s.data.toList.take pos = s.data.toList := List.take_of_length_le (by rw [size_list]; omega)
              rw [hl] at hall
              have H2 : Hid (nameB s.data.toList = decide (numE s.data.toList = 20)) := by
                show _ = _; rw [H.out, hall]; unfold numE; rw [errOf_20]; rfl
              clear hl hall
              go_wp2_with (go_at_call 93; refine (numeral_any s hmax _).mono ?_; rintro e w' ⟨rfl, hbn⟩)
              go_ret
              exact ⟨ret_bool (by rw [H2.out]; rfl), hbw.trans (hbn.mono (by omega))⟩
def hexd (d : Nat) : UInt8 := if d < 10 then UInt8.ofNat (48 + d) else UInt8.ofNat (87 + d)
theorem lit16 (d : Nat) (h : d < 16) : ((⟨#[48, 49, 50, 51, 52, 53, 54, 55, 56, 57, 97, 98, 99, 100, 101, 102]⟩ : ByteArray)[d]'h) = hexd d := by
  have key : ∀ e : Fin 16, ((⟨#[48, 49, 50, 51, 52, 53, 54, 55, 56, 57, 97, 98, 99, 100, 101, 102]⟩ : ByteArray)[e.val]'e.isLt) = hexd e.val := by decide
  exact key ⟨d, h⟩
theorem dig_hexd (k : Nat) (h : k < 16) : dig (hexd k).toNat = k := by
  have key : ∀ e : Fin 16, dig (hexd e.val).toNat = e.val := by decide
  exact key ⟨k, h⟩
theorem hexd_dig (c : Nat) (h : dig c < 99) : dig c < 16 /\ (hexd (dig c)).toNat = c := by
  have key : ∀ c : Fin 103, dig c.val < 99 -> dig c.val < 16 /\ (hexd (dig c.val)).toNat = c.val := by decide
  by_cases hc : c < 103
  · exact key ⟨c, hc⟩ h
  · rw [dig_high c (by omega)] at h; omega
set_option maxRecDepth 100000 in
theorem rdigit_any (c : Nat) (w : World) :
    Calls Tryz.prog 88 #[.int .u8 (c : Int)] w fun e w' => e = .returned (.int .i64 (dig c : Int)) /\ w' = w := by
  go_enter Tryz.func88, Tryz.ntmps88
  go_wp2
  go_loop [3] (fun i => ∃ k : Nat, k <= 16 /\ i = .int .i64 k /\ ∀ j, j < k -> (hexd j).toNat ≠ c) (fun i => 16 - (intOf i).toNat)
  case atStart => exact ⟨0, by omega, rfl, fun j h => by omega⟩
  case round =>
    obtain ⟨k, hk, rfl, hno⟩ := hrel
    by_cases hlt : k < 16
    · have hl := lit16 k hlt
      have i0 : (0 : Int) <= (k : Int) := by omega
      have i1 : (k : Int) < 16 := by omega
      have HN : Hid (∀ j, j < k -> (hexd j).toNat ≠ c) := hno
      clear hno
      by_cases hc : (hexd k).toNat = c
      · have hd := dig_hexd k hlt
        rw [hc] at hd
        have hcI : ((hexd k).toNat : Int) = (c : Int) := by omega
        have HD : Hid (dig c = k) := hd
        clear hd hc
        go_wp2
        go_ret
        exact ⟨ret_int (by rw [HD.out]), rfl⟩
      · have hcI : ¬ ((hexd k).toNat : Int) = (c : Int) := by omega
        go_wp2
        go_round
        case rel => exact ⟨k + 1, by omega, by go_num, fun j hj => by
          by_cases e : j = k
          · subst e; exact hc
          · exact HN.out j (by omega)⟩
        case measure => simp [intOf]; omega
    · have hd : dig c = 99 := by
        by_cases h : dig c < 99
        · obtain ⟨h1, h2⟩ := hexd_dig c h
          exact absurd h2 (hno (dig c) (by omega))
        · have := dig_le c; omega
      clear hno
      go_wp2
      go_ret
      exact ⟨rfl, rfl⟩
def rv (b : Nat) (l : List UInt8) : Int := match val b l with | none => 0 | some v => ((min v 1000000 : Nat) : Int)
theorem rv_some {b : Nat} {l : List UInt8} {v : Nat} (h : val b l = some v) : rv b l = ((min v 1000000 : Nat) : Int) := by unfold rv; rw [h]
theorem rv_none {b : Nat} {l : List UInt8} (h : val b l = none) : rv b l = 0 := by unfold rv; rw [h]
set_option maxHeartbeats 1000000 in
set_option maxRecDepth 100000 in
theorem rdigits_any (s : ByteArray) (b : Nat) (hs : s.size <= maxLen) (hb2 : 2 <= b) (hb16 : b <= 16) (w : World) :
    Calls Tryz.prog 76 #[.string s, .int .i64 b] w fun e w' => e = .returned (.tuple #[.int .i64 (rv b s.data.toList), .bool (nb b s.data.toList)]) /\ w' = w := by
  unfold maxLen at hs
  go_enter Tryz.func76, Tryz.ntmps76
  go_wp2
  go_loop [6, 7] (fun n i => ∃ (pos v : Nat), pos <= s.size /\ i = .int .i64 pos /\ val b (s.data.toList.take pos) = some v /\ n = .int .i64 ((min v 1000000 : Nat) : Int)) (fun _ i => s.size - (intOf i).toNat)
  case atStart => exact ⟨0, 0, Nat.zero_le _, rfl, rfl, rfl⟩
  case round =>
    obtain ⟨pos, v, hpos, rfl, hval, rfl⟩ := hrel
    by_cases hp : pos < s.size
    · have hts := take_snoc s pos hp
      have HV : Hid (val b (s.data.toList.take (pos + 1)) = stepV b (some v) (dig s[pos].toNat)) := by show _ = _; rw [hts, val_snoc, hval]
      have hnone : ¬ dig s[pos].toNat < b -> val b s.data.toList = none := by
        intro hn
        refine val_take_none b _ (pos + 1) ?_
        rw [HV.out]; unfold stepV; simp [hn]
      clear hts hval
      have hcall := rdigit_any s[pos].toNat w
      have hd9 := dig_le s[pos].toNat
      have hi0 : (0 : Int) <= (pos : Int) := by omega
      generalize hdd : dig s[pos].toNat = d at *
      clear hdd
      by_cases hd : d < b
      · have hmul : min v 1000000 * b <= 1000000 * 16 := Nat.mul_le_mul (Nat.min_le_right _ _) hb16
        have hcs := cap_step v b d 1000000 (by omega)
        clear hnone
        have HC : Hid (min (min v 1000000 * b + d) 1000000 = min (v * b + d) 1000000) := hcs
        clear hcs
        generalize hm : min v 1000000 = m at *
        generalize hmb : m * b = mb at *
        have hmbI : (m : Int) * (b : Int) = (mb : Int) := by rw [<- hmb]; simp
        clear hm hmb
        have hdb : (d : Int) < (b : Int) := by omega
        by_cases hg : 1000000 < mb + d
        · have hgI : (1000000 : Int) < (mb : Int) + (d : Int) := by omega
          go_wp2_with (go_at_call 88; refine hcall.mono ?_; rintro e w' ⟨rfl, rfl⟩)
          go_round
          case rel =>
            refine ⟨pos + 1, v * b + d, by omega, by go_num, ?_, ?_⟩
            · rw [HV.out]; unfold stepV; simp [hd]
            · rw [<- HC.out]; congr 1; omega
          case measure => simp [intOf]; omega
        · have hgI : ¬ (1000000 : Int) < (mb : Int) + (d : Int) := by omega
          go_wp2_with (go_at_call 88; refine hcall.mono ?_; rintro e w' ⟨rfl, rfl⟩)
          go_round
          case rel =>
            refine ⟨pos + 1, v * b + d, by omega, by go_num, ?_, ?_⟩
            · rw [HV.out]; unfold stepV; simp [hd]
            · rw [<- HC.out]; congr 1; omega
          case measure => simp [intOf]; omega
      · have hn := hnone hd
        have Hn : Hid (rv b s.data.toList = 0 /\ nb b s.data.toList = false) := ⟨rv_none hn, nb_none hn⟩
        clear hnone hn HV
        have hdb : (b : Int) <= (d : Int) := by omega
        go_wp2_with (go_at_call 88; refine hcall.mono ?_; rintro e w' ⟨rfl, rfl⟩)
        go_ret2
        exact ⟨ret_pair Hn.out.1.symm Hn.out.2.symm, rfl⟩
    · have hall : s.data.toList.take pos = s.data.toList := List.take_of_length_le (by rw [size_list]; omega)
      rw [hall] at hval
      have Hn : Hid (rv b s.data.toList = ((min v 1000000 : Nat) : Int) /\ nb b s.data.toList = decide (s.data.toList ≠ [])) := ⟨rv_some hval, nb_some hval⟩
      clear hval hall
      go_wp2
      go_ret2
      exact ⟨ret_pair Hn.out.1.symm (by rw [Hn.out.2]; exact str_ne s), rfl⟩
def capI (v : Int) : Int := max (-1000000) (min v 1000000)
theorem isEmpty_of (s : ByteArray) (h : 1 <= s.size) : s.toList.isEmpty = false := by
  rw [ByteArray.toList_eq]
  have : s.data.toList.length ≠ 0 := by rw [size_list]; omega
  cases e : s.data.toList with
  | nil => rw [e] at this; exact absurd rfl this
  | cons a t => rfl
theorem hd_at (s : ByteArray) (h : 0 < s.size) : hd s.data.toList = s[0].toNat := by
  obtain ⟨⟨l⟩⟩ := s
  cases l with
  | nil => exact absurd h (by show ¬ 0 < 0; omega)
  | cons a t => rfl
theorem rv_body (b : Nat) (l : List UInt8) : (nb b l = false /\ body b l = none) \/ ∃ v, nb b l = true /\ body b l = some v /\ rv b l = ((min v 1000000 : Nat) : Int) := by
  unfold body
  by_cases h : l = []
  · left; subst h; exact ⟨rfl, rfl⟩
  · cases hv : val b l with
    | none => left; exact ⟨nb_none hv, by rw [if_neg h]⟩
    | some v => right; exact ⟨v, by rw [nb_some hv]; simpa using h, by rw [if_neg h], rv_some hv⟩
def Says (l : List UInt8) (z : Int) (ok : Bool) : Prop := ok = (numI l).isSome /\ ∀ v, numI l = some v -> z = capI v
theorem says_pos {l d : List UInt8} {b : Nat} (h : numI l = (body b d).map fun n => (n : Int)) : Says l (rv b d) (nb b d) := by
  rcases rv_body b d with ⟨h1, h2⟩ | ⟨v, h1, h2, h3⟩
  · rw [h2] at h; exact ⟨by rw [h, h1]; rfl, fun v e => by rw [h] at e; cases e⟩
  · rw [h2] at h; refine ⟨by rw [h, h1]; rfl, fun v' e => ?_⟩
    rw [h] at e; simp at e; rw [<- e, h3]; unfold capI; omega
theorem says_neg {l d : List UInt8} {b : Nat} (h : numI l = (body b d).map fun n => -(n : Int)) : Says l (-(rv b d)) (nb b d) := by
  rcases rv_body b d with ⟨h1, h2⟩ | ⟨v, h1, h2, h3⟩
  · rw [h2] at h; exact ⟨by rw [h, h1]; rfl, fun v e => by rw [h] at e; cases e⟩
  · rw [h2] at h; refine ⟨by rw [h, h1]; rfl, fun v' e => ?_⟩
    rw [h] at e; simp at e; rw [<- e, h3]; unfold capI; omega
theorem rv_bd (b : Nat) (l : List UInt8) : 0 <= rv b l /\ rv b l <= 1000000 := by
  unfold rv; split <;> omega
set_option maxHeartbeats 1000000 in
set_option maxRecDepth 100000 in
theorem rnumber_any (s : ByteArray) (hs : s.size <= maxLen) (w : World) :
    Calls Tryz.prog 60 #[.string s] w fun e w' => ∃ z ok, e = .returned (.tuple #[.int .i64 z, .bool ok]) /\ Says s.data.toList z ok /\ Below w.heap.size w w' := by
  have hmax := hs
  unfold maxLen at hs
  by_cases h0 : s.size = 0
  · have hnil : s.data.toList = [] := by rw [<- List.length_eq_zero_iff, size_list]; exact h0
    have he : s.toList.isEmpty = true := by rw [ByteArray.toList_eq, hnil]; rfl
    have HS : Hid (Says s.data.toList 0 false) := by rw [hnil]; exact ⟨rfl, fun v e => by cases e⟩
    clear hnil
    go_enter Tryz.func60, Tryz.ntmps60
    go_wp2
    go_ret2
    exact ⟨0, false, rfl, HS.out, Below.refl _ _⟩
  have l0 : 0 < s.size := by omega
  have he := isEmpty_of s l0
  have hhd := hd_at s l0
  by_cases hq : s.size = 3 /\ hd s.data.toList = 39 /\ ∀ h : 2 < s.size, s[2].toNat = 39
  · obtain ⟨h3, h39, h2⟩ := hq
    have l1 : 1 < s.size := by omega
    have l2 : 2 < s.size := by omega
    have h2' := h2 l2
    rw [hhd] at h39
    have hb1 : s[1].toNat < 256 := s[1].toNat_lt
    have hquo : quo s.data.toList = seen s[1].toNat := by rw [quo_three s h3]; simp [h39, h2']
    have HS : Hid (Says s.data.toList (s[1].toNat : Int) (seen s[1].toNat)) := by
      by_cases hv : seen s[1].toNat = true
      · have hn : numI s.data.toList = some (s[1].toNat : Int) := by
          rw [numI_quo _ (by rw [hquo, hv])]
          obtain ⟨a, b, c, rfl⟩ := three s h3
          rfl
        exact ⟨by rw [hn, hv]; rfl, fun v e => by rw [hn] at e; cases e; unfold capI; omega⟩
      · have hv' : seen s[1].toNat = false := by simpa using hv
        have hn : numI s.data.toList = none := by
          rw [numI_else _ (by rw [hquo, hv']) (by omega) (by omega) (by omega)]
          obtain ⟨a, b, c, rfl⟩ := three s h3
          have ha : dig a.toNat = 99 := by
            have : a.toNat = 39 := h39
            rw [this]; rfl
          simp [body, val, stepV, ha]
        exact ⟨by rw [hn, hv']; rfl, fun v e => by rw [hn] at e; cases e⟩
    have e39 : (s[0].toNat : Int) = 39 := by omega
    have e392 : (s[2].toNat : Int) = 39 := by omega
    clear h2 h2' h39 hquo hhd
    by_cases hA : 33 <= s[1].toNat
    · have hd : decide ((33 : Int) <= (s[1].toNat : Int)) = true := by simp; omega
      have hsn : seen s[1].toNat = decide ((s[1].toNat : Int) <= 126) := by unfold seen; rw [Bool.eq_iff_iff]; simp; omega
      rw [hsn] at HS
      clear hsn
      go_enter Tryz.func60, Tryz.ntmps60
      go_wp2
      go_quiet (fail)
      go_wp2
      go_ret2
      exact ⟨_, _, rfl, HS.out, below_drewN _ _⟩
    · have hd : decide ((33 : Int) <= (s[1].toNat : Int)) = false := by simp; omega
      have hsn : seen s[1].toNat = false := by unfold seen; simp; omega
      rw [hsn] at HS
      clear hsn
      go_enter Tryz.func60, Tryz.ntmps60
      go_wp2
      go_quiet (fail)
      go_wp2
      go_ret2
      exact ⟨_, _, rfl, HS.out, below_drewN _ _⟩
  · have hquo : quo s.data.toList = false := by
      by_cases h3 : s.size = 3
      · rw [quo_three s h3]
        by_cases ha : s[0].toNat = 39
        · by_cases hc : (s[2]'(by omega)).toNat = 39
          · exact absurd ⟨h3, by rw [hhd]; exact ha, fun _ => hc⟩ hq
          · simp [hc]
        · simp [ha]
      · exact quo_else s h3
    by_cases h36 : hd s.data.toList = 36
    · obtain ⟨a, t, e, ha⟩ := hd_cons h36 (by omega)
      have HS : Hid (Says s.data.toList (rv 16 (s.extract 1 s.size).data.toList) (nb 16 (s.extract 1 s.size).data.toList)) := says_pos (by rw [numI_dollar _ t a hquo e ha, tail_list s a t e])
      have e36 : (s[0].toNat : Int) = 36 := by omega
      have hcall : ∀ W : World, Calls Tryz.prog 76 #[.string (s.extract 1 s.size), .int .i64 16] W fun e w' => e = .returned (.tuple #[.int .i64 (rv 16 (s.extract 1 s.size).data.toList), .bool (nb 16 (s.extract 1 s.size).data.toList)]) /\ w' = W := rdigits_any (s.extract 1 s.size) 16 (extract_le s hmax) (by omega) (by omega)
      have hrb := rv_bd 16 (s.extract 1 s.size).data.toList
      obtain ⟨hr0, hr1⟩ := hrb
      generalize rv 16 (s.extract 1 s.size).data.toList = z at *
      generalize nb 16 (s.extract 1 s.size).data.toList = ok at *
      clear e ha hq hquo hhd h36 hmax
      by_cases h3 : s.size = 3
      all_goals
        first | rw [h3] at hcall | skip
        go_enter Tryz.func60, Tryz.ntmps60
        go_wp2_with (go_at_call 76; refine (hcall _).mono ?_; rintro e w' ⟨rfl, rfl⟩)
        go_ret2
        exact ⟨_, _, rfl, HS.out, Below.refl _ _⟩
    by_cases h37 : hd s.data.toList = 37
    · obtain ⟨a, t, e, ha⟩ := hd_cons h37 (by omega)
      have HS : Hid (Says s.data.toList (rv 2 (s.extract 1 s.size).data.toList) (nb 2 (s.extract 1 s.size).data.toList)) := says_pos (by rw [numI_percent _ t a hquo e ha, tail_list s a t e])
      have e37 : (s[0].toNat : Int) = 37 := by omega
      have hcall : ∀ W : World, Calls Tryz.prog 76 #[.string (s.extract 1 s.size), .int .i64 2] W fun e w' => e = .returned (.tuple #[.int .i64 (rv 2 (s.extract 1 s.size).data.toList), .bool (nb 2 (s.extract 1 s.size).data.toList)]) /\ w' = W := rdigits_any (s.extract 1 s.size) 2 (extract_le s hmax) (by omega) (by omega)
      have hrb := rv_bd 2 (s.extract 1 s.size).data.toList
      obtain ⟨hr0, hr1⟩ := hrb
      generalize rv 2 (s.extract 1 s.size).data.toList = z at *
      generalize nb 2 (s.extract 1 s.size).data.toList = ok at *
      clear e ha hq hquo hhd h37 hmax
      by_cases h3 : s.size = 3
      all_goals
        first | rw [h3] at hcall | skip
        go_enter Tryz.func60, Tryz.ntmps60
        go_wp2_with (go_at_call 76; refine (hcall _).mono ?_; rintro e w' ⟨rfl, rfl⟩)
        go_ret2
        exact ⟨_, _, rfl, HS.out, Below.refl _ _⟩
    by_cases h45 : hd s.data.toList = 45
    · obtain ⟨a, t, e, ha⟩ := hd_cons h45 (by omega)
      have HS : Hid (Says s.data.toList (-(rv 10 (s.extract 1 s.size).data.toList)) (nb 10 (s.extract 1 s.size).data.toList)) := says_neg (by rw [numI_minus _ t a hquo e ha, tail_list s a t e])
      have e45 : (s[0].toNat : Int) = 45 := by omega
      have hcall : ∀ W : World, Calls Tryz.prog 76 #[.string (s.extract 1 s.size), .int .i64 10] W fun e w' => e = .returned (.tuple #[.int .i64 (rv 10 (s.extract 1 s.size).data.toList), .bool (nb 10 (s.extract 1 s.size).data.toList)]) /\ w' = W := rdigits_any (s.extract 1 s.size) 10 (extract_le s hmax) (by omega) (by omega)
      have hrb := rv_bd 10 (s.extract 1 s.size).data.toList
      obtain ⟨hr0, hr1⟩ := hrb
      generalize rv 10 (s.extract 1 s.size).data.toList = z at *
      generalize nb 10 (s.extract 1 s.size).data.toList = ok at *
      clear e ha hq hquo hhd h45 hmax
      by_cases h3 : s.size = 3
      all_goals
        first | rw [h3] at hcall | skip
        go_enter Tryz.func60, Tryz.ntmps60
        go_wp2_with (go_at_call 76; refine (hcall _).mono ?_; rintro e w' ⟨rfl, rfl⟩)
        go_ret2
        exact ⟨_, _, rfl, HS.out, Below.refl _ _⟩
    have HS : Hid (Says s.data.toList (rv 10 s.data.toList) (nb 10 s.data.toList)) := says_pos (numI_else _ hquo h45 h36 h37)
    have hcall : ∀ W : World, Calls Tryz.prog 76 #[.string s, .int .i64 10] W fun e w' => e = .returned (.tuple #[.int .i64 (rv 10 s.data.toList), .bool (nb 10 s.data.toList)]) /\ w' = W := rdigits_any s 10 hmax (by omega) (by omega)
    rw [hhd] at h36 h37 h45
    have e36 : ¬ (s[0].toNat : Int) = 36 := by omega
    have e37 : ¬ (s[0].toNat : Int) = 37 := by omega
    have e45 : ¬ (s[0].toNat : Int) = 45 := by omega
    by_cases h3 : s.size = 3
    · have l2 : 2 < s.size := by omega
      by_cases ha : (s[0].toNat : Int) = 39
      · have hc : ¬ (s[2].toNat : Int) = 39 := fun hc => hq ⟨h3, by rw [hhd]; omega, fun _ => by omega⟩
        clear hq hquo hhd h36 h37 h45 hmax
        generalize rv 10 s.data.toList = z at *
        generalize nb 10 s.data.toList = ok at *
        go_enter Tryz.func60, Tryz.ntmps60
        go_wp2_with (go_at_call 76; refine (hcall _).mono ?_; rintro e w' ⟨rfl, rfl⟩)
        go_ret2
        exact ⟨_, _, rfl, HS.out, Below.refl _ _⟩
      · clear hq hquo hhd h36 h37 h45 hmax
        generalize rv 10 s.data.toList = z at *
        generalize nb 10 s.data.toList = ok at *
        go_enter Tryz.func60, Tryz.ntmps60
        go_wp2_with (go_at_call 76; refine (hcall _).mono ?_; rintro e w' ⟨rfl, rfl⟩)
        go_ret2
        exact ⟨_, _, rfl, HS.out, Below.refl _ _⟩
    · clear hq hquo hhd h36 h37 h45 hmax
      generalize rv 10 s.data.toList = z at *
      generalize nb 10 s.data.toList = ok at *
      go_enter Tryz.func60, Tryz.ntmps60
      go_wp2_with (go_at_call 76; refine (hcall _).mono ?_; rintro e w' ⟨rfl, rfl⟩)
      go_ret2
      exact ⟨_, _, rfl, HS.out, Below.refl _ _⟩
set_option maxHeartbeats 1000000 in
set_option maxRecDepth 100000 in
theorem rname_any (s : ByteArray) (hs : s.size <= maxLen) (w : World) :
    Calls Tryz.prog 51 #[.string s] w fun e w' => e = .returned (.bool (nameB s.data.toList)) /\ Below w.heap.size w w' := by
  have hmax := hs
  unfold maxLen at hs
  by_cases h1 : s.size < 1
  · have H : Hid (nameB s.data.toList = false) := by
      have : ¬ 1 <= s.data.toList.length := by rw [size_list]; omega
      show _ = _; unfold nameB; rw [decide_eq_false this]; rfl
    go_enter Tryz.func51, Tryz.ntmps51
    go_wp2
    go_ret
    exact ⟨ret_bool H.out.symm, Below.refl _ _⟩
  · by_cases h2 : 31 < s.size
    · have H : Hid (nameB s.data.toList = false) := by
        have : ¬ s.data.toList.length <= 31 := by rw [size_list]; omega
        show _ = _; unfold nameB; rw [decide_eq_false this]; simp
      go_enter Tryz.func51, Tryz.ntmps51
      go_wp2
      go_ret
      exact ⟨ret_bool H.out.symm, Below.refl _ _⟩
    · by_cases h3 : s.data.toList = [92]
      · have H : Hid (nameB s.data.toList = false) := by show _ = _; rw [h3]; rfl
        have e3 : (s.toList == [92]) = true := by rw [list_eq]; simpa using h3
        clear h3
        go_enter Tryz.func51, Tryz.ntmps51
        go_wp2
        go_ret
        exact ⟨ret_bool H.out.symm, Below.refl _ _⟩
      · by_cases h4 : s.data.toList = [40]
        · have H : Hid (nameB s.data.toList = false) := by show _ = _; rw [h4]; rfl
          have e3 : (s.toList == [92]) = false := by rw [list_eq]; simpa using h3
          have e4 : (s.toList == [40]) = true := by rw [list_eq]; simpa using h4
          clear h3 h4
          go_enter Tryz.func51, Tryz.ntmps51
          go_wp2
          go_ret
          exact ⟨ret_bool H.out.symm, Below.refl _ _⟩
        · have H : Hid (nameB s.data.toList = (s.data.toList.all (fun c => seen c.toNat) && decide (numI s.data.toList = none))) :=
            nameB_of _ (by rw [size_list]; omega) (by rw [size_list]; omega) h3 h4
          have e3 : (s.toList == [92]) = false := by rw [list_eq]; simpa using h3
          have e4 : (s.toList == [40]) = false := by rw [list_eq]; simpa using h4
          clear h3 h4
          go_enter Tryz.func51, Tryz.ntmps51
          go_wp2
          go_loop [3] (fun i => ∃ pos : Nat, pos <= s.size /\ i = .int .i64 pos /\ (s.data.toList.take pos).all (fun c => seen c.toNat) = true) (fun i => s.size - (intOf i).toNat)
          case atStart => exact ⟨0, Nat.zero_le _, rfl, rfl⟩
          case round =>
            obtain ⟨pos, hpos, rfl, hall⟩ := hrel
            by_cases hp : pos < s.size
            · have hts := take_snoc s pos hp
              have HA : Hid ((s.data.toList.take (pos + 1)).all (fun c => seen c.toNat) = seen s[pos].toNat) := by
                show _ = _; rw [hts, List.all_append, hall]; simp
              clear hts hall
              have i0 : (0 : Int) <= (pos : Int) := by omega
              by_cases ha : s[pos].toNat < 33
              · have H2 : Hid (nameB s.data.toList = false) := by
                  have : seen s[pos].toNat = false := by unfold seen; simp; omega
                  show _ = _; rw [H.out, all_take_false _ (pos + 1) (by rw [HA.out, this])]; rfl
                have haI : (s[pos].toNat : Int) < 33 := by omega
                go_wp2
                go_ret
                exact ⟨ret_bool H2.out.symm, Below.refl _ _⟩
              · have haI : ¬ (s[pos].toNat : Int) < 33 := by omega
                by_cases hb : 126 < s[pos].toNat
                · have H2 : Hid (nameB s.data.toList = false) := by
                    have : seen s[pos].toNat = false := by unfold seen; simp; omega
                    show _ = _; rw [H.out, all_take_false _ (pos + 1) (by rw [HA.out, this])]; rfl
                  have hbI : (126 : Int) < (s[pos].toNat : Int) := by omega
                  go_wp2
                  go_ret
                  exact ⟨ret_bool H2.out.symm, Below.refl _ _⟩
                · have hbI : ¬ (126 : Int) < (s[pos].toNat : Int) := by omega
                  have hsn : seen s[pos].toNat = true := by unfold seen; simp; omega
                  have HA2 : Hid ((s.data.toList.take (pos + 1)).all (fun c => seen c.toNat) = true) := HA.out.trans hsn
                  clear HA hsn
                  go_wp2
                  go_round
                  case rel => exact ⟨pos + 1, by omega, by go_num, HA2.out⟩
                  case measure => simp [intOf]; omega
            · have hl : s.data.toList.take pos = s.data.toList := List.take_of_length_le (by rw [size_list]; omega)
              rw [hl] at hall
              have hcall : Calls Tryz.prog 60 #[.string s] w fun e w' => ∃ z, e = .returned (.tuple #[.int .i64 z, .bool (numI s.data.toList).isSome]) /\ Below w.heap.size w w' :=
                (rnumber_any s hmax w).mono fun e w' ⟨z, ok, he, hsay, hb⟩ => ⟨z, by rw [he, hsay.1], hb⟩
              have H2 : Hid (nameB s.data.toList = !(numI s.data.toList).isSome) := by
                show _ = _; rw [H.out, hall]; cases numI s.data.toList <;> rfl
              clear hl hall H
              generalize (numI s.data.toList).isSome = ok at *
              go_wp2_with (go_at_call 60; refine hcall.mono ?_; rintro e w' ⟨z, rfl, hbn⟩)
              go_ret
              exact ⟨ret_bool (by rw [H2.out]), hbn⟩
end Go.Proofs.YtlilefhmohkfkaaGreatDoor.T
