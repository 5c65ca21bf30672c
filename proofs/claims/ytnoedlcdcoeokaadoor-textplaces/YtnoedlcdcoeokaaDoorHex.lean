import Derived.Test.YtnoedlcdcoeokaaDoorRowKit
import Derived.Test.YtnoedlcdcoeokaaDoorShelf
import Derived.Laws.IdiomStrings
import Derived.Laws.MathBits
/-! text.Hex, over the library's own text of formatBits at base 16. -/
namespace Go.Proofs.YtnoedlcdcoeokaaDoor
open Go.RowKit Go.Shelf Go.Sort
set_option linter.unusedVariables false

def brow (f : Nat → Int) (n : Nat) : Array Value := ((List.range n).map fun j => Value.int .u8 (f j)).toArray
theorem brow_size (f : Nat → Int) (n : Nat) : (brow f n).size = n := by simp [brow]
theorem brow_get (f : Nat → Int) (n j : Nat) (h : j < n) : (brow f n)[j]? = some (.int .u8 (f j)) := by simp [brow, h]
theorem brow_set (f : Nat → Int) (n k : Nat) (v : Int) : (brow f n).setIfInBounds k (.int .u8 v) = brow (upd f k v) n := by
  apply Array.ext_getElem?
  intro j
  by_cases hj : j < n
  · rw [brow_get _ _ _ hj, Array.getElem?_setIfInBounds]
    by_cases e : k = j
    · subst e; simp [brow_size, hj, upd]
    · rw [if_neg e, brow_get _ _ _ hj]; simp [upd, Ne.symm e]
  · rw [Array.getElem?_eq_none (by simp [brow_size]; omega), Array.getElem?_eq_none (by simp [brow_size]; omega)]
def BRow (w : World) (b : Nat) (t : TypeId) (f : Nat → Int) (n : Nat) : Prop := w.heap[b]? = some (.cells (brow f n) t (0, 0))
theorem BRow.lt {w : World} {b : Nat} {t : TypeId} {f : Nat → Int} {n : Nat} (h : BRow w b t f n) : b < w.heap.size := (Array.getElem?_eq_some_iff.1 h).1
theorem BRow.cell {w : World} {b : Nat} {t : TypeId} {f : Nat → Int} {n : Nat} (h : BRow w b t f n) (j : Nat) (hj : j < n) : w.cell? ⟨b, j, none⟩ = some (.int .u8 (f j)) := by
  rw [cell_of_row w b j _ t _ h, brow_get _ _ _ hj]
theorem BRow.frozen {w : World} {b : Nat} {t : TypeId} {f : Nat → Int} {n : Nat} (h : BRow w b t f n) (j : Nat) : w.frozen? ⟨b, j, none⟩ = false := frozen_of_row w b j _ t h
theorem BRow.store {w : World} {b : Nat} {t : TypeId} {f : Nat → Int} {n : Nat} (h : BRow w b t f n) (k : Nat) (v : Int) : BRow (w.setCell ⟨b, k, none⟩ (.int .u8 v)) b t (upd f k v) n := by
  unfold BRow; rw [heap_setCell_same w b k _ t _ h, brow_set]

/-- The table of math/bits that TrailingZeros reads. -/
def TabA (w : World) : Prop := TabAt (Tryd.lays27_ren.g 1) Lib.deBruijn64tab w
theorem tz16 (w : World) (hT : TabA w) : Calls Tryd.prog 76 #[.int .u64 16] w fun e w' => e = .returned (.int .i64 4) ∧ w' = w := by
  have h := Any7.bits_TrailingZeros Tryd.lays27 16 (by decide) w (fun _ => hT)
  exact h

theorem pow16 (w : World) : Calls Tryd.prog 75 #[.int .i64 16] w fun e w' => e = .returned (.bool true) ∧ w' = w := by
  go_enter Tryd.func75, Tryd.ntmps75
  go_wp2
  go_ret
  exact ⟨by kernel_rfl, rfl⟩
theorem zero107 : Tryd.zeroCells107 = brow (fun _ => 0) 65 := by kernel_rfl

def hexd (d : Nat) : UInt8 := if d < 10 then UInt8.ofNat (48 + d) else UInt8.ofNat (87 + d)

theorem dig_lit (d : Nat) (h : d < 36) (h16 : d < 16) : ((⟨#[48, 49, 50, 51, 52, 53, 54, 55, 56, 57, 97, 98, 99, 100, 101, 102, 103, 104, 105, 106, 107, 108, 109, 110, 111, 112, 113, 114, 115, 116, 117, 118, 119, 120, 121, 122]⟩ : ByteArray)[d]'h) = hexd d := by
  have key : ∀ e : Fin 16, ((⟨#[48, 49, 50, 51, 52, 53, 54, 55, 56, 57, 97, 98, 99, 100, 101, 102, 103, 104, 105, 106, 107, 108, 109, 110, 111, 112, 113, 114, 115, 116, 117, 118, 119, 120, 121, 122]⟩ : ByteArray)[e.val]'(Nat.lt_trans e.isLt (by decide))) = hexd e.val := by decide
  exact key ⟨d, h16⟩
theorem and15 (u : Nat) (h : u < 65536) : bits BinOp.and IntKind.u64 (u : Int) 15 = ((u % 16 : Nat) : Int) := by
  have h0 : (0 : Int) ≤ u := by omega
  have h1 : (u : Int) < 18446744073709551616 := by omega
  have e : ((u % 16 : Nat) : Int) = (u : Int) % 16 := by omega
  rw [e]
  generalize (u : Int) = z at *
  go_bits2
/-- The digits of x from the k-th on. -/
def hexL (k x : Nat) : List UInt8 := (List.range (k + 1)).map fun j => hexd (x / 16 ^ (k - j) % 16)

set_option maxHeartbeats 1000000 in
set_option maxRecDepth 100000 in
theorem formatBits_16 (x : Nat) (hx : x < 65536) (w : World) (hT : ∀ o, TabA (w.alloc o)) :
    Calls Tryd.prog 56 #[.slice none 0 0, .int .u64 x, .int .i64 16, .bool false, .bool false] w fun e w' => ∃ k, k ≤ 3 ∧ x / 16 ^ k < 16 ∧ e = .returned (.tuple #[.slice none 0 0, .string ⟨(hexL k x).toArray⟩]) ∧ Below w.heap.size w w' := by
  go_enter Tryd.func56, Tryd.ntmps56
  go_wp2_with (first | (go_at_call 76; refine (tz16 _ (hT _)).mono ?_; rintro e w' ⟨rfl, rfl⟩) | (go_at_call 75; refine (pow16 _).mono ?_; rintro e w' ⟨rfl, rfl⟩))
  go_loopw [1, 13] (fun u i wr => ∃ k q : Nat, k ≤ 3 ∧ q + k = 64 ∧ u = .int .u64 ((x / 16 ^ k : Nat) : Int) ∧ i = .int .i64 ((q + 1 : Nat) : Int) ∧ Below w.heap.size w wr ∧ ∃ g, BRow wr w.heap.size 107 g 65 ∧ ∀ t, t < k → g (64 - t) = ((hexd (x / 16 ^ t % 16)).toNat : Int)) (fun u _ _ => (intOf u).toNat)
  case atStart =>
    refine ⟨0, 64, by omega, by omega, by simp, rfl, (Below.refl _ _).alloc (Nat.le_refl _) _, fun _ => 0, ?_, fun t h => by omega⟩
    rw [zero107]; exact heap_alloc_new w _
  case round =>
    clear hT
    obtain ⟨k, q, hk, hq, rfl, rfl, hb, g, hr, hg⟩ := hrel
    have hdiv : x / 16 ^ (k + 1) = x / 16 ^ k / 16 := by rw [Nat.pow_succ, Nat.div_div_eq_div_mul]
    have hu2 : x / 16 ^ k < 65536 := Nat.lt_of_le_of_lt (Nat.div_le_self _ _) hx
    have hk3 : 16 ≤ x / 16 ^ k → k < 3 := by
      intro h
      rcases Nat.lt_or_ge k 3 with h' | h'
      · exact h'
      · obtain rfl : k = 3 := by omega
        simp at h; omega
    have HG : Hid (∀ t, t < k → g (64 - t) = ((hexd (x / 16 ^ t % 16)).toNat : Int)) := hg
    have HU : Hid (∀ t, t = k → x / 16 ^ t = x / 16 ^ k) := fun t h => by rw [h]
    clear hg
    generalize x / 16 ^ k = u at *
    by_cases hlt : 16 ≤ u
    · have hk3 := hk3 hlt
      have hand := and15 u hu2
      have hd16 : u % 16 < 16 := Nat.mod_lt _ (by omega)
      have HD : Hid (∀ d, d = u % 16 → ((u / 16 : Nat) : Int) = (u : Int) / 16) := fun d _ => by omega
      obtain ⟨d, hd⟩ : ∃ d, d = u % 16 := ⟨_, rfl⟩
      have Hd : Hid (d = u % 16) := hd
      rw [← hd] at hand hd16
      have hdig := dig_lit d (by omega) hd16
      have z := hr.frozen q
      have c := hr.cell q (by omega)
      have hr2 := hr.store q ((hexd d).toNat : Int)
      have hb2 := hb.setCell (p := ⟨w.heap.size, q, none⟩) (Nat.le_refl _) (.int .u8 ((hexd d).toNat : Int))
      have Hdv : Hid (x / 16 ^ (k + 1) = u / 16) := hdiv
      clear hd hdiv
      have hq1 : 1 ≤ q := by omega
      obtain ⟨q', rfl⟩ : ∃ q', q = q' + 1 := ⟨q - 1, by omega⟩
      go_wp2
      go_roundw
      case rel =>
        refine ⟨k + 1, q', by omega, by omega, by rw [Hdv.out]; congr 1, by go_num, hb2, _, hr2, ?_⟩
        intro t ht
        unfold upd
        by_cases e : t = k
        · have e2 : 64 - t = q' + 1 := by omega
          rw [if_pos e2, HU.out t e, Hd.out]
        · rw [if_neg (by omega)]
          exact HG.out t (by omega)
      case measure => simp [intOf]; omega
    · have hu16 : u < 16 := by omega
      have hdig := dig_lit u (by omega) hu16
      have z := hr.frozen q
      have c := hr.cell q (by omega)
      have hr2 := hr.store q ((hexd u).toNat : Int)
      have hb2 := hb.setCell (p := ⟨w.heap.size, q, none⟩) (Nat.le_refl _) (.int .u8 ((hexd u).toNat : Int))
      have hlen : (hexL k x).length = 65 - q := by simp [hexL]; omega
      have hcv : (convert 36 9 (.slice (some ⟨w.heap.size, q, none⟩) (65 - q) (65 - q))).run Tryd.prog (wr.setCell ⟨w.heap.size, q, none⟩ (.int .u8 ((hexd u).toNat : Int))) = .ok (.string ⟨(hexL k x).toArray⟩) (wr.setCell ⟨w.heap.size, q, none⟩ (.int .u8 ((hexd u).toNat : Int))) := by
        have h := run_convert_bytes_back (P := Tryd.prog) (wr.setCell ⟨w.heap.size, q, none⟩ (.int .u8 ((hexd u).toNat : Int))) 36 9 5 ⟨w.heap.size, q, none⟩ (65 - q) (hexL k x) Tryd.underlying36 Tryd.underlying5 Tryd.underlying9 (fun j hj => by
          have hjk : j < k + 1 := by simpa [hexL] using hj
          have hc2 := hr2.cell (q + j) (by omega)
          have ha : (⟨w.heap.size, q, none⟩ : Addr).add j = ⟨w.heap.size, q + j, none⟩ := by unfold Addr.add; split <;> simp_all
          rw [ha, hc2]
          have hv : (hexL k x)[j] = hexd (x / 16 ^ (k - j) % 16) := by simp [hexL]
          rw [hv]
          unfold upd
          by_cases e : j = 0
          · subst e; rw [if_pos (by omega), Nat.sub_zero, HU.out k rfl, Nat.mod_eq_of_lt hu16]
          · rw [if_neg (by omega)]
            have := HG.out (k - j) (by omega)
            rw [← this]; congr 3; omega)
        rw [hlen] at h
        exact h
      have HK : Hid (x / 16 ^ k < 16) := by have := HU.out k rfl; show _ < _; omega
      have hsl : ∀ W, (Instr.sliceAt 107 (.pointer (some ⟨w.heap.size, 0, none⟩)) (some (.int .i64 (q : Int))) none none).run Tryd.prog W = .ok (.slice (some ⟨w.heap.size, q, none⟩) (65 - q) (65 - q)) W := fun W => by
        have hal : Tryd.prog.arrayLen 107 = 65 := by kernel_rfl
        have hel : Tryd.prog.elem 107 = 5 := by kernel_rfl
        rw [run_sliceAt_array_l W 107 ⟨w.heap.size, 0, none⟩ (by rw [hal, hel]; exact Tryd.underlying107) .i64 (q : Int) (by omega) (by rw [hal]; omega), hal, hel, Tryd.sizeOf5]
        have : ¬ 65 = q := by omega
        simp [slicedAt, this, Addr.add]; omega
      clear hlen hdiv hk3
      go_wp2
      go_ret2
      exact ⟨k, hk, HK.out, rfl, hb2⟩

theorem TabA.kept {w w' : World} (h : TabA w) (e : ∀ a : Addr, ∀ v, w.cell? a = some v → w'.cell? a = some v) : TabA w' := fun j hj => e _ _ (h j hj)
theorem TabA.alloc {w : World} (h : TabA w) (o : Obj) : TabA (w.alloc o) := h.kept fun a v hv => by
  have hl := World.block_lt_of_cell? w a hv
  rw [World.cell?_of_block (w := w) (Below.heap_alloc w o a.block hl)]; exact hv
theorem TabA.below {w w' : World} (h : TabA w) (b : Below w.heap.size w w') : TabA w' := h.kept fun a v hv => by
  rw [b.cell (World.block_lt_of_cell? w a hv)]; exact hv

theorem formatUint_in (x : Nat) (hx : x < 65536) (w : World) (hT : TabA w) :
    Calls Tryd.prog 40 #[.int .u64 x, .int .i64 16] w fun e w' => ∃ k, k ≤ 3 ∧ x / 16 ^ k < 16 ∧ e = .returned (.string ⟨(hexL k x).toArray⟩) ∧ Below w.heap.size w w' := by
  go_enter Tryd.func40, Tryd.ntmps40
  go_wp2_with (go_at_call 56; refine (formatBits_16 x hx _ (fun o => hT.alloc o)).mono ?_; rintro e w' ⟨k, hk, hk2, rfl, hb⟩)
  go_ret
  exact ⟨k, hk, hk2, rfl, hb⟩
theorem formatUint_16 (x : Nat) (hx : x < 65536) (w : World) (hT : TabA w) :
    Calls Tryd.prog 29 #[.int .u64 x, .int .i64 16] w fun e w' => ∃ k, k ≤ 3 ∧ x / 16 ^ k < 16 ∧ e = .returned (.string ⟨(hexL k x).toArray⟩) ∧ Below w.heap.size w w' := by
  go_enter Tryd.func29, Tryd.ntmps29
  go_wp2_with (go_at_call 40; refine (formatUint_in x hx _ hT).mono ?_; rintro e w' ⟨k, hk, hk2, rfl, hb⟩)
  go_ret
  exact ⟨k, hk, hk2, rfl, hb⟩

/-- 2.3: four digits behind a dollar. -/
def hex5 (x : Nat) : List UInt8 := [36, hexd (x / 4096 % 16), hexd (x / 256 % 16), hexd (x / 16 % 16), hexd (x % 16)]
theorem hex_join (x k : Nat) (hx : x < 65536) (hk : k ≤ 3) (hk2 : x / 16 ^ k < 16) :
    (⟨#[36]⟩ : ByteArray) ++ (⟨(Lib.repeatL [48] (3 - k)).toArray⟩ : ByteArray) ++ (⟨(hexL k x).toArray⟩ : ByteArray) = ⟨(hex5 x).toArray⟩ := by
  apply ByteArray.ext
  apply Array.toList_inj.1
  simp only [ByteArray.data_append, Array.toList_append]
  have e0 : hexd 0 = 48 := rfl
  match k, hk with
  | 0, _ =>
    have h1 : x / 16 = 0 := by simp at hk2; omega
    have h2 : x / 256 = 0 := by simp at hk2; omega
    have h3 : x / 4096 = 0 := by simp at hk2; omega
    simp [hexL, hex5, Lib.repeatL, List.range, List.range.loop, h1, h2, h3, e0]
  | 1, _ =>
    have h2 : x / 256 = 0 := by simp at hk2; omega
    have h3 : x / 4096 = 0 := by simp at hk2; omega
    simp [hexL, hex5, Lib.repeatL, List.range, List.range.loop, h2, h3, e0]
  | 2, _ =>
    have h3 : x / 4096 = 0 := by simp at hk2; omega
    simp [hexL, hex5, Lib.repeatL, List.range, List.range.loop, h3, e0]
  | 3, _ =>
    simp [hexL, hex5, Lib.repeatL, List.range, List.range.loop]
theorem hexL_size (k x : Nat) : (⟨(hexL k x).toArray⟩ : ByteArray).size = k + 1 := by
  show (hexL k x).toArray.size = _; simp [hexL]

theorem rep_any (k : Nat) (hk : k ≤ 3) (w : World) :
    Calls Tryd.prog 30 #[.string ⟨#[48]⟩, .int .i64 (4 - ((k : Int) + 1))] w fun e w' => e = .returned (.string ⟨(Lib.repeatL [48] (3 - k)).toArray⟩) ∧ Below w.heap.size w w' := by
  have e : (4 - ((k : Int) + 1)) = ((3 - k : Nat) : Int) := by omega
  rw [e]
  exact Tryd.strings_Repeat ⟨#[48]⟩ (3 - k) w (by omega) (by show 1 * (3 - k) ≤ _; omega)
theorem ret_str {a b : ByteArray} (h : a = b) : Ending.returned (.string a) = .returned (.string b) := by rw [h]
theorem hex_any (x : Nat) (hx : x < 65536) (w : World) (hT : TabA w) :
    Calls Tryd.prog 14 #[.int .u16 x] w fun e w' => e = .returned (.string ⟨(hex5 x).toArray⟩) ∧ Below w.heap.size w w' := by
  have h29 : ∀ W, TabA W → Calls Tryd.prog 29 #[.int .u64 x, .int .i64 16] W fun e w' => ∃ (k : Nat) (D : ByteArray), k ≤ 3 ∧ D.size = k + 1 ∧ Hid (x / 16 ^ k < 16 ∧ D = ⟨(hexL k x).toArray⟩) ∧ e = .returned (.string D) ∧ Below W.heap.size W w' :=
    fun W hW => (formatUint_16 x hx W hW).mono fun e w' ⟨k, hk, hk2, he, hb⟩ => ⟨k, _, hk, hexL_size k x, ⟨hk2, rfl⟩, he, hb⟩
  have h30 : ∀ (k : Nat) W, k ≤ 3 → Calls Tryd.prog 30 #[.string ⟨#[48]⟩, .int .i64 (4 - ((k : Int) + 1))] W fun e w' => ∃ R : ByteArray, R.size = 3 - k ∧ Hid (R = ⟨(Lib.repeatL [48] (3 - k)).toArray⟩) ∧ e = .returned (.string R) ∧ Below W.heap.size W w' :=
    fun k W hk => (rep_any k hk W).mono fun e w' ⟨he, hb⟩ => ⟨_, by show (Lib.repeatL [48] (3 - k)).toArray.size = _; simp [Lib.repeatL_length], rfl, he, hb⟩
  have hjoin := fun k => hex_join x k hx
  go_enter Tryd.func14, Tryd.ntmps14
  go_wp2_with (first | (go_at_call 29; refine (h29 _ hT).mono ?_; rintro e w1 ⟨k, D, hk, hD, HD, rfl, hb⟩) | (go_at_call 30; refine (h30 k _ hk).mono ?_; rintro e w2 ⟨R, hR, HR, rfl, hb2⟩))
  go_ret
  refine ⟨ret_str ?_, hb.trans (hb2.mono hb.size)⟩
  rw [HD.out.2, HR.out]
  exact hjoin k hk HD.out.1

/-! ### Decimal -/
def pow10Name : String := Rows.textNamesRow.named.headD ""
/-- The tables that the library reads. -/
structure Tabs (w : World) : Prop where
  p10 : Lib.TabIs Tryd.prog w pow10Name .u64 Lib.pow10Tab
  bru : TabA w
theorem decimal_any (x : Nat) (hx : x < 65536) (w : World) (hT : Tabs w) :
    Calls Tryd.prog 13 #[.int .u16 x] w fun e w' => e = .returned (.string ⟨(Lib.decDigits x).toArray⟩) ∧ Below w.heap.size w w' := by
  have hi : Lib.itoa (x : Int) = Lib.decDigits x := by unfold Lib.itoa; rw [if_neg (by omega)]; simp
  have hc := Any.strconv_Itoa Tryd.laysM171 (x : Int) (by omega) (by omega) w hT.p10
  change Calls Tryd.prog 28 _ _ _ at hc
  rw [hi] at hc
  clear hi
  go_enter Tryd.func13, Tryd.ntmps13
  go_wp2_with (go_at_call 28; refine hc.mono ?_; rintro e w1 ⟨rfl, k, os, rfl⟩)
  go_ret
  refine ⟨rfl, rfl, rfl, rfl, ?_, fun i hi => ?_⟩
  · simp [World.drewN]
  · rw [heap_grow_old _ _ (by simpa [World.drewN] using hi)]; rfl
end Go.Proofs.YtnoedlcdcoeokaaDoor
