import Derived.Test.YtokhlcioekbjdaaKPrefix
/-! Plain: words put together with something between them are scanned to the same words. -/
namespace Go.Proofs.Ytokhlcioekbjdaa.K
open Go.Proofs.Ytokhlcioekbjdaa
open Go.Proofs.Ytokhlcioekbjdaa.T (numE numC)
set_option linter.unusedVariables false

/-- A word that is a token. -/
structure Gd (w : List UInt8) : Prop where
  ne : w ≠ []
  seen : ∀ c ∈ w, T.seen c.toNat = true
  n1 : w ≠ [92]
  n2 : w ≠ [40]
  le : w.length ≤ 31
  num : numE w ≠ 21
theorem wl_seen (l : List UInt8) : ∀ c ∈ l.take (wl l), T.seen c.toNat = true := by
  induction l with
  | nil => intro c h; simp at h
  | cons x t ih =>
    unfold wl
    split
    · intro c h
      rw [List.take_succ_cons] at h
      rcases List.mem_cons.1 h with rfl | h
      · assumption
      · exact ih c h
    · intro c h; simp at h
theorem wl_word (w r : List UInt8) (hw : ∀ c ∈ w, T.seen c.toNat = true) (hr : r = [] ∨ ∃ c t, r = c :: t ∧ T.seen c.toNat = false) : wl (w ++ r) = w.length := by
  induction w with
  | nil =>
    rcases hr with rfl | ⟨c, t, rfl, hc⟩
    · rfl
    · simp [wl, hc]
  | cons x t ih =>
    have hx := hw x (List.mem_cons_self ..)
    rw [List.cons_append, wl, if_pos hx, ih (fun c h => hw c (List.mem_cons_of_mem _ h))]; rfl
theorem sc_good (l : List UInt8) : ∀ q ∈ (sc l).1, Gd (wd l q.1 q.2) := by
  obtain ⟨i, a, hA, hP, h⟩ := At.ends l (P := fun i a => ∀ q ∈ a, Gd (wd l q.1 q.2)) (by simp) (fun i j a _ h _ _ => h) (fun i j a hA h hi e => by
    have hs := sp_wo l i j hi e
    intro q hq
    rcases List.mem_append.1 hq with hq | hq
    · exact h q hq
    · simp at hq; subst hq
      refine ⟨wd_ne l i j hs.2.1 hs.1, ?_, hs.2.2.2.1, hs.2.2.2.2.1, by rw [wd_len l i j hs.2.1]; exact hs.2.2.2.2.2.1, hs.2.2.2.2.2.2⟩
      have e : wd l i j = (l.drop i).take (wl (l.drop i)) := by unfold wd; rw [hs.2.2.1]; unfold wend; rw [Nat.add_sub_cancel_left]
      show ∀ c ∈ wd l i j, _
      rw [e]; exact wl_seen _)
  rcases h with ⟨_, e⟩ | ⟨x, _, _, e⟩ <;> rw [e] <;> exact hP
theorem drop_at (p x : List UInt8) : (p ++ x).drop p.length = x := by simp
theorem wd_mid (p w r : List UInt8) : wd (p ++ (w ++ r)) p.length (p.length + w.length) = w := by
  unfold wd; rw [drop_at, Nat.add_sub_cancel_left]; simp
theorem sp_word (p w r : List UInt8) (hw : Gd w) (hr : r = [] ∨ ∃ c t, r = c :: t ∧ T.seen c.toNat = false) : sp (p ++ (w ++ r)) p.length = .ok (.inr (p.length + w.length)) := by
  have h1 : wend (p ++ (w ++ r)) p.length = p.length + w.length := by unfold wend; rw [drop_at, wl_word w r hw.seen hr]
  have h2 : 0 < w.length := List.length_pos_iff.2 hw.ne
  unfold sp
  rw [h1, if_neg (by omega)]
  unfold spW
  rw [wd_mid, if_neg hw.n1, if_neg hw.n2, if_neg (by have := hw.le; omega), if_neg hw.num]
theorem getD_at (p : List UInt8) (c : UInt8) (r : List UInt8) : (p ++ (c :: r)).getD p.length 0 = c := by
  rw [List.getD_eq_getElem?_getD, List.getElem?_append_right (Nat.le_refl _), Nat.sub_self]; rfl
theorem sp_blank (p : List UInt8) (c : UInt8) (r : List UInt8) (hc : bk c.toNat = true) (hs : T.seen c.toNat = false) : sp (p ++ (c :: r)) p.length = .ok (.inl (p.length + 1)) := by
  have h1 : wend (p ++ (c :: r)) p.length = p.length := by unfold wend; rw [drop_at]; simp [wl, hs]
  unfold sp
  rw [if_pos h1, getD_at, if_pos hc]
theorem ixb_at (c : Nat) (x r : List UInt8) (d : UInt8) (hd : d.toNat = c) (hx : ∀ b ∈ x, b.toNat ≠ c) : ixb c (x ++ (d :: r)) = some x.length := by
  induction x with
  | nil => simp [ixb, hd]
  | cons b t ih =>
    rw [List.cons_append, ixb, if_neg (hx b (List.mem_cons_self ..)), ih (fun y h => hx y (List.mem_cons_of_mem _ h))]; rfl
/-- What may stand between words: it begins with a blank, and the scan goes over it. -/
structure Sep (s : List UInt8) : Prop where
  hd : ∃ c t, s = c :: t ∧ T.seen c.toNat = false
  skip : ∀ p r a, At (p ++ (s ++ r)) p.length a → At (p ++ (s ++ r)) (p.length + s.length) a
theorem step_blank (p r : List UInt8) (c : UInt8) (a : List (Nat × Nat)) (hc : bk c.toNat = true) (hs : T.seen c.toNat = false) (h : At (p ++ (c :: r)) p.length a) : At (p ++ (c :: r)) (p.length + 1) a :=
  h.to (by simp) (sp_blank p c r hc hs)
theorem sep_one : Sep [32] := ⟨⟨32, [], rfl, by decide⟩, fun p r a h => step_blank p r 32 a (by decide) (by decide) h⟩
theorem sep_three : Sep [13, 10, 9] := by
  refine ⟨⟨13, [10, 9], rfl, by decide⟩, fun p r a h => ?_⟩
  have h1 := step_blank p (10 :: 9 :: r) 13 a (by decide) (by decide) h
  have e1 : p ++ (13 :: 10 :: 9 :: r) = (p ++ [13]) ++ (10 :: 9 :: r) := by simp
  rw [e1] at h1
  have h2 := step_blank (p ++ [13]) (9 :: r) 10 a (by decide) (by decide) (by simpa using h1)
  have e2 : (p ++ [13]) ++ (10 :: 9 :: r) = (p ++ [13, 10]) ++ (9 :: r) := by simp
  rw [e2] at h2
  have h3 := step_blank (p ++ [13, 10]) r 9 a (by decide) (by decide) (by simpa using h2)
  simpa using h3
theorem sep_comment (b c d : UInt8) (x : List UInt8) (hb : bk b.toNat = true) (hbs : T.seen b.toNat = false) (hk : (c = 92 ∧ d = 10) ∨ (c = 40 ∧ d = 41)) (hx : ∀ y ∈ x, y.toNat ≠ d.toNat) : Sep (b :: c :: 32 :: (x ++ [d])) := by
  refine ⟨⟨b, _, rfl, hbs⟩, fun p r a h => ?_⟩
  have e0 : p ++ ((b :: c :: 32 :: (x ++ [d])) ++ r) = p ++ (b :: (c :: 32 :: (x ++ (d :: r)))) := by simp
  rw [e0] at h ⊢
  have h1 := step_blank p (c :: 32 :: (x ++ (d :: r))) b a hb hbs h
  have e1 : p ++ (b :: (c :: 32 :: (x ++ (d :: r)))) = (p ++ [b]) ++ ([c] ++ (32 :: (x ++ (d :: r)))) := by simp
  have el : p.length + 1 = (p ++ [b]).length := by simp
  rw [e1, el] at h1
  have hcs : T.seen c.toNat = true := by rcases hk with ⟨rfl, _⟩ | ⟨rfl, _⟩ <;> decide
  have hw : wend ((p ++ [b]) ++ ([c] ++ (32 :: (x ++ (d :: r))))) (p ++ [b]).length = (p ++ [b]).length + 1 := by
    unfold wend; rw [drop_at, wl_word [c] _ (by intro y hy; simp at hy; subst hy; exact hcs) (.inr ⟨32, _, rfl, by decide⟩)]; rfl
  have hn : nxt d.toNat ((p ++ [b]) ++ ([c] ++ (32 :: (x ++ (d :: r))))) ((p ++ [b]).length + 1) = some ((p ++ [b]).length + 1 + (x.length + 1) + 1) := by
    have e2 : (p ++ [b]) ++ ([c] ++ (32 :: (x ++ (d :: r)))) = (p ++ [b] ++ [c]) ++ ((32 :: x) ++ (d :: r)) := by simp
    have e3 : (p ++ [b]).length + 1 = (p ++ [b] ++ [c]).length := by simp
    unfold nxt
    rw [e2, e3, drop_at, ixb_at d.toNat (32 :: x) r d rfl (by
      intro y hy
      rcases List.mem_cons.1 hy with rfl | hy
      · rcases hk with ⟨_, rfl⟩ | ⟨_, rfl⟩ <;> decide
      · exact hx y hy)]
    rfl
  have hwd : wd ((p ++ [b]) ++ ([c] ++ (32 :: (x ++ (d :: r))))) (p ++ [b]).length ((p ++ [b]).length + 1) = [c] := wd_mid (p ++ [b]) [c] _
  have hsp : sp ((p ++ [b]) ++ ([c] ++ (32 :: (x ++ (d :: r))))) (p ++ [b]).length = .ok (.inl ((p ++ [b]).length + 1 + (x.length + 1) + 1)) := by
    unfold sp; rw [hw, if_neg (by omega)]; unfold spW; rw [hwd]
    rcases hk with ⟨rfl, rfl⟩ | ⟨rfl, rfl⟩
    · rw [if_pos rfl, show (10 : Nat) = (10 : UInt8).toNat from rfl, hn]; rfl
    · rw [if_neg (by decide), if_pos rfl, show (41 : Nat) = (41 : UInt8).toNat from rfl, hn]
  have h2 := h1.to (by simp) hsp
  rw [← e1] at h2
  have e4 : (p ++ [b]).length + 1 + (x.length + 1) + 1 = p.length + (b :: c :: 32 :: (x ++ [d])).length := by simp; omega
  rw [e4] at h2; exact h2
/-- Words behind one another. -/
def Tl (s : List UInt8) : List (List UInt8) → List UInt8
  | [] => []
  | w :: ws => s ++ (w ++ Tl s ws)
def Jn (s : List UInt8) : List (List UInt8) → List UInt8
  | [] => []
  | w :: ws => w ++ Tl s ws
theorem tl_head (s : List UInt8) (hs : Sep s) (ws : List (List UInt8)) : Tl s ws = [] ∨ ∃ c t, Tl s ws = c :: t ∧ T.seen c.toNat = false := by
  cases ws with
  | nil => left; rfl
  | cons w ws => obtain ⟨c, t, rfl, h⟩ := hs.hd; right; exact ⟨c, t ++ (w ++ Tl (c :: t) ws), rfl, h⟩
theorem tl_scan (s : List UInt8) (hs : Sep s) : ∀ (ws : List (List UInt8)) (p : List UInt8) (a : List (Nat × Nat)), (∀ w ∈ ws, Gd w) → At (p ++ Tl s ws) p.length a → ∃ a', sc (p ++ Tl s ws) = (a ++ a', (p ++ Tl s ws).length, 0) ∧ a'.map (fun q => wd (p ++ Tl s ws) q.1 q.2) = ws
  | [], p, a, _, h => by
    have e : p ++ Tl s [] = p := by simp [Tl]
    rw [e] at h ⊢
    exact ⟨[], by rw [List.append_nil]; exact h.fin (Nat.le_refl _), rfl⟩
  | w :: ws, p, a, hg, h => by
    have hw := hg w (List.mem_cons_self ..)
    have e0 : p ++ Tl s (w :: ws) = p ++ (s ++ (w ++ Tl s ws)) := rfl
    rw [e0] at h ⊢
    have h1 := hs.skip p (w ++ Tl s ws) a h
    have e1 : p ++ (s ++ (w ++ Tl s ws)) = (p ++ s) ++ (w ++ Tl s ws) := by simp
    have el : p.length + s.length = (p ++ s).length := by simp
    rw [e1, el] at h1
    have hsp := sp_word (p ++ s) w (Tl s ws) hw (tl_head s hs ws)
    have hp0 : 0 < w.length := List.length_pos_iff.2 hw.ne
    have h2 := h1.wo (by simp; omega) hsp
    have e2 : (p ++ s) ++ (w ++ Tl s ws) = (p ++ s ++ w) ++ Tl s ws := by simp
    have el2 : (p ++ s).length + w.length = (p ++ s ++ w).length := by simp only [List.length_append]
    have hwd := wd_mid (p ++ s) w (Tl s ws)
    rw [e2, el2] at h2 hwd
    obtain ⟨a', h3, h4⟩ := tl_scan s hs ws (p ++ s ++ w) _ (fun x hx => hg x (List.mem_cons_of_mem _ hx)) h2
    refine ⟨((p ++ s).length, (p ++ s ++ w).length) :: a', ?_, ?_⟩
    · rw [e1, e2, h3]; simp
    · rw [e1, e2, List.map_cons, h4, hwd]
theorem jn_scan (s : List UInt8) (hs : Sep s) (ws : List (List UInt8)) (hg : ∀ w ∈ ws, Gd w) : ∃ a', sc (Jn s ws) = (a', (Jn s ws).length, 0) ∧ a'.map (fun q => wd (Jn s ws) q.1 q.2) = ws := by
  cases ws with
  | nil => exact ⟨[], rfl, rfl⟩
  | cons w ws =>
    have hw := hg w (List.mem_cons_self ..)
    have hsp := sp_word [] w (Tl s ws) hw (tl_head s hs ws)
    have hp0 : 0 < w.length := List.length_pos_iff.2 hw.ne
    have h1 := (At.start (w ++ Tl s ws)).wo (by simp; omega) hsp
    have hwd := wd_mid [] w (Tl s ws)
    simp only [List.nil_append, List.length_nil, Nat.zero_add] at h1 hwd
    obtain ⟨a', h3, h4⟩ := tl_scan s hs ws w _ (fun x hx => hg x (List.mem_cons_of_mem _ hx)) h1
    refine ⟨(0, w.length) :: a', ?_, ?_⟩
    · show sc (w ++ Tl s ws) = _; rw [h3]; rfl
    · show List.map (fun q : Nat × Nat => wd (w ++ Tl s ws) q.1 q.2) _ = _; rw [List.map_cons, h4, hwd]
theorem tl_snoc (s : List UInt8) (w : List UInt8) : ∀ ws, Tl s (ws ++ [w]) = Tl s ws ++ (s ++ w)
  | [] => by simp [Tl]
  | x :: ws => by show s ++ (x ++ Tl s (ws ++ [w])) = s ++ (x ++ Tl s ws) ++ (s ++ w); rw [tl_snoc s w ws]; simp
theorem jn_snoc (s : List UInt8) (ws : List (List UInt8)) (w : List UInt8) : Jn s (ws ++ [w]) = Jn s ws ++ ((if ws = [] then [] else s) ++ w) := by
  cases ws with
  | nil => simp [Jn, Tl]
  | cons x ws => show x ++ Tl s (ws ++ [w]) = _; rw [tl_snoc]; simp [Jn]
theorem jn_len (s : List UInt8) (ws : List (List UInt8)) (hg : ∀ w ∈ ws, w.length ≤ 31) : (Jn s ws).length ≤ ws.length * (31 + s.length) := by
  have ht : ∀ ws : List (List UInt8), (∀ w ∈ ws, w.length ≤ 31) → (Tl s ws).length ≤ ws.length * (31 + s.length) := by
    intro ws
    induction ws with
    | nil => intro _; simp [Tl]
    | cons w ws ih =>
      intro h
      have h1 := ih (fun x hx => h x (List.mem_cons_of_mem _ hx))
      have h2 := h w (List.mem_cons_self ..)
      show (s ++ (w ++ Tl s ws)).length ≤ _
      rw [List.length_append, List.length_append, List.length_cons, Nat.succ_mul]; omega
  cases ws with
  | nil => simp [Jn]
  | cons w ws =>
    have h1 := ht ws (fun x hx => hg x (List.mem_cons_of_mem _ hx))
    have h2 := hg w (List.mem_cons_self ..)
    show (w ++ Tl s ws).length ≤ _
    rw [List.length_append, List.length_cons, Nat.succ_mul]; omega
end Go.Proofs.Ytokhlcioekbjdaa.K
