/-
  What empty lines, remarks and blanks at ends change in the rows of a text: numbers of lines. No call.
-/
import Derived.Test.YtmenbgdkokegaaaDoorRefCut
namespace Go.Proofs.YtmenbgdkokegaaaDoor

/-! ### texts with something of ASCII behind -/
theorem contOK_app (m : List UInt8) (hm : ∀ b ∈ m, b.toNat < 128) : ∀ (n : Nat) (l : List UInt8) (lo hi : Nat), 128 ≤ lo → contOK (l ++ m) n lo hi = contOK l n lo hi
  | 0, l, lo, hi, _ => by cases l <;> cases m <;> simp [contOK]
  | n + 1, [], lo, hi, h => by
    rcases m with _ | ⟨b, m⟩
    · rfl
    · have := hm b (by simp)
      show (decide (lo ≤ b.toNat ∧ b.toNat ≤ hi) && contOK m n 128 191) = false
      rw [decide_eq_false (by omega)]; rfl
  | n + 1, a :: l, lo, hi, h => by
    show (decide (lo ≤ a.toNat ∧ a.toNat ≤ hi) && contOK (l ++ m) n 128 191) = (decide (lo ≤ a.toNat ∧ a.toNat ≤ hi) && contOK l n 128 191)
    rw [contOK_app m hm n l 128 191 (Nat.le_refl _)]
theorem contOK_len : ∀ (n : Nat) (l : List UInt8) (lo hi : Nat), contOK l n lo hi = true → n ≤ l.length
  | 0, _, _, _, _ => Nat.zero_le _
  | n + 1, [], lo, hi, h => by cases h
  | n + 1, a :: l, lo, hi, h => by
    have h2 : (decide (lo ≤ a.toNat ∧ a.toNat ≤ hi) && contOK l n 128 191) = true := h
    rw [Bool.and_eq_true] at h2
    have := contOK_len n l 128 191 h2.2
    simp; omega
theorem lead_kinds : ∀ c : Nat, c < 256 → 128 ≤ c → Lib.firstT c = 241 ∨ ((Lib.firstT c % 8 = 1 + 1 ∨ Lib.firstT c % 8 = 2 + 1 ∨ Lib.firstT c % 8 = 3 + 1) ∧ 128 ≤ Lib.accLo (Lib.firstT c / 16)) := by decide +kernel
theorem valid_app (m : List UInt8) (hm : ∀ b ∈ m, b.toNat < 128) : ∀ (k : Nat) (l : List UInt8), l.length ≤ k → Lib.validD (l ++ m) = Lib.validD l
  | _, [], _ => by
    rw [List.nil_append, Lib.validD_ascii m.length m (fun b hb => hm b (List.mem_of_mem_take hb)), List.drop_length]
  | 0, c :: l, h => by simp at h
  | k + 1, c :: l, h => by
    rw [List.cons_append]
    by_cases hc : c.toNat < 128
    · rw [Lib.validD_cons _ _ hc, Lib.validD_cons _ _ hc]
      exact valid_app m hm k l (by simpa using h)
    · have hk := lead_kinds c.toNat c.toNat_lt (by omega)
      rcases hk with h1 | ⟨h1, h2⟩
      · rw [valid_bad _ _ (by omega) h1, valid_bad _ _ (by omega) h1]
      · obtain ⟨n, hn, h1⟩ : ∃ n, (n = 1 ∨ n = 2 ∨ n = 3) ∧ Lib.firstT c.toNat % 8 = n + 1 := by
          rcases h1 with h1 | h1 | h1
          · exact ⟨1, .inl rfl, h1⟩
          · exact ⟨2, .inr (.inl rfl), h1⟩
          · exact ⟨3, .inr (.inr rfl), h1⟩
        rw [valid_lead c (l ++ m) n _ _ (by omega) hn h1 rfl rfl, valid_lead c l n _ _ (by omega) hn h1 rfl rfl, contOK_app m hm n l _ _ h2]
        cases hx : contOK l n (Lib.accLo (Lib.firstT c.toNat / 16)) (Lib.accHi (Lib.firstT c.toNat / 16)) with
        | false => rfl
        | true =>
          have hl := contOK_len _ _ _ _ hx
          rw [List.drop_append_of_le_length hl, valid_app m hm k (l.drop n) (by simp at h ⊢; omega)]
theorem lowB_app (l m : List UInt8) : lowB (l ++ m) = (lowB l || lowB m) := by simp [lowB]
theorem bad_app (l m : List UInt8) (hm : ∀ b ∈ m, b.toNat < 128) (hl : lowB m = false) : badL V (l ++ m) = badL V l := by
  unfold badL
  rw [lowB_app, hl, Bool.or_false, show V (l ++ m) = V l from valid_app m hm l.length l (Nat.le_refl _)]
/-! ### the remark -/
/-- Nothing in it parts lines, begins a remark or a quoted part. -/
def okL (l : List UInt8) : Prop := ∀ c ∈ l, c ≠ 10 ∧ c ≠ 35 ∧ c ≠ 34
def endB (b : Bool) : List UInt8 → Bool
  | [] => b
  | c :: r => endB (c == 32) r
theorem remA_app (t : List UInt8) : ∀ (l : List UInt8) (b : Bool), okL l → remA false false b (l ++ t) = (remA false false (endB b l) t).map (· + l.length)
  | [], b, _ => by simp [endB]
  | c :: r, b, h => by
    obtain ⟨_, h2, h3⟩ := h c (by simp)
    have ih := remA_app t r (c == 32) (fun d hd => h d (by simp [hd]))
    have e : remA false false b (c :: (r ++ t)) = (remA false false (c == 32) (r ++ t)).map (· + 1) := by
      rw [remA, if_neg (by simp)]
      by_cases hc : c = 92
      · rw [if_pos hc]
      · rw [if_neg hc, if_neg h3, if_neg (by simp [h2])]
    rw [List.cons_append, e, ih, endB]
    cases remA false false (endB (c == 32) r) t with
    | none => rfl
    | some k => simp; omega
theorem rem_app (l t : List UInt8) (m : Nat) (h : okL l) (ht : ∀ b, remA false false b t = some m) : rem (l ++ t) = some (l.length + m) := by
  unfold rem
  rw [remA_app t l true h, ht]
  simp; omega
theorem rem_ok (l : List UInt8) (h : okL l) : rem l = some l.length := by
  have := rem_app l [] 0 h (fun b => rfl)
  simpa using this
/-! ### a line -/
abbrev Pr := Nat × Bool × List UInt8
def strip (r : Rw) : Pr := (r.indent, r.dash, r.text)
theorem rowsS_strip (n : Nat) : ∀ (l : List UInt8) (a : Nat), (rowsS n a l).map strip = (rowsS 0 a l).map strip
  | [], a => rfl
  | c :: r, a => by
    rw [rowsS, rowsS]
    split
    · exact rowsS_strip n r (a + 1)
    · split
      · rw [List.map_cons, List.map_cons, rowsS_strip n r (a + 1)]; rfl
      · rfl
def lineC (l : List UInt8) : Int := if badL V l = true then 10 else match rem l with
  | none => 11
  | some _ => 0
def lineR (l : List UInt8) : List Pr := match rem l with
  | none => []
  | some k => (rowsS 0 0 (Lib.trimRightB (l.take k) 32)).map strip
def cutP : List (List UInt8) → List Pr → List Pr × Int
  | [], acc => (acc, 0)
  | l :: ls, acc => if lineC l = 0 then cutP ls (acc ++ lineR l) else ([], lineC l)
theorem cutA_P : ∀ (ls : List (List UInt8)) (n : Nat) (acc : List Rw), ((cutA V n ls acc).1.map strip, (cutA V n ls acc).2.2) = cutP ls (acc.map strip)
  | [], n, acc => rfl
  | l :: ls, n, acc => by
    rw [cutP]
    by_cases hb : badL V l = true
    · have e : lineC l = 10 := by rw [lineC, if_pos hb]
      rw [cutA_bad V hb, e, if_neg (by decide)]; rfl
    · cases hr : rem l with
      | none =>
        have e : lineC l = 11 := by rw [lineC, if_neg hb, hr]
        rw [cutA_end V (by simpa using hb) hr, e, if_neg (by decide)]; rfl
      | some k =>
        have e : lineC l = 0 := by rw [lineC, if_neg hb, hr]
        rw [cutA_step V (by simpa using hb) hr, e, if_pos rfl, cutA_P ls (n + 1) _, List.map_append, rowsS_strip]
        congr 2
        rw [lineR, hr]
theorem trimR_app (l : List UInt8) : ∀ m : Nat, Lib.trimRightB (l ++ List.replicate m 32) 32 = Lib.trimRightB l 32
  | 0 => by simp
  | m + 1 => by
    rw [List.replicate_succ', ← List.append_assoc, trimR_snoc, trimR_app l m]
theorem line_app (l t : List UInt8) (m : Nat) (h : okL l) (ht : ∀ b, remA false false b t = some m) (htk : t.take m = List.replicate m 32) (ha : ∀ b ∈ t, b.toNat < 128) (hl : lowB t = false) : lineC (l ++ t) = lineC l ∧ lineR (l ++ t) = lineR l := by
  have h1 := rem_app l t m h ht
  have h2 := rem_ok l h
  have h3 := bad_app l t ha hl
  constructor
  · rw [lineC, lineC, h1, h2, h3]
  · rw [lineR, lineR, h1, h2]
    dsimp only
    rw [List.take_length_add_append, htk, trimR_app, List.take_length]
/-! ### pads -/
def padB : Nat → List UInt8
  | 1 => [32]
  | 2 => [32, 35, 32, 120]
  | 3 => [10]
  | 4 => [10, 32, 32, 35, 32, 34]
  | 5 => [32, 32, 32]
  | _ => []
def padLines (s : List UInt8) : Nat → List (List UInt8)
  | 1 => [s ++ [32]]
  | 2 => [s ++ [32, 35, 32, 120]]
  | 3 => [s, []]
  | 4 => [s, [32, 32, 35, 32, 34]]
  | 5 => [s ++ [32, 32, 32]]
  | _ => [s]
theorem no10 {l : List UInt8} (h : okL l) : ∀ c ∈ l, c ≠ 10 := fun c hc => (h c hc).1
theorem lns_pad (s r : List UInt8) (j : Nat) (h : okL s) : lnsA [] (s ++ padB j ++ [10] ++ r) = padLines s j ++ lnsA [] r := by
  have app : ∀ t : List UInt8, (∀ c ∈ t, c ≠ 10) → lnsA [] (s ++ t ++ [10] ++ r) = (s ++ t) :: lnsA [] r := fun t ht => by
    have := lnsA_cut (s ++ t) r [] (fun c hc => by
      rcases List.mem_append.1 hc with h1 | h1
      · exact no10 h c h1
      · exact ht c h1)
    simpa using this
  have two : ∀ t : List UInt8, (∀ c ∈ t, c ≠ 10) → lnsA [] (s ++ (10 :: t) ++ [10] ++ r) = s :: t :: lnsA [] r := fun t ht => by
    have h1 := lnsA_cut s (t ++ 10 :: r) [] (no10 h)
    have h2 := lnsA_cut t r [] ht
    simp only [List.nil_append] at h1 h2
    rw [h2] at h1
    simpa using h1
  match j with
  | 0 => simpa [padB, padLines] using app [] (by simp)
  | 1 => exact app [32] (by decide)
  | 2 => exact app [32, 35, 32, 120] (by decide)
  | 3 => exact two [] (by simp)
  | 4 => exact two [32, 32, 35, 32, 34] (by decide)
  | 5 => exact app [32, 32, 32] (by decide)
  | _ + 6 => simpa [padB, padLines] using app [] (by simp)
def expL (f : Nat → Nat) : Nat → List (List UInt8) → List (List UInt8)
  | _, [] => []
  | i, s :: r => padLines s (f i) ++ expL f (i + 1) r
def flA (L : List (List UInt8)) : List UInt8 := L.flatMap fun s => s ++ [10]
def flB (f : Nat → Nat) : Nat → List (List UInt8) → List UInt8
  | _, [] => []
  | i, s :: r => s ++ padB (f i) ++ [10] ++ flB f (i + 1) r
theorem lns_flA : ∀ L : List (List UInt8), (∀ l ∈ L, okL l) → lnsA [] (flA L) = L ++ [[]]
  | [], _ => rfl
  | s :: r, h => by
    have h1 := lns_pad s (flA r) 0 (h s (by simp))
    have h2 := lns_flA r (fun l hl => h l (by simp [hl]))
    rw [h2] at h1
    simpa [flA, padB, padLines] using h1
theorem lns_flB (f : Nat → Nat) : ∀ (L : List (List UInt8)) (i : Nat), (∀ l ∈ L, okL l) → lnsA [] (flB f i L) = expL f i L ++ [[]]
  | [], i, _ => rfl
  | s :: r, i, h => by
    rw [flB, lns_pad s _ (f i) (h s (by simp)), lns_flB f r (i + 1) (fun l hl => h l (by simp [hl])), expL, List.append_assoc]
theorem line_nil : lineC [] = 0 ∧ lineR [] = [] := ⟨by kernel_rfl, by kernel_rfl⟩
theorem line_rem : lineC [32, 32, 35, 32, 34] = 0 ∧ lineR [32, 32, 35, 32, 34] = [] := ⟨by kernel_rfl, by kernel_rfl⟩
theorem cutP_one (l l2 : List UInt8) (ls ls2 : List (List UInt8)) (h : lineC l2 = lineC l ∧ lineR l2 = lineR l) (hr : ∀ acc, cutP ls2 acc = cutP ls acc) (acc : List Pr) : cutP (l2 :: ls2) acc = cutP (l :: ls) acc := by
  rw [cutP, cutP, h.1, h.2, hr]
theorem cutP_skip (l : List UInt8) (ls : List (List UInt8)) (h : lineC l = 0 ∧ lineR l = []) (acc : List Pr) : cutP (l :: ls) acc = cutP ls acc := by
  rw [cutP, h.1, h.2, if_pos rfl, List.append_nil]
theorem cutP_pad (s : List UInt8) (j : Nat) (ls ls2 : List (List UInt8)) (h : okL s) (hr : ∀ acc, cutP ls2 acc = cutP ls acc) (acc : List Pr) : cutP (padLines s j ++ ls2) acc = cutP (s :: ls) acc := by
  match j with
  | 0 => exact cutP_one s s ls ls2 ⟨rfl, rfl⟩ hr acc
  | 1 => exact cutP_one s _ ls ls2 (line_app s [32] 1 h (fun b => by cases b <;> rfl) rfl (by decide) (by decide)) hr acc
  | 2 => exact cutP_one s _ ls ls2 (line_app s [32, 35, 32, 120] 1 h (fun b => by cases b <;> rfl) rfl (by decide) (by decide)) hr acc
  | 3 => exact cutP_one s s ls ([] :: ls2) ⟨rfl, rfl⟩ (fun acc => (cutP_skip _ _ line_nil acc).trans (hr acc)) acc
  | 4 => exact cutP_one s s ls ([32, 32, 35, 32, 34] :: ls2) ⟨rfl, rfl⟩ (fun acc => (cutP_skip _ _ line_rem acc).trans (hr acc)) acc
  | 5 => exact cutP_one s _ ls ls2 (line_app s [32, 32, 32] 3 h (fun b => by cases b <;> rfl) rfl (by decide) (by decide)) hr acc
  | _ + 6 => exact cutP_one s s ls ls2 ⟨rfl, rfl⟩ hr acc
theorem cutP_exp (f : Nat → Nat) : ∀ (L : List (List UInt8)) (i : Nat), (∀ l ∈ L, okL l) → ∀ acc, cutP (expL f i L ++ [[]]) acc = cutP (L ++ [[]]) acc
  | [], i, _, acc => rfl
  | s :: r, i, h, acc => by
    rw [expL, List.append_assoc, List.cons_append]
    exact cutP_pad s (f i) _ _ (h s (by simp)) (cutP_exp f r (i + 1) (fun l hl => h l (by simp [hl]))) acc
/-- The rows, but for numbers of lines, and the error, are the same. -/
theorem pads_same (f : Nat → Nat) (L : List (List UInt8)) (h : ∀ l ∈ L, okL l) : (cutL V (flA L)).1.map strip = (cutL V (flB f 0 L)).1.map strip ∧ (cutL V (flA L)).2.2 = (cutL V (flB f 0 L)).2.2 := by
  have h1 := cutA_P (lnsA [] (flA L)) 0 []
  have h2 := cutA_P (lnsA [] (flB f 0 L)) 0 []
  have h3 : cutP (lnsA [] (flA L)) [] = cutP (lnsA [] (flB f 0 L)) [] := by
    rw [lns_flA L h, lns_flB f L 0 h, cutP_exp f L 0 h]
  have h4 := h1.trans (h3.trans h2.symm)
  have h5 := congrArg Prod.fst h4
  have h6 := congrArg Prod.snd h4
  exact ⟨h5, h6⟩
theorem flA_snoc (L : List (List UInt8)) (s : List UInt8) : flA (L ++ [s]) = flA L ++ (s ++ [10]) := by simp [flA]
theorem flB_snoc (f : Nat → Nat) (s : List UInt8) : ∀ (L : List (List UInt8)) (i : Nat), flB f i (L ++ [s]) = flB f i L ++ (s ++ padB (f (i + L.length)) ++ [10])
  | [], i => by simp [flB]
  | t :: L, i => by
    rw [List.cons_append, flB, flB_snoc f s L (i + 1), flB, List.length_cons, show i + 1 + L.length = i + (L.length + 1) by omega]
    simp
theorem padB_len (j : Nat) : (padB j).length ≤ 6 := by
  unfold padB
  split <;> simp
end Go.Proofs.YtmenbgdkokegaaaDoor
