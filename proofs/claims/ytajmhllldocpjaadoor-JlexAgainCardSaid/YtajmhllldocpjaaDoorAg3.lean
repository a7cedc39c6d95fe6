/-
  Words, written one behind the other and parted by blanks, are the same words. No call.
-/
import Derived.Test.YtajmhllldocpjaaDoorAg2
namespace Go.Proofs.YtajmhllldocpjaaDoor
open Go.Lib

def signT (k : Int) : List UInt8 :=
  if k = 0 then [123] else if k = 1 then [125] else if k = 2 then [91] else if k = 3 then [93] else if k = 4 then [58] else if k = 5 then [44]
  else if k = 7 then [110, 117, 108, 108] else if k = 8 then [116, 114, 117, 101] else [102, 97, 108, 115, 101]
/-- A word that is always written alike. -/
def SignN (k : Int) : Prop := k = 0 ∨ k = 1 ∨ k = 2 ∨ k = 3 ∨ k = 4 ∨ k = 5 ∨ k = 7 ∨ k = 8 ∨ k = 9
/-- A word but the last one. -/
def GoodW (k : Int) (t : List UInt8) (v : Int) : Prop :=
  (k = 6 ∧ validD t = true ∧ t.length ≤ 4096 ∧ v = 0) ∨ (k = 10 ∧ t = [] ∧ -9223372036854775808 ≤ v ∧ v ≤ 9223372036854775807) ∨ (SignN k ∧ t = [] ∧ v = 0)
def showK (k : Int) (t : List UInt8) (v : Int) : List UInt8 := if k = 6 then quoted t else if k = 10 then decL v else if k = 11 then [] else signT k
theorem lk_in : ∀ (es : List (ByteArray × Int)) (s : ByteArray), (lk es s).isSome = true → (lk es s).getD 0 ∈ es.map (·.2)
  | [], s, h => by simp [lk] at h
  | (k, n) :: es, s, h => by
    rw [lk] at h ⊢
    by_cases hs : s = k
    · rw [if_pos hs]; simp
    · rw [if_neg hs] at h ⊢
      exact List.mem_cons_of_mem _ (lk_in es s h)
theorem sign_good (s : ByteArray) (h : (signK s).isSome = true) : SignN ((signK s).getD 0) := by
  have := lk_in signL s h
  unfold SignN
  change (signK s).getD 0 ∈ _ at this
  simp only [signL, List.map_cons, List.map_nil, List.mem_cons, List.not_mem_nil, or_false] at this
  omega
theorem signT_len (k : Int) : (signT k).length ≤ 5 := by
  unfold signT
  repeat' split
  all_goals decide
theorem first_good (c : UInt8) (r : List UInt8) (h : (firstF (c :: r)).code = 0) :
    GoodW (firstF (c :: r)).kind (firstF (c :: r)).text (firstF (c :: r)).int ∧ (showK (firstF (c :: r)).kind (firstF (c :: r)).text (firstF (c :: r)).int).length + 1 ≤ 21 * (firstF (c :: r)).used := by
  have hu := first_used c r h
  have hS : ∀ k, SignN k → (showK k [] 0).length ≤ 5 := fun k hk => by
    unfold SignN at hk
    rw [showK, if_neg (by omega), if_neg (by omega), if_neg (by omega)]
    exact signT_len k
  unfold firstF at h hu ⊢
  dsimp only at h hu ⊢
  by_cases h1 : c = 34
  · subst h1
    rw [if_pos rfl] at h hu ⊢
    dsimp only at h hu ⊢
    obtain ⟨g1, g2, g3⟩ := unqF_good r h
    refine ⟨.inl ⟨rfl, g1, g2, rfl⟩, ?_⟩
    rw [showK, if_pos rfl, quoted, List.length_cons, List.length_append]
    have := qL_len (unqF (34 :: r)).1
    simp only [List.length_cons, List.length_nil]
    omega
  rw [if_neg h1] at h hu ⊢
  by_cases h2 : startB c = true
  · rw [if_pos h2] at h hu ⊢
    dsimp only at h hu ⊢
    have hb := whole_bd _ h
    refine ⟨.inr (.inl ⟨rfl, rfl, hb.1, hb.2⟩), ?_⟩
    rw [showK, if_neg (by omega), if_pos rfl]
    have := decL_len _ hb.1 hb.2
    omega
  rw [if_neg h2] at h hu ⊢
  by_cases h3 : letB c = true
  · rw [if_pos h3] at h hu ⊢
    dsimp only at h hu ⊢
    have hs : (signK (bs ((c :: r).take (cnt letB (c :: r))))).isSome = true := by
      cases hh : (signK (bs ((c :: r).take (cnt letB (c :: r))))).isSome with
      | true => rfl
      | false => rw [hh] at h; simp at h
    have hg := sign_good _ hs
    refine ⟨.inr (.inr ⟨hg, rfl, rfl⟩), ?_⟩
    have := hS _ hg
    omega
  · rw [if_neg h3] at h hu ⊢
    dsimp only at h hu ⊢
    have hs : (signK (bs [c])).isSome = true := by
      cases hh : (signK (bs [c])).isSome with
      | true => rfl
      | false => rw [hh] at h; simp at h
    have hg := sign_good _ hs
    refine ⟨.inr (.inr ⟨hg, rfl, rfl⟩), ?_⟩
    have := hS _ hg
    omega
/-! ### a word's own text is read as that word -/
theorem cnt_behind (p : UInt8 → Bool) : ∀ (l : List UInt8) (c : UInt8) (r : List UInt8), (∀ x ∈ l, p x = true) → p c = false → cnt p (l ++ c :: r) = l.length
  | [], c, r, _, h => by rw [List.nil_append, cnt, if_neg (by simp [h])]; rfl
  | x :: l, c, r, hl, h => by
    rw [List.cons_append, cnt, if_pos (hl x (by simp)), cnt_behind p l c r (fun y hy => hl y (by simp [hy])) h, List.length_cons]
theorem dec_inn (v : Int) : ∀ x ∈ decL v, innB x = true := by
  have hd := (digN_facts v.natAbs v.natAbs (Nat.le_refl _)).2.1
  have hi : ∀ x, digB x = true → innB x = true := fun x hx => by
    have := (digB_iff x).1 hx
    simp [innB, startB]; omega
  intro x hx
  unfold decL at hx
  split at hx
  · rcases List.mem_cons.1 hx with rfl | hx
    · decide
    · exact hi x (hd x hx)
  · exact hi x (hd x hx)
theorem dec_head (v : Int) : ∃ c r, decL v = c :: r ∧ startB c = true := by
  have hd := digN_facts v.natAbs v.natAbs (Nat.le_refl _)
  unfold decL
  split
  · exact ⟨45, _, rfl, by decide⟩
  · rcases hh : digN v.natAbs with _ | ⟨c, r⟩
    · exact absurd hh hd.1
    · refine ⟨c, r, rfl, ?_⟩
      have := (digB_iff c).1 (hd.2.1 c (by rw [hh]; simp))
      simp [startB]; omega
theorem start_facts (c : UInt8) (h : startB c = true) : c ≠ 34 ∧ blankB c = false := by
  simp [startB] at h
  refine ⟨?_, ?_⟩
  · rintro rfl
    have : (34 : UInt8).toNat = 34 := rfl
    omega
  · rw [blankB]; exact decide_eq_false (by omega)
theorem sign_one (c : UInt8) (k : Int) (rest : List UInt8) (h1 : c ≠ 34) (h2 : startB c = false) (h3 : letB c = false) (h4 : signK (bs [c]) = some k) : firstF (c :: rest) = ⟨k, [], 0, 1, 0⟩ := by
  rw [firstF]
  rw [if_neg h1, if_neg (by simp [h2]), if_neg (by simp [h3]), h4]
  rfl
theorem sign_word (c : UInt8) (cs : List UInt8) (k : Int) (rest : List UInt8) (h1 : c ≠ 34) (h2 : startB c = false) (h3 : ∀ x ∈ c :: cs, letB x = true) (h4 : signK (bs (c :: cs)) = some k) : firstF ((c :: cs) ++ 32 :: rest) = ⟨k, [], 0, (c :: cs).length, 0⟩ := by
  have hn := cnt_behind letB (c :: cs) 32 rest h3 (by decide)
  rw [List.cons_append] at hn ⊢
  rw [firstF]
  rw [if_neg h1, if_neg (by simp [h2]), if_pos (h3 c (by simp)), hn]
  have ht : (c :: (cs ++ 32 :: rest)).take (c :: cs).length = c :: cs := by rw [← List.cons_append, List.take_left]
  rw [ht, h4]
  rfl
theorem first_show (k : Int) (t : List UInt8) (v : Int) (rest : List UInt8) (h : GoodW k t v) :
    (∃ c r, showK k t v = c :: r ∧ blankB c = false) ∧ firstF (showK k t v ++ 32 :: rest) = ⟨k, t, v, (showK k t v).length, 0⟩ := by
  rcases h with ⟨rfl, h1, h2, rfl⟩ | ⟨rfl, rfl, h1, h2⟩ | ⟨h, rfl, rfl⟩
  · have e : showK 6 t 0 = quoted t := by rw [showK, if_pos rfl]
    rw [e]
    refine ⟨⟨34, _, rfl, by decide⟩, ?_⟩
    have hq := unqF_quoted t (32 :: rest) h1 h2
    have e2 : quoted t ++ 32 :: rest = 34 :: ((qL t ++ [34]) ++ 32 :: rest) := rfl
    rw [e2] at hq ⊢
    rw [firstF]
    rw [if_pos rfl, hq]
  · have e : showK 10 [] v = decL v := by rw [showK, if_neg (by omega), if_pos rfl]
    rw [e]
    obtain ⟨c, r, hc, hs⟩ := dec_head v
    refine ⟨⟨c, r, hc, (start_facts c hs).2⟩, ?_⟩
    have hw := whole_dec v h1 h2
    have hn := cnt_behind innB (decL v) 32 rest (dec_inn v) (by decide)
    have ht : (decL v ++ 32 :: rest).take (decL v).length = decL v := List.take_left
    rw [hc] at hw hn ht ⊢
    rw [List.cons_append] at hn ht ⊢
    rw [firstF]
    rw [if_neg (start_facts c hs).1, if_pos hs, hn, ht, hw.1, hw.2]
  · rcases h with rfl | rfl | rfl | rfl | rfl | rfl | rfl | rfl | rfl
    · exact ⟨⟨123, [], rfl, by decide⟩, sign_one 123 0 _ (by decide) (by decide) (by decide) (by kernel_rfl)⟩
    · exact ⟨⟨125, [], rfl, by decide⟩, sign_one 125 1 _ (by decide) (by decide) (by decide) (by kernel_rfl)⟩
    · exact ⟨⟨91, [], rfl, by decide⟩, sign_one 91 2 _ (by decide) (by decide) (by decide) (by kernel_rfl)⟩
    · exact ⟨⟨93, [], rfl, by decide⟩, sign_one 93 3 _ (by decide) (by decide) (by decide) (by kernel_rfl)⟩
    · exact ⟨⟨58, [], rfl, by decide⟩, sign_one 58 4 _ (by decide) (by decide) (by decide) (by kernel_rfl)⟩
    · exact ⟨⟨44, [], rfl, by decide⟩, sign_one 44 5 _ (by decide) (by decide) (by decide) (by kernel_rfl)⟩
    · exact ⟨⟨110, _, rfl, by decide⟩, sign_word 110 [117, 108, 108] 7 _ (by decide) (by decide) (by decide) (by kernel_rfl)⟩
    · exact ⟨⟨116, _, rfl, by decide⟩, sign_word 116 [114, 117, 101] 8 _ (by decide) (by decide) (by decide) (by kernel_rfl)⟩
    · exact ⟨⟨102, _, rfl, by decide⟩, sign_word 102 [97, 108, 115, 101] 9 _ (by decide) (by decide) (by decide) (by kernel_rfl)⟩
/-! ### the words of a text -/
def GoodT (t : Tok) : Prop := GoodW t.kind t.text t.int
def showT (t : Tok) : List UInt8 := showK t.kind t.text t.int
def shows (l : List Tok) : List UInt8 := l.flatMap fun t => showT t ++ [32]
theorem shows_snoc (l : List Tok) (t : Tok) : shows (l ++ [t]) = shows l ++ (showT t ++ [32]) := by simp [shows]
/-- From a place on, words rise; the last one's place. -/
def Rise : Nat → List Tok → Nat → Prop
  | a, [], z => a ≤ z
  | a, t :: ts, z => a ≤ t.at_ ∧ Rise (t.at_ + 1) ts z
theorem Rise.le : ∀ {a : Nat} {ts : List Tok} {z : Nat}, Rise a ts z → a ≤ z
  | _, [], _, h => h
  | _, _ :: ts, _, h => by have := Rise.le (ts := ts) h.2; have := h.1; omega
theorem lexA_words : ∀ (f : Nat) (l : List UInt8) (a : Nat) (acc : List Tok), (lexA f l a acc).2.2 = 0 → ∃ ts z, (lexA f l a acc).1 = acc ++ (ts ++ [⟨11, [], 0, z⟩]) ∧ (∀ t ∈ ts, GoodT t) ∧ Rise a ts z ∧ z ≤ a + l.length ∧ (shows ts).length ≤ 21 * l.length
  | 0, l, a, acc, h => by simp [lexA] at h
  | f + 1, l, a, acc, h => by
    have hcnt := cnt_le blankB l
    rcases hd : l.drop (cnt blankB l) with _ | ⟨c, r⟩
    · rw [lexA_end f l a acc hd]
      exact ⟨[], a + cnt blankB l, rfl, by simp, Nat.le_add_right _ _, by omega, by simp [shows]⟩
    · rw [lexA_step f l a acc c r hd] at h ⊢
      have hl : (c :: r).length = l.length - cnt blankB l := by rw [← hd, List.length_drop]
      by_cases hx : (firstF (c :: r)).code ≠ 0
      · rw [if_pos hx] at h; exact absurd h hx
      · rw [if_neg hx] at h ⊢
        have hx0 : (firstF (c :: r)).code = 0 := by simpa using hx
        have hu := first_used c r hx0
        have hg := first_good c r hx0
        obtain ⟨ts, z, e1, e2, e3, e4, e5⟩ := lexA_words f _ _ _ h
        rw [List.length_drop] at e4 e5
        refine ⟨⟨(firstF (c :: r)).kind, (firstF (c :: r)).text, (firstF (c :: r)).int, a + cnt blankB l⟩ :: ts, z, ?_, ?_, ⟨Nat.le_add_right _ _, ?_⟩, by omega, ?_⟩
        · rw [e1]; simp
        · intro t ht
          rcases List.mem_cons.1 ht with rfl | ht
          · exact hg.1
          · exact e2 t ht
        · have hr : ∀ (ts : List Tok) (b b' z : Nat), b' ≤ b → Rise b ts z → Rise b' ts z := fun ts b b' z hb h => by
            cases ts with
            | nil => exact Nat.le_trans hb h
            | cons t ts => exact ⟨Nat.le_trans hb h.1, h.2⟩
          exact hr ts _ _ z (by dsimp only; omega) e3
        · have : shows (⟨(firstF (c :: r)).kind, (firstF (c :: r)).text, (firstF (c :: r)).int, a + cnt blankB l⟩ :: ts) = (showK (firstF (c :: r)).kind (firstF (c :: r)).text (firstF (c :: r)).int ++ [32]) ++ shows ts := rfl
          rw [this, List.length_append, List.length_append, List.length_singleton]
          have := hg.2
          omega
def strip (t : Tok) : Int × List UInt8 × Int := (t.kind, t.text, t.int)
/-- Words, written, are read as the same words. -/
theorem lexA_again : ∀ (ts : List Tok) (f a : Nat) (acc : List Tok) (pre : List UInt8), (pre = [] ∨ pre = [32]) → (∀ t ∈ ts, GoodT t) → (pre ++ (shows ts ++ [32])).length < f →
    ∃ us z, lexA f (pre ++ (shows ts ++ [32])) a acc = (acc ++ (us ++ [⟨11, [], 0, z⟩]), 0, 0) ∧ us.map strip = ts.map strip
  | [], f, a, acc, pre, hp, _, hf => by
    obtain ⟨f, rfl⟩ : ∃ g, f = g + 1 := ⟨f - 1, by omega⟩
    have e : (pre ++ (shows [] ++ [32])).drop (cnt blankB (pre ++ (shows [] ++ [32]))) = [] := by
      rcases hp with rfl | rfl <;> rfl
    rw [lexA_end f _ a acc e]
    exact ⟨[], _, rfl, rfl⟩
  | t :: ts, f, a, acc, pre, hp, hg, hf => by
    obtain ⟨f, rfl⟩ : ∃ g, f = g + 1 := ⟨f - 1, by omega⟩
    have ht := hg t (by simp)
    obtain ⟨⟨c, r, hc, hb⟩, hfs⟩ := first_show t.kind t.text t.int (shows ts ++ [32]) ht
    have es : shows (t :: ts) ++ [32] = showK t.kind t.text t.int ++ 32 :: (shows ts ++ [32]) := by
      show (showK t.kind t.text t.int ++ [32] ++ shows ts) ++ [32] = _
      simp
    have e0 : showK t.kind t.text t.int ++ 32 :: (shows ts ++ [32]) = c :: (r ++ 32 :: (shows ts ++ [32])) := by rw [hc]; rfl
    rw [es] at hf ⊢
    have hn : cnt blankB (pre ++ (showK t.kind t.text t.int ++ 32 :: (shows ts ++ [32]))) = pre.length := by
      rw [e0]
      exact cnt_behind blankB pre c _ (by rcases hp with rfl | rfl <;> decide) hb
    have hd : (pre ++ (showK t.kind t.text t.int ++ 32 :: (shows ts ++ [32]))).drop (cnt blankB (pre ++ (showK t.kind t.text t.int ++ 32 :: (shows ts ++ [32])))) = c :: (r ++ 32 :: (shows ts ++ [32])) := by
      rw [hn, List.drop_left, e0]
    rw [lexA_step f _ a acc c _ hd, hn]
    rw [e0] at hfs
    rw [hfs, if_neg (by simp)]
    dsimp only
    have hdd : (c :: (r ++ 32 :: (shows ts ++ [32]))).drop (showK t.kind t.text t.int).length = [32] ++ (shows ts ++ [32]) := by
      rw [← e0, List.drop_left]; rfl
    rw [hdd]
    have hlen : ([32] ++ (shows ts ++ [32])).length < f := by
      rw [List.length_append, List.length_append, List.length_cons] at hf
      rw [List.length_append]
      have : 1 ≤ (showK t.kind t.text t.int).length := by rw [hc]; simp
      simp only [List.length_cons, List.length_nil]
      omega
    obtain ⟨us, z, h1, h2⟩ := lexA_again ts f (a + pre.length + (showK t.kind t.text t.int).length) (acc ++ [⟨t.kind, t.text, t.int, a + pre.length⟩]) [32] (.inr rfl) (fun x hx => hg x (by simp [hx])) hlen
    refine ⟨⟨t.kind, t.text, t.int, a + pre.length⟩ :: us, z, ?_, ?_⟩
    · rw [h1]; simp
    · rw [List.map_cons, List.map_cons, h2]; rfl
end Go.Proofs.YtajmhllldocpjaaDoor
