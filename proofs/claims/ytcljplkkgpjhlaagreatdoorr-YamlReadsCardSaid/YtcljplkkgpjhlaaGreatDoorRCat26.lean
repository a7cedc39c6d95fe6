/-
  Parts of the proof: YValid YGood YRRow YRLoopM YRLoopK.
-/
import Derived.Test.YtcljplkkgpjhlaaGreatDoorRCat25
import Derived.Test.YtcljplkkgpjhlaaGreatDoorRCat13
import Derived.Test.YtcljplkkgpjhlaaGreatDoorRCat15
import Derived.Test.YtcljplkkgpjhlaaGreatDoorRCat17
import Derived.Test.YtcljplkkgpjhlaaGreatDoorRCat21
set_option maxRecDepth 100000
set_option maxHeartbeats 8000000
namespace Go.Proofs.YtcljplkkgpjhlaaGreatDoorR
namespace y
open Go.Lib
open Go.Proofs.YtcljplkkgpjhlaaGreatDoorR.v (valid_lead valid_bad)
theorem class_of : ∀ n, n < 256 → 128 ≤ n → firstT n = 241 ∨ firstT n % 8 = 1 + 1 ∨ firstT n % 8 = 2 + 1 ∨ firstT n % 8 = 3 + 1 := by decide +kernel
theorem lead_cases (c : UInt8) (hc : 128 ≤ c.toNat) : (∀ l, validD (c :: l) = false) ∨ ∃ n lo hi, ∀ l, validD (c :: l) = (contOK l n lo hi && validD (l.drop n)) := by
  rcases class_of c.toNat (c.toNat_lt) hc with h | h | h | h
  · exact .inl fun l => valid_bad c l hc h
  · exact .inr ⟨1, _, _, fun l => valid_lead c l 1 _ _ hc (.inl rfl) h rfl rfl⟩
  · exact .inr ⟨2, _, _, fun l => valid_lead c l 2 _ _ hc (.inr (.inl rfl)) h rfl rfl⟩
  · exact .inr ⟨3, _, _, fun l => valid_lead c l 3 _ _ hc (.inr (.inr rfl)) h rfl rfl⟩
theorem contOK_len : ∀ (n : Nat) (l : List UInt8) (lo hi : Nat), contOK l n lo hi = true → n ≤ l.length
  | 0, l, _, _, _ => Nat.zero_le _
  | n + 1, [], _, _, h => by simp [contOK] at h
  | n + 1, b :: l, _, _, h => by
    simp only [contOK, Bool.and_eq_true] at h
    have := contOK_len n l _ _ h.2
    simp; omega
theorem contOK_app : ∀ (n : Nat) (l X : List UInt8) (lo hi : Nat), n ≤ l.length → contOK (l ++ X) n lo hi = contOK l n lo hi
  | 0, l, X, _, _, _ => by cases l <;> cases X <;> simp [contOK]
  | n + 1, [], _, _, _, h => by simp at h
  | n + 1, b :: l, X, lo, hi, h => by
    rw [List.cons_append, contOK, contOK, contOK_app n l X _ _ (by simpa using h)]
theorem validD_append : ∀ (n : Nat) (a b : List UInt8), a.length ≤ n → validD a = true → validD (a ++ b) = validD b
  | _, [], _, _, _ => rfl
  | 0, _ :: _, _, h, _ => by simp at h
  | n + 1, c :: l, b, h, hv => by
    rw [List.cons_append]
    by_cases hc : c.toNat < 128
    · rw [validD_cons _ _ hc] at hv ⊢
      exact validD_append n l b (by simp at h; omega) hv
    · rcases lead_cases c (by omega) with hb | ⟨k, lo, hi, hk⟩
      · rw [hb] at hv; cases hv
      · rw [hk, Bool.and_eq_true] at hv
        have hl := contOK_len k l lo hi hv.1
        rw [hk, contOK_app k l b lo hi hl, hv.1, List.drop_append_of_le_length hl, Bool.true_and]
        exact validD_append n (l.drop k) b (by simp at h ⊢; omega) hv.2
theorem valid_of (c : UInt8) (l : List UInt8) (n lo hi : Nat) (hc : 128 ≤ c.toNat) (hn : n = 1 ∨ n = 2 ∨ n = 3) (h1 : firstT c.toNat % 8 = n + 1) (h2 : accLo (firstT c.toNat / 16) = lo) (h3 : accHi (firstT c.toNat / 16) = hi) (hl : l.length = n) (hk : contOK l n lo hi = true) : validD (c :: l) = true := by
  rw [valid_lead c l n lo hi hc hn h1 h2 h3, hk, List.drop_of_length_le (by omega)]
  rfl
theorem u8_of (z : Int) (h0 : 0 ≤ z) (h1 : z < 256) : (z.toNat.toUInt8).toNat = z.toNat := by
  have : z.toNat < 256 := by omega
  simp
  omega
theorem tab2 : ∀ n, n < 256 → 194 ≤ n → n < 224 → firstT n % 8 = 1 + 1 ∧ accLo (firstT n / 16) = 128 ∧ accHi (firstT n / 16) = 191 := by decide +kernel
theorem tab3 : ∀ n, n < 256 → 224 ≤ n → n < 240 → firstT n % 8 = 2 + 1 ∧ accLo (firstT n / 16) = (if n = 224 then 160 else 128) ∧ accHi (firstT n / 16) = (if n = 237 then 159 else 191) := by decide +kernel
theorem tab4 : ∀ n, n < 256 → 240 ≤ n → n < 245 → firstT n % 8 = 3 + 1 ∧ accLo (firstT n / 16) = (if n = 240 then 144 else 128) ∧ accHi (firstT n / 16) = (if n = 244 then 143 else 191) := by decide +kernel
theorem valid_rune (z : Int) (h0 : 0 ≤ z) (h1 : z ≤ 1114111) (h2 : z < 55296 ∨ 57344 ≤ z) : validD (encodeRune z) = true := by
  by_cases a : z ≤ 127
  · rw [encodeRune, encodeRuneZ_one h0 a]
    show validD [z.toNat.toUInt8] = true
    rw [validD_cons _ _ (by rw [u8_of z h0 (by omega)]; omega)]
    rfl
  by_cases b : z ≤ 2047
  · rw [encodeRune, encodeRuneZ_two (by omega) b]
    show validD ((192 + z / 64).toNat.toUInt8 :: [(128 + z % 64).toNat.toUInt8]) = true
    have e1 := u8_of (192 + z / 64) (by omega) (by omega)
    have e2 := u8_of (128 + z % 64) (by omega) (by omega)
    generalize (192 + z / 64).toNat.toUInt8 = c at *
    generalize (128 + z % 64).toNat.toUInt8 = d at *
    obtain ⟨t1, t2, t3⟩ := tab2 c.toNat c.toNat_lt (by omega) (by omega)
    exact valid_of c [d] 1 128 191 (by omega) (.inl rfl) t1 t2 t3 rfl (by simp [contOK]; omega)
  by_cases d : z ≤ 65535
  · rw [encodeRune, encodeRuneZ_three (by omega)]
    show validD ((224 + z / 4096).toNat.toUInt8 :: [(128 + z / 64 % 64).toNat.toUInt8, (128 + z % 64).toNat.toUInt8]) = true
    have e1 := u8_of (224 + z / 4096) (by omega) (by omega)
    have e2 := u8_of (128 + z / 64 % 64) (by omega) (by omega)
    have e3 := u8_of (128 + z % 64) (by omega) (by omega)
    generalize (224 + z / 4096).toNat.toUInt8 = c at *
    generalize (128 + z / 64 % 64).toNat.toUInt8 = x at *
    generalize (128 + z % 64).toNat.toUInt8 = y at *
    obtain ⟨t1, t2, t3⟩ := tab3 c.toNat c.toNat_lt (by omega) (by omega)
    refine valid_of c [x, y] 2 _ _ (by omega) (.inr (.inl rfl)) t1 t2 t3 rfl ?_
    simp only [contOK, Bool.and_true, Bool.and_eq_true, decide_eq_true_eq]
    refine ⟨?_, by omega, by omega⟩
    split <;> split <;> omega
  · rw [encodeRune, encodeRuneZ_four (by omega) h1]
    show validD ((240 + z / 262144).toNat.toUInt8 :: [(128 + z / 4096 % 64).toNat.toUInt8, (128 + z / 64 % 64).toNat.toUInt8, (128 + z % 64).toNat.toUInt8]) = true
    have e1 := u8_of (240 + z / 262144) (by omega) (by omega)
    have e2 := u8_of (128 + z / 4096 % 64) (by omega) (by omega)
    have e3 := u8_of (128 + z / 64 % 64) (by omega) (by omega)
    have e4 := u8_of (128 + z % 64) (by omega) (by omega)
    generalize (240 + z / 262144).toNat.toUInt8 = c at *
    generalize (128 + z / 4096 % 64).toNat.toUInt8 = x at *
    generalize (128 + z / 64 % 64).toNat.toUInt8 = y at *
    generalize (128 + z % 64).toNat.toUInt8 = v at *
    obtain ⟨t1, t2, t3⟩ := tab4 c.toNat c.toNat_lt (by omega) (by omega)
    refine valid_of c [x, y, v] 3 _ _ (by omega) (.inr (.inr rfl)) t1 t2 t3 rfl ?_
    simp only [contOK, Bool.and_true, Bool.and_eq_true, decide_eq_true_eq]
    refine ⟨?_, ⟨by omega, by omega⟩, by omega, by omega⟩
    split <;> split <;> omega
theorem byNumF_valid (l : List UInt8) (h : (byNumF l).1 = 0) : validD (byNumF l).2.1 = true := by
  have hb := numF_four l
  by_cases c : (numF 4 0 l).1 ≠ 0
  · rw [byNum_err l c] at h; exact absurd h c
  have c0 : (numF 4 0 l).1 = 0 := by simpa using c
  cases hf : firstB (numF 4 0 l).2.1 with
  | true =>
    have hfn := of_decide_eq_true hf
    rw [byNum_pair l c0 hf] at h ⊢
    have ho := otherF_bd (numF 4 0 l).2.1 (numF 4 0 l).2.2 hfn.1 hfn.2
    by_cases d : (otherF (numF 4 0 l).2.1 (numF 4 0 l).2.2).1 ≠ 0
    · rw [if_pos d] at h; exact absurd h d
    · rw [if_neg d]
      have := ho.2 (by simpa using d)
      exact valid_rune _ (by omega) (by omega) (by omega)
  | false =>
    cases hs : secondB (numF 4 0 l).2.1 with
    | true => rw [byNum_sec l c0 hf hs] at h; simp at h
    | false =>
      rw [byNum_one l c0 hf hs]
      have h1 := of_decide_eq_false hf
      have h2 := of_decide_eq_false hs
      exact valid_rune _ (by omega) (by omega) (by omega)
theorem escF_valid (l : List UInt8) (h : (escF l).1 = 0) : validD (escF l).2.1 = true := by
  rcases l with _ | ⟨c, r⟩
  · simp [escF] at h
  · by_cases h117 : c = 117
    · subst h117
      exact byNumF_valid r h
    · clear h
      unfold escF
      dsimp only
      repeat' split
      all_goals first | (dsimp only; decide +kernel) | (exact absurd (by assumption) h117)
theorem chrF_valid (l : List UInt8) (h : (chrF l).1 = 0) : validD (chrF l).2.1 = true := by
  rcases l with _ | ⟨c, r⟩
  · simp [chrF] at h
  · have hb := escF_valid r
    unfold chrF at h ⊢
    dsimp only at h ⊢
    by_cases hc : c = 92
    · rw [if_pos hc] at h ⊢
      exact hb h
    · rw [if_neg hc] at h ⊢
      by_cases hd : c.toNat < 32 ∨ validD ((c :: r).take (chLen (c :: r))) = false
      · rw [if_pos hd] at h; simp at h
      · rw [if_neg hd]
        cases hv : validD ((c :: r).take (chLen (c :: r))) with
        | true => rfl
        | false => exact absurd (.inr hv) hd
theorem loopF_valid : ∀ (f : Nat) (l acc : List UInt8), validD acc = true → (loopF f l acc).1 = 0 → validD (loopF f l acc).2.1 = true ∧ (loopF f l acc).2.1.length + (loopF f l acc).2.2.length < acc.length + l.length
  | 0, l, acc, _, h => by simp [loopF] at h
  | f + 1, [], acc, _, h => by simp [loopF] at h
  | f + 1, c :: r, acc, hv, h => by
    rw [loopF] at h ⊢
    by_cases hc : c = 34
    · rw [if_pos hc]
      refine ⟨hv, ?_⟩
      dsimp only
      rw [List.length_cons]; omega
    · rw [if_neg hc] at h ⊢
      by_cases hx : (chrF (c :: r)).1 ≠ 0
      · rw [if_pos hx] at h; exact absurd h hx
      · rw [if_neg hx] at h ⊢
        have hx0 : (chrF (c :: r)).1 = 0 := by simpa using hx
        have hl := (chrF_len (c :: r) hx0).1
        have hva : validD (acc ++ (chrF (c :: r)).2.1) = true := by
          rw [validD_append _ _ _ (Nat.le_refl _) hv]; exact chrF_valid _ hx0
        have ih := loopF_valid f _ _ hva h
        rw [List.length_append] at ih
        exact ⟨ih.1, by omega⟩
theorem unqF_good (r : List UInt8) (h : (unqF (34 :: r)).2.2 = 0) : validD (unqF (34 :: r)).1 = true ∧ (unqF (34 :: r)).1.length ≤ 4096 ∧ (unqF (34 :: r)).1.length ≤ (unqF (34 :: r)).2.1 := by
  have hl := loopF_valid (r.length + 1) r [] rfl
  unfold unqF at h ⊢
  dsimp only at h ⊢
  rw [if_neg (by simp)] at h ⊢
  by_cases a : (loopF (r.length + 1) r []).1 ≠ 0
  · rw [if_pos a] at h; exact absurd h a
  rw [if_neg a] at h ⊢
  by_cases b : 4096 < (loopF (r.length + 1) r []).2.1.length
  · rw [if_pos b] at h; simp at h
  rw [if_neg b]
  have hk := hl (by simpa using a)
  refine ⟨hk.1, by dsimp only; omega, ?_⟩
  have h2 := hk.2
  dsimp only
  rw [List.length_cons]
  simp at h2
  omega
end y
namespace y
open Go.Lib
theorem textW_ok {l : List UInt8} (hv : validD l = true) (h4 : l.length ≤ 4096) : v.textW (tx l) = 0 := by
  unfold v.textW
  rw [tx_toList, hv, if_pos rfl, tx_size, if_neg (by omega)]
theorem ascii_valid : ∀ l : List UInt8, (∀ c ∈ l, c.toNat < 128) → validD l = true
  | [], _ => rfl
  | c :: l, h => by
    rw [validD_cons _ _ (h c (by simp))]
    exact ascii_valid l fun x hx => h x (by simp [hx])
theorem al_small : ∀ c : UInt8, alB c = true → c.toNat < 128 := fun c h => by
  have := of_decide_eq_true ((alB_iff c).symm.trans h)
  omega
theorem only_valid {o l : List UInt8} (ho : ∀ c ∈ o, c.toNat < 128) (h : onlyB o l = true) : validD l = true := by
  refine ascii_valid l fun c hc => ?_
  unfold onlyB at h
  have := List.all_eq_true.1 h c hc
  rw [Bool.or_eq_true] at this
  rcases this with k | k
  · exact al_small c k
  · exact ho c (by simpa using k)
theorem inW_small : ∀ c ∈ inW, c.toNat < 128 := by decide
theorem inK_small : ∀ c ∈ inK, c.toNat < 128 := by decide
theorem keyB_valid {l : List UInt8} (h : keyB l = true) : validD l = true := by
  unfold keyB at h
  rw [Bool.and_eq_true, Bool.and_eq_true] at h
  exact only_valid inK_small h.2.2
structure Good (x : v.V) (ins k : Nat) : Prop where
  wr : x.wrong = 0
  dp : x.depth + ins ≤ 32
  sz : x.size ≤ k
theorem good_z {ins : Nat} (h : ins ≤ 32) : Good zV ins 1 := ⟨rfl, by show 0 + ins ≤ 32; omega, Nat.le_refl _⟩
theorem good_flag {ins : Nat} (h : ins ≤ 32) (b : Bool) : Good (vFlag b) ins 1 := ⟨rfl, by show 0 + ins ≤ 32; omega, Nat.le_refl _⟩
theorem good_int {ins : Nat} (h : ins ≤ 32) (n : Int) : Good (vInt n) ins 1 := ⟨rfl, by show 0 + ins ≤ 32; omega, Nat.le_refl _⟩
theorem good_text {ins : Nat} (h : ins ≤ 32) {l : List UInt8} (hv : validD l = true) (h4 : l.length ≤ 4096) : Good (vText l) ins 1 := by
  refine ⟨?_, by show 0 + ins ≤ 32; omega, Nat.le_refl _⟩
  have e : (vText l).own = 0 := by
    show (if (3 : Int) < 0 ∨ 5 < (3 : Int) then (15 : Int) else if (3 : Int) = 3 then v.textW (tx l) else _) = 0
    rw [if_neg (by decide), if_pos rfl, textW_ok hv h4]
  rw [v.wrong_eq, e, if_neg (by simp)]
  rfl
theorem unq_valid {l : List UInt8} (h : (unqF l).2.2 = 0) : validD (unqF l).1 = true ∧ (unqF l).1.length ≤ 4096 := by
  cases l with
  | nil => simp [unqF] at h
  | cons c r =>
    by_cases hc : c = 34
    · subst hc
      have := unqF_good r h
      exact ⟨this.1, this.2.1⟩
    · rw [unqF, if_pos hc] at h; simp at h
theorem scM_good {l : List UInt8} {ins : Nat} (hi : ins ≤ 32) (h : (scM l ins).1 = 0) : Good (scM l ins).2 ins 1 := by
  unfold scM at h ⊢
  by_cases n1 : l = tNull
  · rw [if_pos n1]; exact good_z hi
  rw [if_neg n1] at h ⊢
  by_cases n2 : l = tTrue
  · rw [if_pos n2]; exact good_flag hi _
  rw [if_neg n2] at h ⊢
  by_cases n3 : l = tFalse
  · rw [if_pos n3]; exact good_flag hi _
  rw [if_neg n3] at h ⊢
  by_cases n4 : l = [91, 93]
  · rw [if_pos n4] at h ⊢
    by_cases k : 32 ≤ ins
    · rw [if_pos k] at h; simp at h
    · rw [if_neg k]; exact ⟨rfl, by show 1 + ins ≤ 32; omega, Nat.le_refl _⟩
  rw [if_neg n4] at h ⊢
  by_cases n5 : l = [123, 125]
  · rw [if_pos n5] at h ⊢
    by_cases k : 32 ≤ ins
    · rw [if_pos k] at h; simp at h
    · rw [if_neg k]; exact ⟨rfl, by show 1 + ins ≤ 32; omega, Nat.le_refl _⟩
  rw [if_neg n5] at h ⊢
  by_cases n6 : l.head? = some 34
  · rw [if_pos n6] at h ⊢
    unfold quoM at h ⊢
    by_cases c : (unqF l).2.2 ≠ 0
    · rw [if_pos c] at h; exact absurd h c
    rw [if_neg c] at h ⊢
    by_cases e : (unqF l).2.1 = l.length
    · rw [if_pos e]
      have := unq_valid (l := l) (by simpa using c)
      exact good_text hi this.1 this.2
    · rw [if_neg e] at h; simp at h
  rw [if_neg n6] at h ⊢
  by_cases n7 : onlyB inW l = true
  · rw [if_pos n7] at h ⊢
    unfold wordM at h ⊢
    by_cases c : startB (l.headD 0) = true
    · rw [if_pos c] at h ⊢
      by_cases e : wholeE l ≠ 0
      · rw [if_pos e] at h; exact absurd h e
      · rw [if_neg e]; exact good_int hi _
    rw [if_neg c] at h ⊢
    by_cases e : 4096 < l.length
    · rw [if_pos e] at h; simp at h
    · rw [if_neg e]; exact good_text hi (only_valid inW_small n7) (by omega)
  · rw [if_neg n7] at h; simp at h
theorem key_ok {l : List UInt8} {m : Ent} {met : List ByteArray} (h : entM l = (0, some m)) (hk : keyE m met = 0) : v.textW (tx m.key) = 0 ∧ tx m.key ∉ met := by
  unfold keyE at hk
  by_cases a : m.quoted = false ∧ keyB m.key = false
  · rw [if_pos a] at hk; simp at hk
  rw [if_neg a] at hk
  by_cases b : 4096 < m.key.length
  · rw [if_pos b] at hk; simp at hk
  rw [if_neg b] at hk
  by_cases c : v.inB (tx m.key) met = true
  · rw [if_pos c] at hk; simp at hk
  refine ⟨textW_ok ?_ (by omega), fun e => c (v.inB_yes e)⟩
  cases hq : m.quoted with
  | false =>
    cases hb : keyB m.key with
    | true => exact keyB_valid hb
    | false => exact absurd ⟨hq, hb⟩ a
  | true =>
    unfold entM at h
    split at h
    · split at h
      · simp at h
      · rename_i h34 hu
        have hv := unq_valid (l := l) (by simpa using hu)
        generalize l.drop (unqF l).2.1 = d at h
        cases d with
        | nil => simp [restE] at h
        | cons c t =>
          simp only [restE] at h
          split at h
          · simp only [Prod.mk.injEq, Option.some.injEq, true_and] at h
            subst h
            exact hv.1
          · cases h
    · split at h
      · simp at h
      · simp only [Prod.mk.injEq, Option.some.injEq, true_and] at h
        subst h
        cases hq
theorem wrongL_ok {l : List v.V} (h : ∀ x ∈ l, x.wrong = 0) : v.wrongL l = 0 := by
  induction l with
  | nil => rfl
  | cons a l ih =>
    rw [v.wrongL, if_neg (by simp [h a (by simp)])]
    exact ih fun x hx => h x (by simp [hx])
theorem depthL_ok {l : List v.V} {k : Nat} (h : ∀ x ∈ l, x.depth ≤ k) : v.depthL l ≤ k := by
  induction l with
  | nil => exact Nat.zero_le _
  | cons a l ih =>
    have := h a (by simp)
    have := ih fun x hx => h x (by simp [hx])
    simp only [v.depthL]; omega
theorem sizeL_snoc (l : List v.V) (x : v.V) : v.sizeL (l ++ [x]) = v.sizeL l + x.size := by
  induction l with
  | nil => simp [v.sizeL]
  | cons a l ih => simp only [List.cons_append, v.sizeL, ih]; omega
theorem textsW_ok {l : List ByteArray} (h : ∀ x ∈ l, v.textW x = 0) : v.textsW l = 0 := by
  induction l with
  | nil => rfl
  | cons a l ih =>
    rw [v.textsW, if_neg (by simp [h a (by simp)])]
    exact ih fun x hx => h x (by simp [hx])
theorem good_list {acc : List v.V} {ins k : Nat} (hi : ins < 32) (h : ∀ x ∈ acc, x.wrong = 0 ∧ x.depth + (ins + 1) ≤ 32) (hs : v.sizeL acc ≤ k) : Good (vList acc) ins (k + 1) := by
  refine ⟨?_, ?_, ?_⟩
  · rw [v.wrong_eq]
    have e : (vList acc).own = 0 := rfl
    rw [e, if_neg (by simp)]
    exact wrongL_ok fun x hx => (h x hx).1
  · have e : (vList acc).depth = v.depthL acc + 1 := rfl
    have := depthL_ok (l := acc) (k := 31 - ins) fun x hx => by have := (h x hx).2; omega
    rw [e]; omega
  · rw [v.V.size_eq]
    show 1 + (v.sizeL acc + 0) ≤ k + 1
    omega
theorem good_keys {acc : List (ByteArray × v.V)} {ins k : Nat} (hi : ins < 32) (h : ∀ p ∈ acc, p.2.wrong = 0 ∧ p.2.depth + (ins + 1) ≤ 32) (ht : ∀ x ∈ acc.map (·.1), v.textW x = 0) (hn : (acc.map (·.1)).Nodup) (hs : v.sizeL (acc.map (·.2)) ≤ k) : Good (vKeys acc) ins (k + 1) := by
  have h2 : ∀ x ∈ acc.map (·.2), x.wrong = 0 ∧ x.depth + (ins + 1) ≤ 32 := fun x hx => by
    obtain ⟨p, hp, rfl⟩ := List.mem_map.1 hx
    exact h p hp
  refine ⟨?_, ?_, ?_⟩
  · rw [v.wrong_eq]
    have e : (vKeys acc).own = 0 := by
      show (if (5 : Int) < 0 ∨ 5 < (5 : Int) then (15 : Int) else if (5 : Int) = 3 then _ else if (5 : Int) = 5 then v.keysW (acc.map (·.1)) else 0) = 0
      rw [if_neg (by decide), if_neg (by decide), if_pos rfl]
      unfold v.keysW
      rw [if_neg (by simp [textsW_ok ht]), if_pos hn]
    rw [e, if_neg (by simp)]
    exact wrongL_ok fun x hx => (h2 x hx).1
  · have e : (vKeys acc).depth = v.depthL (acc.map (·.2)) + 1 := by
      rw [v.V.depth_holds rfl]; rfl
    have := depthL_ok (l := acc.map (·.2)) (k := 31 - ins) fun x hx => by have := (h2 x hx).2; omega
    rw [e]; omega
  · rw [v.V.size_eq]
    show 1 + (0 + v.sizeL (acc.map (·.2))) ≤ k + 1
    omega
theorem good_all : ∀ n : Nat, (∀ S ins x, S.length ≤ n → ins ≤ 32 → blk S ins = .ok x → Good x ins (2 * S.length + 1)) ∧
    (∀ S ind ins acc x, S.length ≤ n → ins < 32 → (∀ y ∈ acc, y.wrong = 0 ∧ y.depth + (ins + 1) ≤ 32) → items ind ins S acc = .ok x → Good x ins (v.sizeL acc + 2 * S.length + 1)) ∧
    (∀ S ind ins acc x, S.length ≤ n → ins < 32 → (∀ p ∈ acc, p.2.wrong = 0 ∧ p.2.depth + (ins + 1) ≤ 32) → (∀ y ∈ acc.map (·.1), v.textW y = 0) → (acc.map (·.1)).Nodup → pairs ind ins S acc = .ok x → Good x ins (v.sizeL (acc.map (·.2)) + 2 * S.length + 1)) := by
  intro n
  induction n with
  | zero =>
    refine ⟨fun S ins x h hi e => ?_, fun S ind ins acc x h hi hg e => ?_, fun S ind ins acc x h hi hg ht hn e => ?_⟩
    · obtain rfl := List.length_eq_zero_iff.1 (Nat.le_zero.1 h); rw [blk_nil] at e; cases e; exact good_z hi
    · obtain rfl := List.length_eq_zero_iff.1 (Nat.le_zero.1 h); rw [items.eq_def] at e; cases e; exact good_list hi hg (Nat.le_refl _)
    · obtain rfl := List.length_eq_zero_iff.1 (Nat.le_zero.1 h); rw [pairs.eq_def] at e; cases e; exact good_keys hi hg ht hn (Nat.le_refl _)
  | succ n ih =>
    obtain ⟨ihB, ihI, ihP⟩ := ih
    have hI : ∀ S ind ins acc x, S.length ≤ n + 1 → ins < 32 → (∀ y ∈ acc, y.wrong = 0 ∧ y.depth + (ins + 1) ≤ 32) → items ind ins S acc = .ok x → Good x ins (v.sizeL acc + 2 * S.length + 1) := fun S ind ins acc x h hi hg e => by
      cases S with
      | nil => rw [items.eq_def] at e; cases e; exact good_list hi hg (Nat.le_refl _)
      | cons r T =>
        have hT : T.length ≤ n := by rw [List.length_cons] at h; omega
        have h1 := seg_len (ind : Int) T
        have h2 := off_len (ind : Int) T
        have h3 : (seg (ind : Int) T).length + (off (ind : Int) T).length = T.length := by
          rw [off_drop, List.length_drop]; omega
        rw [items.eq_def] at e
        dsimp only at e
        by_cases hw : r.indent ≠ ind ∨ r.dash = false
        · rw [if_pos hw] at e; cases e
        rw [if_neg hw] at e
        cases hb : blk (seg ind T) (ins + 1) with
        | error er => rw [hb] at e; cases e
        | ok y =>
          rw [hb] at e
          have g := ihB (seg ind T) (ins + 1) y (by omega) (by omega) hb
          have g2 := ihI (off ind T) ind ins (acc ++ [y]) x (by omega) hi (fun z hz => by
            rcases List.mem_append.1 hz with hz | hz
            · exact hg z hz
            · rw [List.mem_singleton] at hz; subst hz; exact ⟨g.wr, g.dp⟩) e
          refine ⟨g2.wr, g2.dp, Nat.le_trans g2.sz ?_⟩
          have := g.sz
          rw [sizeL_snoc, List.length_cons]; omega
    have hP : ∀ S ind ins acc x, S.length ≤ n + 1 → ins < 32 → (∀ p ∈ acc, p.2.wrong = 0 ∧ p.2.depth + (ins + 1) ≤ 32) → (∀ y ∈ acc.map (·.1), v.textW y = 0) → (acc.map (·.1)).Nodup → pairs ind ins S acc = .ok x → Good x ins (v.sizeL (acc.map (·.2)) + 2 * S.length + 1) := fun S ind ins acc x h hi hg ht hn e => by
      cases S with
      | nil => rw [pairs.eq_def] at e; cases e; exact good_keys hi hg ht hn (Nat.le_refl _)
      | cons r T =>
        have hT : T.length ≤ n := by rw [List.length_cons] at h; omega
        have h1 := seg_len (ind : Int) T
        have h2 := off_len (ind : Int) T
        have h3 : (seg (ind : Int) T).length + (off (ind : Int) T).length = T.length := by
          rw [off_drop, List.length_drop]; omega
        rw [pairs.eq_def] at e
        dsimp only at e
        by_cases hw : r.indent ≠ ind ∨ r.dash = true
        · rw [if_pos hw] at e; cases e
        rw [if_neg hw] at e
        by_cases hc : (entM r.text).1 ≠ 0
        · rw [if_pos hc] at e; cases e
        rw [if_neg hc] at e
        cases hm : (entM r.text).2 with
        | none => rw [hm] at e; cases e
        | some m =>
          rw [hm] at e
          dsimp only at e
          have hent : entM r.text = (0, some m) := by
            rw [← hm, ← (show (entM r.text).1 = 0 by simpa using hc)]
          by_cases hk : keyE m (acc.map (·.1)) ≠ 0
          · rw [if_pos hk] at e; cases e
          rw [if_neg hk] at e
          obtain ⟨k1, k2⟩ := key_ok hent (by simpa using hk)
          have ht2 : ∀ z : v.V, ∀ y ∈ (acc ++ [(tx m.key, z)]).map (·.1), v.textW y = 0 := fun z y hy => by
            rw [List.map_append] at hy
            rcases List.mem_append.1 hy with hy | hy
            · exact ht y hy
            · simp at hy; subst hy; exact k1
          have hn2 : ∀ z : v.V, ((acc ++ [(tx m.key, z)]).map (·.1)).Nodup := fun z => by
            rw [List.map_append, List.nodup_append]
            refine ⟨hn, by simp, fun a ha b hb => ?_⟩
            simp at hb
            subst hb
            intro e2
            subst e2
            exact k2 ha
          by_cases hb : m.behind = []
          · rw [if_pos hb] at e
            cases hbl : blk (seg ind T) (ins + 1) with
            | error er => rw [hbl] at e; cases e
            | ok y =>
              rw [hbl] at e
              have g := ihB (seg ind T) (ins + 1) y (by omega) (by omega) hbl
              have g2 := ihP (off ind T) ind ins (acc ++ [(tx m.key, y)]) x (by omega) hi (fun z hz => by
                rcases List.mem_append.1 hz with hz | hz
                · exact hg z hz
                · rw [List.mem_singleton] at hz; subst hz; exact ⟨g.wr, g.dp⟩) (ht2 y) (hn2 y) e
              refine ⟨g2.wr, g2.dp, Nat.le_trans g2.sz ?_⟩
              have := g.sz
              rw [List.map_append, List.map_cons, List.map_nil, sizeL_snoc, List.length_cons]; dsimp only; omega
          · rw [if_neg hb] at e
            by_cases hs : (scM m.behind (ins + 1)).1 ≠ 0
            · rw [if_pos hs] at e; cases e
            rw [if_neg hs] at e
            have g := scM_good (l := m.behind) (ins := ins + 1) (by omega) (by simpa using hs)
            have g2 := ihP T ind ins (acc ++ [(tx m.key, (scM m.behind (ins + 1)).2)]) x (by omega) hi (fun z hz => by
                rcases List.mem_append.1 hz with hz | hz
                · exact hg z hz
                · rw [List.mem_singleton] at hz; subst hz; exact ⟨g.wr, g.dp⟩) (ht2 _) (hn2 _) e
            refine ⟨g2.wr, g2.dp, Nat.le_trans g2.sz ?_⟩
            have := g.sz
            rw [List.map_append, List.map_cons, List.map_nil, sizeL_snoc, List.length_cons]; dsimp only; omega
    refine ⟨fun S ins x h hi e => ?_, hI, hP⟩
    cases S with
    | nil => rw [blk_nil] at e; cases e; exact good_z hi
    | cons r T =>
      rw [blk.eq_def] at e
      dsimp only at e
      by_cases hd : r.dash = true
      · rw [if_pos hd] at e
        by_cases h32 : 32 ≤ ins
        · rw [if_pos h32] at e; cases e
        rw [if_neg h32] at e
        have g := hI (r :: T) r.indent ins [] x h (by omega) (fun y hy => by cases hy) e
        exact ⟨g.wr, g.dp, by have := g.sz; simp only [v.sizeL] at this; omega⟩
      rw [if_neg hd] at e
      by_cases hc : (entM r.text).1 ≠ 0
      · rw [if_pos hc] at e; cases e
      rw [if_neg hc] at e
      by_cases hk : (entM r.text).2.isSome = true
      · rw [if_pos hk] at e
        by_cases h32 : 32 ≤ ins
        · rw [if_pos h32] at e; cases e
        rw [if_neg h32] at e
        have g := hP (r :: T) r.indent ins [] x h (by omega) (fun y hy => by cases hy) (fun y hy => by cases hy) List.nodup_nil e
        exact ⟨g.wr, g.dp, by have := g.sz; simp only [List.map_nil, v.sizeL] at this; omega⟩
      rw [if_neg hk] at e
      by_cases hs : (scM r.text ins).1 ≠ 0
      · rw [if_pos hs] at e; cases e
      rw [if_neg hs] at e
      cases T with
      | nil =>
        cases e
        have g := scM_good (l := r.text) (ins := ins) hi (by simpa using hs)
        exact ⟨g.wr, g.dp, by have := g.sz; simp only [List.length_cons, List.length_nil]; omega⟩
      | cons r2 T2 => cases e
theorem blk_check {S : List Rw} {x : v.V} (h : blk S 0 = .ok x) : x.check = 0 ∧ x.size ≤ 2 * S.length + 1 := by
  have g := (good_all S.length).1 S 0 x (Nat.le_refl _) (by omega) h
  refine ⟨?_, g.sz⟩
  unfold v.V.check
  rw [if_neg (by have := g.dp; omega), g.wr]
end y
namespace y
theorem colon_bd : ∀ (l : List UInt8) (i : Nat), colon l = some i → i < l.length
  | [], i, h => by rw [colon] at h; cases h
  | c :: r, i, h => by
    rw [colon] at h
    split at h
    · cases h; simp
    · cases hr : colon r with
      | none => rw [hr] at h; cases h
      | some k =>
        rw [hr] at h
        have := colon_bd r k hr
        simp at h
        simp; omega
structure KRow (l : List UInt8) (m : Ent) (p : Nat) : Prop where
  lt : p < l.length
  sp : splitM l = ((p : Int), 0)
  be : m.behind = lead (l.drop (p + 1))
  how : (m.quoted = true ∧ (l.take p).head? = some 34 ∧ (unqF (l.take p)).1 = m.key ∧ (unqF (l.take p)).2.2 = 0) ∨ (m.quoted = false ∧ l.take p = m.key ∧ (l.take p).head? ≠ some 34)
theorem krow {l : List UInt8} {m : Ent} (h : entM l = (0, some m)) : ∃ p, KRow l m p := by
  unfold entM at h
  by_cases h34 : l.head? = some 34
  · rw [if_pos h34] at h
    by_cases hx : (unqF l).2.2 ≠ 0
    · rw [if_pos hx] at h; simp at h
    rw [if_neg hx] at h
    have hx0 : (unqF l).2.2 = 0 := by simpa using hx
    obtain ⟨q, rfl⟩ : ∃ q, l = 34 :: q := by
      cases l with
      | nil => cases h34
      | cons c q => exact ⟨q, by rw [show c = 34 by simpa using h34]⟩
    have hal := unq_alone q hx0
    have hpos : 0 < (unqF (34 :: q)).2.1 := by
      have hd : (unqF (34 :: q)).2.1 ≠ 0 := fun e => by
        rw [e, List.take_zero] at hal
        have := congrArg (fun x => x.2.2) hal
        rw [hx0] at this
        simp [unqF] at this
      omega
    cases hd : (34 :: q).drop (unqF (34 :: q)).2.1 with
    | nil => rw [hd] at h; simp [restE] at h
    | cons c t =>
      rw [hd] at h
      simp only [restE] at h
      by_cases hc : c.toNat = 58 ∧ endB t = true
      · rw [if_pos hc] at h
        simp only [Prod.mk.injEq, Option.some.injEq, true_and] at h
        have hlt : (unqF (34 :: q)).2.1 < (34 :: q).length := by
          have := congrArg List.length hd
          rw [List.length_drop] at this
          simp only [List.length_cons] at this ⊢
          omega
        have ht : (34 :: q).drop ((unqF (34 :: q)).2.1 + 1) = t := by
          rw [← List.drop_drop, hd]; rfl
        refine ⟨(unqF (34 :: q)).2.1, hlt, ?_, ?_, .inl ⟨?_, ?_, ?_, ?_⟩⟩
        · unfold splitM splitQ
          rw [if_pos h34, if_neg hx, hd]
          dsimp only
          rw [if_pos hc]
        · rw [ht, ← h]
        · rw [← h]
        · obtain ⟨k, hk⟩ : ∃ k, (unqF (34 :: q)).2.1 = k + 1 := ⟨(unqF (34 :: q)).2.1 - 1, by omega⟩
          rw [hk, List.take_succ_cons]; rfl
        · rw [hal, ← h]
        · rw [hal, hx0]
      · rw [if_neg hc] at h; simp at h
  · rw [if_neg h34] at h
    cases hc : colon l with
    | none => rw [hc] at h; simp at h
    | some i =>
      rw [hc] at h
      simp only [Prod.mk.injEq, Option.some.injEq, true_and] at h
      refine ⟨i, colon_bd l i hc, ?_, by rw [← h], .inr ⟨by rw [← h], by rw [← h], fun e => h34 ?_⟩⟩
      · unfold splitM splitP
        rw [if_neg h34, hc]
      · cases l with
        | nil => simp at e
        | cons c q => cases i with
          | zero => simp at e
          | succ i => simpa using e
theorem krow_none {l : List UInt8} (h : entM l = (0, none)) : splitM l = (-1, 0) := by
  unfold entM at h
  unfold splitM
  by_cases h34 : l.head? = some 34
  · rw [if_pos h34] at h ⊢
    unfold splitQ
    by_cases hx : (unqF l).2.2 ≠ 0
    · rw [if_pos hx] at h; exact absurd (congrArg (·.1) h) hx
    rw [if_neg hx] at h ⊢
    cases hd : l.drop (unqF l).2.1 with
    | nil => rfl
    | cons c t =>
      rw [hd] at h
      simp only [restE] at h
      by_cases hc : c.toNat = 58 ∧ endB t = true
      · rw [if_pos hc] at h; simp at h
      · rw [if_neg hc] at h; simp at h
  · rw [if_neg h34] at h ⊢
    unfold splitP
    cases hc : colon l with
    | none => rfl
    | some i => rw [hc] at h; simp at h
def Told (S : List Rw) (er : Nat × Int) : Prop := er.2 ≠ 0 ∧ ∃ r ∈ S, er.1 = r.line
theorem Told.mono {S T : List Rw} {er : Nat × Int} (h : Told S er) (hs : ∀ r ∈ S, r ∈ T) : Told T er := ⟨h.1, let ⟨r, hr, e⟩ := h.2; ⟨r, hs r hr, e⟩⟩
theorem seg_mem {ind : Int} {S : List Rw} {r : Rw} (h : r ∈ seg ind S) : r ∈ S := (List.takeWhile_prefix _).subset h
theorem off_mem {ind : Int} {S : List Rw} {r : Rw} (h : r ∈ off ind S) : r ∈ S := (List.dropWhile_suffix _).subset h
theorem told_all : ∀ n : Nat, (∀ S ins er, S.length ≤ n → blk S ins = .error er → Told S er) ∧
    (∀ S ind ins acc er, S.length ≤ n → items ind ins S acc = .error er → Told S er) ∧
    (∀ S ind ins acc er, S.length ≤ n → pairs ind ins S acc = .error er → Told S er) := by
  intro n
  induction n with
  | zero =>
    refine ⟨fun S ins er h e => ?_, fun S ind ins acc er h e => ?_, fun S ind ins acc er h e => ?_⟩
    · obtain rfl := List.length_eq_zero_iff.1 (Nat.le_zero.1 h); rw [blk_nil] at e; cases e
    · obtain rfl := List.length_eq_zero_iff.1 (Nat.le_zero.1 h); rw [items.eq_def] at e; cases e
    · obtain rfl := List.length_eq_zero_iff.1 (Nat.le_zero.1 h); rw [pairs.eq_def] at e; cases e
  | succ n ih =>
    obtain ⟨ihB, ihI, ihP⟩ := ih
    have hI : ∀ S ind ins acc er, S.length ≤ n + 1 → items ind ins S acc = .error er → Told S er := fun S ind ins acc er h e => by
      cases S with
      | nil => rw [items.eq_def] at e; cases e
      | cons r T =>
        have hT : T.length ≤ n := by rw [List.length_cons] at h; omega
        have h1 := seg_len (ind : Int) T
        have h2 := off_len (ind : Int) T
        rw [items.eq_def] at e
        dsimp only at e
        by_cases hw : r.indent ≠ ind ∨ r.dash = false
        · rw [if_pos hw] at e; cases e; exact ⟨by simp, r, by simp, rfl⟩
        rw [if_neg hw] at e
        cases hb : blk (seg ind T) (ins + 1) with
        | error er2 => rw [hb] at e; cases e; exact (ihB _ _ _ (by omega) hb).mono fun x hx => List.mem_cons_of_mem _ (seg_mem hx)
        | ok y => rw [hb] at e; exact (ihI _ _ _ _ _ (by omega) e).mono fun x hx => List.mem_cons_of_mem _ (off_mem hx)
    have hP : ∀ S ind ins acc er, S.length ≤ n + 1 → pairs ind ins S acc = .error er → Told S er := fun S ind ins acc er h e => by
      cases S with
      | nil => rw [pairs.eq_def] at e; cases e
      | cons r T =>
        have hT : T.length ≤ n := by rw [List.length_cons] at h; omega
        have h1 := seg_len (ind : Int) T
        have h2 := off_len (ind : Int) T
        rw [pairs.eq_def] at e
        dsimp only at e
        by_cases hw : r.indent ≠ ind ∨ r.dash = true
        · rw [if_pos hw] at e; cases e; exact ⟨by simp, r, by simp, rfl⟩
        rw [if_neg hw] at e
        by_cases hc : (entM r.text).1 ≠ 0
        · rw [if_pos hc] at e; cases e; exact ⟨hc, r, by simp, rfl⟩
        rw [if_neg hc] at e
        cases hm : (entM r.text).2 with
        | none => rw [hm] at e; cases e; exact ⟨by simp, r, by simp, rfl⟩
        | some m =>
          rw [hm] at e
          dsimp only at e
          by_cases hk : keyE m (acc.map (·.1)) ≠ 0
          · rw [if_pos hk] at e; cases e; exact ⟨hk, r, by simp, rfl⟩
          rw [if_neg hk] at e
          by_cases hb : m.behind = []
          · rw [if_pos hb] at e
            cases hbl : blk (seg ind T) (ins + 1) with
            | error er2 => rw [hbl] at e; cases e; exact (ihB _ _ _ (by omega) hbl).mono fun x hx => List.mem_cons_of_mem _ (seg_mem hx)
            | ok y => rw [hbl] at e; exact (ihP _ _ _ _ _ (by omega) e).mono fun x hx => List.mem_cons_of_mem _ (off_mem hx)
          · rw [if_neg hb] at e
            by_cases hs : (scM m.behind (ins + 1)).1 ≠ 0
            · rw [if_pos hs] at e; cases e; exact ⟨hs, r, by simp, rfl⟩
            rw [if_neg hs] at e
            exact (ihP _ _ _ _ _ (by omega) e).mono fun x hx => List.mem_cons_of_mem _ hx
    refine ⟨fun S ins er h e => ?_, hI, hP⟩
    cases S with
    | nil => rw [blk_nil] at e; cases e
    | cons r T =>
      rw [blk.eq_def] at e
      dsimp only at e
      by_cases hd : r.dash = true
      · rw [if_pos hd] at e
        by_cases h32 : 32 ≤ ins
        · rw [if_pos h32] at e; cases e; exact ⟨by simp, r, by simp, rfl⟩
        rw [if_neg h32] at e
        exact hI _ _ _ _ _ h e
      rw [if_neg hd] at e
      by_cases hc : (entM r.text).1 ≠ 0
      · rw [if_pos hc] at e; cases e; exact ⟨hc, r, by simp, rfl⟩
      rw [if_neg hc] at e
      by_cases hk : (entM r.text).2.isSome = true
      · rw [if_pos hk] at e
        by_cases h32 : 32 ≤ ins
        · rw [if_pos h32] at e; cases e; exact ⟨by simp, r, by simp, rfl⟩
        rw [if_neg h32] at e
        exact hP _ _ _ _ _ h e
      rw [if_neg hk] at e
      by_cases hs : (scM r.text ins).1 ≠ 0
      · rw [if_pos hs] at e; cases e; exact ⟨hs, r, by simp, rfl⟩
      rw [if_neg hs] at e
      cases T with
      | nil => cases e
      | cons r2 T2 => cases e; exact ⟨by simp, r2, by simp, rfl⟩
theorem cutP_lines {R : List Rw} {a e : Nat} {r : Rw} (h : r ∈ cutP R a e) : r.line < R.length := by
  have h1 : r ∈ posR 0 R := List.mem_of_mem_drop (List.mem_of_mem_take h)
  obtain ⟨i, hi, e2⟩ := List.getElem_of_mem h1
  rw [posR_len] at hi
  rw [posR_get R 0 i hi] at e2
  rw [← e2]
  show 0 + i < R.length
  omega
theorem blk_told {R : List Rw} {a e ins : Nat} {er : Nat × Int} (h : blk (cutP R a e) ins = .error er) : er.2 ≠ 0 ∧ er.1 < R.length := by
  obtain ⟨h1, r, hr, h2⟩ := (told_all _).1 _ _ _ (Nat.le_refl _) h
  exact ⟨h1, by rw [h2]; exact cutP_lines hr⟩
end y
namespace y
open Go.ChangeShapes Go.WideShapes Go.ChangeAt Go.RowKit
variable {w : World}
theorem RowsAt0.move {w w' : World} {a : Option Addr} {c : Nat} {R : List Rw} (h : RowsAt0 w a c R) (f : Fresh w w') : RowsAt0 w' a c R := by
  obtain ⟨h1, h2, h3⟩ := h
  refine ⟨h1, h2, h3.imp_right ?_⟩
  rintro ⟨g, e, hg, hr⟩
  exact ⟨g, e, Nat.lt_of_lt_of_le hg f.size, fun i hi j u hu => (Wr.of_fresh (p := fun _ => False) f).cell id (hr i hi j u hu)⟩
def RBIs (w : World) (x : Res) (e : Ending) (w' : World) : Prop := (match x with
  | .error er => e = rblk (0, false, 0, ⟨#[]⟩) er.1 er.2
  | .ok y => ∃ m : v.M, e = .returned (.tuple #[m.val, .int .i64 0, .int .i64 0]) ∧ m.plain = y ∧ m.New w.heap.size w') ∧ Fresh w w'
def RBP (w : World) (x : Res) (e : Ending) (w' : World) : Prop :=
  (∃ (p : Nat) (c : Int), x = .error (p, c) ∧ e = .returned (.tuple #[.agg #[.int .i64 0, .bool false, .int .i64 0, .string ⟨#[]⟩, .slice none 0 0, .slice none 0 0], .int .i64 (p : Int), .int .i64 c]) ∧ Fresh w w') ∨
  ∃ (y : v.V) (mk : Int) (mf : Bool) (mn : Int) (ms : ByteArray) (mla : Option Addr) (mlc : Nat) (ml : List v.M) (mka : Option Addr) (mkc : Nat) (mks : List (ByteArray × v.M)),
    e = .returned (.tuple #[.agg #[.int .i64 mk, .bool mf, .int .i64 mn, .string ms, .slice mla ml.length mlc, .slice mka mks.length mkc], .int .i64 0, .int .i64 0]) ∧
    (x = .ok y ∧ (v.M.mk mk mf mn ms mla mlc ml mka mkc mks).plain = y ∧ (v.M.mk mk mf mn ms mla mlc ml mka mkc mks).New w.heap.size w') ∧ Fresh w w'
theorem rbp {w : World} {x : Res} {e : Ending} {w' : World} (h : RBIs w x e w') : RBP w x e w' := by
  cases x with
  | error er => exact .inl ⟨er.1, er.2, rfl, h.1, h.2⟩
  | ok y =>
    obtain ⟨⟨m, he, hp, hn⟩, hw⟩ := h
    obtain ⟨mk, mf, mn, ms, mla, mlc, ml, mka, mkc, mks⟩ := m
    exact .inr ⟨y, mk, mf, mn, ms, mla, mlc, ml, mka, mkc, mks, he, ⟨rfl, hp, hn⟩, hw⟩
def SayR (n : Nat) : Prop := ∀ (R : List Rw) (a : Option Addr) (c at0 e0 ins : Nat) (w : World), RowsAt0 w a c R → Fine R → at0 ≤ e0 → e0 ≤ R.length → e0 - at0 ≤ n → ins ≤ 32 →
  Calls Tryz.prog 28 #[.slice a R.length c, .int .i64 (at0 : Int), .int .i64 (e0 : Int), .int .i64 (ins : Int)] w (RBIs w (blk (cutP R at0 e0) ins))
abbrev lcells (a : Option Addr) (n c : Nat) : Array Value := #[.int .i64 4, .bool false, .int .i64 0, .string ⟨#[]⟩, .slice a n c, .slice none 0 0]
abbrev kcells (a : Option Addr) (n c : Nat) : Array Value := #[.int .i64 5, .bool false, .int .i64 0, .string ⟨#[]⟩, .slice none 0 0, .slice a n c]
structure SixF (w : World) (g : Nat) (u0 u1 u2 u3 u4 u5 : Value) : Prop where
  c0 : w.cell? ⟨g, 0, none⟩ = some u0
  c1 : w.cell? ⟨g, 1, none⟩ = some u1
  c2 : w.cell? ⟨g, 2, none⟩ = some u2
  c3 : w.cell? ⟨g, 3, none⟩ = some u3
  c4 : w.cell? ⟨g, 4, none⟩ = some u4
  c5 : w.cell? ⟨g, 5, none⟩ = some u5
  f : ∀ i, w.frozen? ⟨g, i, none⟩ = false
  lt : g < w.heap.size
theorem six_facts {w : World} {g : Nat} {u0 u1 u2 u3 u4 u5 : Value} {t : TypeId} (h : w.heap[g]? = some (.cells #[u0, u1, u2, u3, u4, u5] t (0, 0))) : SixF w g u0 u1 u2 u3 u4 u5 :=
  ⟨cell_of_at h rfl, cell_of_at h rfl, cell_of_at h rfl, cell_of_at h rfl, cell_of_at h rfl, cell_of_at h rfl, fun i => by simp [World.frozen?, h], v.lt_of_at h⟩
structure RListAt (w W : World) (R : List Rw) (ind ins from0 e0 sz : Nat) (xs : List v.M) (at1 : Nat) (la : Option Addr) (lc : Nat) : Prop where
  rb : RBox W sz
  vb : W.heap[sz + 1]? = some (.cells (lcells la xs.length lc) 36 (0, 0))
  own : W.ownsRow (sz + 2) 36 6 (.slice la xs.length lc) xs.length (v.mcells xs)
  ms : ∀ x ∈ xs, x.Off (sz + 1) (Value.slice la xs.length lc).ownBlock W
  fr : Fresh w W
  eq : items ind ins (cutP R from0 e0) [] = items ind ins (cutP R at1 e0) (xs.map v.M.plain)
  len : xs.length ≤ at1
  le : at1 ≤ e0
theorem at_setCell {w : World} {g i : Nat} {cs : Array Value} {t : TypeId} {z : Nat × Nat} {u : Value} (h : w.heap[g]? = some (.cells cs t z)) : (w.setCell ⟨g, i, none⟩ u).heap[g]? = some (.cells (cs.setIfInBounds i u) t z) := by
  simp [World.setCell, Array.getElem?_modify, h]
theorem RListAt.done {w W : World} {R : List Rw} {ind ins from0 e0 sz : Nat} {xs : List v.M} {la : Option Addr} {lc : Nat} (h : RListAt w W R ind ins from0 e0 sz xs e0 la lc) (hw : w.heap.size = sz) (hlen : e0 ≤ 1000000) (u0 u1 u2 u3 u4 u5 : Value) :
    RBIs w (items ind ins (cutP R from0 e0) []) (.returned (.tuple #[.agg #[.int .i64 4, .bool false, .int .i64 0, .string ⟨#[]⟩, .slice la xs.length lc, .slice none 0 0], .int .i64 0, .int .i64 0])) ((((((W.setCell ⟨sz, 0, none⟩ u0).setCell ⟨sz, 1, none⟩ u1).setCell ⟨sz, 2, none⟩ u2).setCell ⟨sz, 3, none⟩ u3).setCell ⟨sz, 4, none⟩ u4).setCell ⟨sz, 5, none⟩ u5) := by
  rw [h.eq, cutP_nil, items_nil]
  refine ⟨⟨.mk 4 false 0 ⟨#[]⟩ la lc xs none 0 [], rfl, ?_, ?_⟩, ?_⟩
  · show v.V.mk 4 false 0 ⟨#[]⟩ (v.plainL xs) (v.plainK []) = _
    rw [v.plainL_eq]; rfl
  · have hn : (v.M.mk 4 false 0 ⟨#[]⟩ la lc xs none 0 []).New (sz + 2) W := by
      refine .mk (by decide) (v.row_new (v.RowAt.owns h.own) (fun ad e => ?_)) (.nil _) ?_ (by simp) (fun _ h => by cases h) (fun x hx => (h.ms x hx).new (by omega)) (fun _ h => by cases h)
      · rcases h.own.2 with ⟨e1, _⟩ | ⟨g, cap, cur, e1, hB, _⟩
        · injection e1 with e1; rw [e1] at e; cases e
        · injection e1 with e1; rw [e1] at e; cases e; exact hB
      · have := h.len; omega
    rw [hw]
    exact (new_wr hn ((Wr.refl (fun k => k = sz) W).set6 (g := sz) (.inl rfl) u0 u1 u2 u3 u4 u5) (fun k e => by omega)).mono (by omega)
  · exact Wr.toFresh (p := fun k => w.heap.size ≤ k) ((Wr.of_fresh h.fr).set6 (.inl (Nat.le_of_eq hw)) _ _ _ _ _ _) (fun k hk h => by omega)
theorem RListAt.more {w W W3 W4 : World} {R : List Rw} {ind ins from0 e0 sz : Nat} {xs : List v.M} {at1 nx : Nat} {la : Option Addr} {lc : Nat} {m : v.M} {y : v.V} {g cap : Nat}
    (h : RListAt w W R ind ins from0 e0 sz xs at1 la lc) (hw : w.heap.size = sz) (hlt : at1 < e0) (he : e0 ≤ R.length) (h1 : (R[at1]'(by omega)).indent = ind) (h2 : (R[at1]'(by omega)).dash = true) (hnx : nx = nextP R ind (at1 + 1) e0)
    (hp : m.plain = y) (hy : blk (cutP R (at1 + 1) nx) (ins + 1) = .ok y) (hn : m.New W.heap.size W3) (f3 : Fresh W W3)
    (how : W4.ownsRow (sz + 2) 36 6 (.slice (some ⟨g, 0, none⟩) (xs.length + 1) cap) (xs.length + 1) (v.mcells xs ++ m.cells)) (hg : W3.grownBy W4 (Value.slice la xs.length lc).ownBlock) (hat : (Value.slice la xs.length lc).ownBlock = some g ∨ g = W3.heap.size) :
    RListAt w (W4.setCell ⟨sz + 1, 4, none⟩ (.slice (some ⟨g, 0, none⟩) (xs.length + 1) cap)) R ind ins from0 e0 sz (xs ++ [m]) nx (some ⟨g, 0, none⟩) cap := by
  have hs := f3.size
  have hlb := v.lt_of_at h.vb
  have hlo : ∀ k, (Value.slice la xs.length lc).ownBlock = some k → sz + 2 ≤ k ∧ k < W.heap.size := fun k e => World.ownsRow.lt h.own k e
  have fg : Wr (fun k => sz + 2 ≤ k) W3 W4 := (Wr.refl (fun k => sz + 2 ≤ k) _).grown hg (fun k e => .inl (hlo k e).1)
  have fW : Wr (fun k => sz + 2 ≤ k) W W4 := (Wr.of_fresh f3).then fg (fun k e => .inl e)
  obtain ⟨hnl, hnr⟩ := nextP_le R (ind : Int) (a := at1 + 1) (e := e0) (by omega)
  have hgs : sz + 2 ≤ g := by
    rcases hat with e | e
    · exact (hlo g e).1
    · omega
  have hb1 := fW.at (by omega) h.vb
  refine ⟨?_, ?_, ?_, ?_, ?_, ?_, ?_, ?_⟩
  · exact ((Wr.refl (fun k => k = sz + 1) W4).set (.inl rfl) _).at (by omega) (fW.at (by omega) h.rb)
  · have k := at_setCell (i := 4) (u := .slice (some ⟨g, 0, none⟩) (xs.length + 1) cap) hb1
    rw [k, List.length_append]
    rfl
  · rw [v.mcells_snoc, List.length_append]
    exact owns_wr how ((Wr.refl (fun k => k = sz + 1) W4).set (.inl rfl) _) (by omega)
  · intro x hx
    rw [show (Value.slice (some ⟨g, 0, none⟩ : Option Addr) (xs ++ [m]).length cap).ownBlock = some g from rfl]
    refine v.M.Off.set ?_
    rcases List.mem_append.1 hx with hx | hx
    · exact ((h.ms x hx).move f3).grown hg hat
    · rw [List.mem_singleton] at hx
      subst hx
      exact (hn.off (B := sz + 1) (g := (Value.slice la xs.length lc).ownBlock) (by omega) (fun k e => (hlo k e).2)).grown hg hat
  · refine Wr.toFresh (p := fun k => w.heap.size ≤ k) ((((Wr.of_fresh h.fr).then fW (fun k e => .inl (by omega)))).set (.inl (by omega)) _) (fun k hk h => by omega)
  · have st := items_step (ins := ins) (r := ⟨at1, (R[at1]'(by omega)).indent, (R[at1]'(by omega)).dash, (R[at1]'(by omega)).text⟩) (T := cutP R (at1 + 1) e0) (acc := xs.map v.M.plain) h1 h2
    rw [h.eq, cutP_cons hlt he, st]
    obtain ⟨s1, s2⟩ := cutP_seg R (ind : Int) (a := at1 + 1) (e := e0) (by omega) he
    rw [s1, s2, ← hnx, hy]
    simp only [List.map_append, List.map_cons, List.map_nil, hp]
  · rw [List.length_append]
    have := h.len
    simp only [List.length_cons, List.length_nil]; omega
  · omega
structure RKeysAt (w W : World) (R : List Rw) (ind ins from0 e0 sz b : Nat) (xs : List (ByteArray × v.M)) (at1 : Nat) (ka : Option Addr) (kc : Nat) : Prop where
  rb : RBox W sz
  vb : W.heap[b]? = some (.cells (kcells ka xs.length kc) 36 (0, 0))
  own : W.ownsRow (b + 1) 69 7 (.slice ka xs.length kc) xs.length (v.pcells xs)
  ms : ∀ p ∈ xs, p.2.Off b (Value.slice ka xs.length kc).ownBlock W
  ks : ∀ p ∈ xs, p.1.size ≤ 1000000
  fr : Fresh w W
  eq : pairs ind ins (cutP R from0 e0) [] = pairs ind ins (cutP R at1 e0) (xs.map plainP)
  len : xs.length ≤ at1
  le : at1 ≤ e0
  low : sz < b
theorem RKeysAt.mapAt {w W : World} {R : List Rw} {ind ins from0 e0 sz b : Nat} {xs : List (ByteArray × v.M)} {at1 : Nat} {ka : Option Addr} {kc : Nat} (h : RKeysAt w W R ind ins from0 e0 sz b xs at1 ka kc) (hlen : at1 ≤ 1000000) :
    (v.M.mk 5 false 0 ⟨#[]⟩ none 0 [] ka kc xs).At W := by
  refine .mk (by decide) (.nil _) (v.RowAt.owns h.own) (by simp) ?_ h.ks (fun _ h => by cases h) (fun p hp => (h.ms p hp).at)
  have := h.len; omega
theorem RKeysAt.plain (xs : List (ByteArray × v.M)) (ka : Option Addr) (kc : Nat) : (v.M.mk 5 false 0 ⟨#[]⟩ none 0 [] ka kc xs).plain = vKeys (xs.map plainP) := by
  show v.V.mk 5 false 0 ⟨#[]⟩ (v.plainL []) (v.plainK xs) = _
  rw [v.plainK_eq]; rfl
theorem RKeysAt.done {w W : World} {R : List Rw} {ind ins from0 e0 sz b : Nat} {xs : List (ByteArray × v.M)} {ka : Option Addr} {kc : Nat} (h : RKeysAt w W R ind ins from0 e0 sz b xs e0 ka kc) (hw : w.heap.size = sz) (hlen : e0 ≤ 1000000) (u0 u1 u2 u3 u4 u5 : Value) :
    RBIs w (pairs ind ins (cutP R from0 e0) []) (.returned (.tuple #[.agg #[.int .i64 5, .bool false, .int .i64 0, .string ⟨#[]⟩, .slice none 0 0, .slice ka xs.length kc], .int .i64 0, .int .i64 0])) ((((((W.setCell ⟨sz, 0, none⟩ u0).setCell ⟨sz, 1, none⟩ u1).setCell ⟨sz, 2, none⟩ u2).setCell ⟨sz, 3, none⟩ u3).setCell ⟨sz, 4, none⟩ u4).setCell ⟨sz, 5, none⟩ u5) := by
  rw [h.eq, cutP_nil, pairs_nil]
  refine ⟨⟨.mk 5 false 0 ⟨#[]⟩ none 0 [] ka kc xs, rfl, RKeysAt.plain xs ka kc, ?_⟩, ?_⟩
  · have hn : (v.M.mk 5 false 0 ⟨#[]⟩ none 0 [] ka kc xs).New (b + 1) W := by
      refine .mk (by decide) (.nil _) (v.row_new (v.RowAt.owns h.own) (fun ad e => ?_)) (by simp) ?_ h.ks (fun _ h => by cases h) (fun p hp => (h.ms p hp).new (by omega))
      · rcases h.own.2 with ⟨e1, _⟩ | ⟨g, cap, cur, e1, hB, _⟩
        · injection e1 with e1; rw [e1] at e; cases e
        · injection e1 with e1; rw [e1] at e; cases e; exact hB
      · have := h.len; omega
    have := h.low
    rw [hw]
    exact (new_wr hn ((Wr.refl (fun k => k = sz) W).set6 (g := sz) (.inl rfl) u0 u1 u2 u3 u4 u5) (fun k e => by omega)).mono (by omega)
  · exact Wr.toFresh (p := fun k => w.heap.size ≤ k) ((Wr.of_fresh h.fr).set6 (.inl (Nat.le_of_eq hw)) _ _ _ _ _ _) (fun k hk h => by omega)
def valM (R : List Rw) (ins at1 nx : Nat) (m : Ent) : Res :=
  if m.behind = [] then blk (cutP R (at1 + 1) nx) (ins + 1)
  else if (scM m.behind (ins + 1)).1 ≠ 0 then .error (at1, (scM m.behind (ins + 1)).1)
  else if at1 + 1 < nx then .error (at1 + 1, 6) else .ok (scM m.behind (ins + 1)).2
theorem pairs_val {R : List Rw} {ind ins e0 at1 : Nat} {m : Ent} {acc : List (ByteArray × v.V)} (hlt : at1 < e0) (he : e0 ≤ R.length) (h1 : (R[at1]'(by omega)).indent = ind) (h2 : (R[at1]'(by omega)).dash = false) (hm : entM (R[at1]'(by omega)).text = (0, some m)) (hk : keyE m (acc.map (·.1)) = 0) :
    pairs ind ins (cutP R at1 e0) acc = match valM R ins at1 (nextP R ind (at1 + 1) e0) m with
      | .error e => .error e
      | .ok y => pairs ind ins (cutP R (nextP R ind (at1 + 1) e0) e0) (acc ++ [(tx m.key, y)]) := by
  obtain ⟨s1, s2⟩ := cutP_seg R (ind : Int) (a := at1 + 1) (e := e0) (by omega) he
  obtain ⟨b1, b2⟩ := nextP_le R (ind : Int) (a := at1 + 1) (e := e0) (by omega)
  rw [cutP_cons hlt he, pairs, if_neg (by simp [h1, h2]), if_neg (by rw [hm]; simp), hm]
  unfold valM
  dsimp only
  rw [if_neg (by simp [hk])]
  by_cases hb : m.behind = []
  · rw [if_pos hb, if_pos hb, s1]
    cases blk (cutP R (at1 + 1) (nextP R (ind : Int) (at1 + 1) e0)) (ins + 1) with
    | error e => rfl
    | ok y => dsimp only; rw [s2]
  rw [if_neg hb, if_neg hb]
  by_cases hs : (scM m.behind (ins + 1)).1 ≠ 0
  · rw [if_pos hs, if_pos hs]
  rw [if_neg hs, if_neg hs]
  by_cases hn : at1 + 1 < nextP R (ind : Int) (at1 + 1) e0
  · rw [if_pos hn]
    dsimp only
    have hl : at1 + 1 < e0 := by omega
    rw [cutP_cons hl he, pairs_bad]
    left
    have hs2 := seg_at (ind : Int) R (at1 + 1) (by omega)
    unfold nextP at hn
    dsimp only
    by_cases hq : (ind : Int) < ((R[at1 + 1]'(by omega)).indent : Int)
    · omega
    · rw [if_neg hq] at hs2; omega
  · rw [if_neg hn]
    dsimp only
    have : nextP R (ind : Int) (at1 + 1) e0 = at1 + 1 := by omega
    rw [this]
theorem RKeysAt.more {w W W3 W4 : World} {R : List Rw} {ind ins from0 e0 sz b : Nat} {xs : List (ByteArray × v.M)} {at1 nx : Nat} {ka : Option Addr} {kc : Nat} {m : v.M} {e : Ent} {y : v.V} {g cap : Nat}
    (h : RKeysAt w W R ind ins from0 e0 sz b xs at1 ka kc) (hw : w.heap.size = sz) (hlt : at1 < e0) (he : e0 ≤ R.length) (h1 : (R[at1]'(by omega)).indent = ind) (h2 : (R[at1]'(by omega)).dash = false) (hm : entM (R[at1]'(by omega)).text = (0, some e)) (hk : keyE e (xs.map (·.1)) = 0) (hks : e.key.length ≤ 90000) (hnx : nx = nextP R ind (at1 + 1) e0)
    (hp : m.plain = y) (hy : valM R ins at1 nx e = .ok y) (hn : m.New W.heap.size W3) (f3 : Fresh W W3)
    (how : W4.ownsRow (b + 1) 69 7 (.slice (some ⟨g, 0, none⟩) (xs.length + 1) cap) (xs.length + 1) (v.pcells xs ++ v.pcellsOf (tx e.key, m))) (hg : W3.grownBy W4 (Value.slice ka xs.length kc).ownBlock) (hat : (Value.slice ka xs.length kc).ownBlock = some g ∨ g = W3.heap.size) :
    RKeysAt w (W4.setCell ⟨b, 5, none⟩ (.slice (some ⟨g, 0, none⟩) (xs.length + 1) cap)) R ind ins from0 e0 sz b (xs ++ [(tx e.key, m)]) nx (some ⟨g, 0, none⟩) cap := by
  have hs := f3.size
  have hlow := h.low
  have hlb := v.lt_of_at h.vb
  have hlo : ∀ k, (Value.slice ka xs.length kc).ownBlock = some k → b + 1 ≤ k ∧ k < W.heap.size := fun k e => World.ownsRow.lt h.own k e
  have fg : Wr (fun k => b + 1 ≤ k) W3 W4 := (Wr.refl (fun k => b + 1 ≤ k) _).grown hg (fun k e => .inl (hlo k e).1)
  have fW : Wr (fun k => b + 1 ≤ k) W W4 := (Wr.of_fresh f3).then fg (fun k e => .inl e)
  obtain ⟨hnl, hnr⟩ := nextP_le R (ind : Int) (a := at1 + 1) (e := e0) (by omega)
  have hgs : b + 1 ≤ g := by
    rcases hat with e | e
    · exact (hlo g e).1
    · omega
  have hb1 := fW.at (by omega) h.vb
  refine ⟨?_, ?_, ?_, ?_, ?_, ?_, ?_, ?_, ?_, hlow⟩
  · exact ((Wr.refl (fun k => k = b) W4).set (.inl rfl) _).at (by omega) (fW.at (by omega) h.rb)
  · have k := at_setCell (i := 5) (u := .slice (some ⟨g, 0, none⟩) (xs.length + 1) cap) hb1
    rw [k, List.length_append]
    rfl
  · rw [v.pcells_snoc, List.length_append]
    exact owns_wr how ((Wr.refl (fun k => k = b) W4).set (.inl rfl) _) (by omega)
  · intro x hx
    rw [show (Value.slice (some ⟨g, 0, none⟩ : Option Addr) (xs ++ [(tx e.key, m)]).length cap).ownBlock = some g from rfl]
    refine v.M.Off.set ?_
    rcases List.mem_append.1 hx with hx | hx
    · exact ((h.ms x hx).move f3).grown hg hat
    · rw [List.mem_singleton] at hx
      subst hx
      exact (hn.off (B := b) (g := (Value.slice ka xs.length kc).ownBlock) (by omega) (fun k e => (hlo k e).2)).grown hg hat
  · intro p hp2
    rcases List.mem_append.1 hp2 with hp2 | hp2
    · exact h.ks p hp2
    · rw [List.mem_singleton] at hp2
      subst hp2
      show (tx e.key).size ≤ 1000000
      rw [tx_size]; omega
  · refine Wr.toFresh (p := fun k => w.heap.size ≤ k) ((((Wr.of_fresh h.fr).then fW (fun k e => .inl (by omega)))).set (.inl (by omega)) _) (fun k hk h => by omega)
  · have hk2 : keyE e ((xs.map plainP).map (·.1)) = 0 := by rw [plainP_names]; exact hk
    rw [h.eq, pairs_val hlt he h1 h2 hm hk2, ← hnx, hy]
    simp only [List.map_append, List.map_cons, List.map_nil, plainP, hp]
  · rw [List.length_append]
    have := h.len
    simp only [List.length_cons, List.length_nil]; omega
  · omega
end y
end Go.Proofs.YtcljplkkgpjhlaaGreatDoorR
