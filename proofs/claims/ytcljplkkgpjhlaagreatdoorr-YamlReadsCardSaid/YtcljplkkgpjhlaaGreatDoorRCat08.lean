/-
  Parts of the proof: UtfM Chars Unq2 Unq3 Unq4 Num.
-/
import Derived.Test.YtcljplkkgpjhlaaGreatDoorRCat07
import Derived.Lib.ParseIntB
import Derived.Lib.Strings
import GoSem.Op.String
set_option maxRecDepth 100000
set_option maxHeartbeats 8000000
namespace Go.Proofs.YtcljplkkgpjhlaaGreatDoorR
section
open Go.ChangeShapes Go.WideShapes Go.ChangeAt Go.RowKit
variable {w : World}
def contOK : List UInt8 → Nat → Nat → Nat → Bool
  | _, 0, _, _ => true
  | [], _ + 1, _, _ => false
  | b :: l, n + 1, lo, hi => decide (lo ≤ b.toNat ∧ b.toNat ≤ hi) && contOK l n 128 191
theorem valid_lead (c : UInt8) (l : List UInt8) (n lo hi : Nat) (hc : 128 ≤ c.toNat) (hn : n = 1 ∨ n = 2 ∨ n = 3) (h1 : Lib.firstT c.toNat % 8 = n + 1) (h2 : Lib.accLo (Lib.firstT c.toNat / 16) = lo) (h3 : Lib.accHi (Lib.firstT c.toNat / 16) = hi) :
    Lib.validD (c :: l) = (contOK l n lo hi && Lib.validD (l.drop n)) := by
  rw [Lib.validD_lead (c :: l) (by simp) (by simpa using hc)]
  simp only [List.getD_cons_zero, List.getD_cons_succ, h1, h2, h3]
  rcases hn with rfl | rfl | rfl
  · rcases l with _ | ⟨a, l⟩
    · simp [Lib.checkN, contOK]
    · by_cases ha : lo ≤ a.toNat ∧ a.toNat ≤ hi
      · rw [Lib.checkN, if_pos rfl, if_neg (by simp; omega)]
        simp [contOK, ha]
      · rw [Lib.checkN, if_pos rfl, if_pos (by simp; omega)]
        simp [contOK, ha]
  · rcases l with _ | ⟨a, _ | ⟨b, l⟩⟩
    · simp [Lib.checkN, contOK]
    · simp [Lib.checkN, contOK]
    · by_cases ha : lo ≤ a.toNat ∧ a.toNat ≤ hi
      · by_cases hb : 128 ≤ b.toNat ∧ b.toNat ≤ 191
        · rw [Lib.checkN, if_neg (by omega), if_pos rfl, if_neg (by simp; omega)]
          simp [contOK, ha, hb]
        · rw [Lib.checkN, if_neg (by omega), if_pos rfl, if_pos (by simp; omega)]
          simp [contOK, hb]
      · rw [Lib.checkN, if_neg (by omega), if_pos rfl, if_pos (by simp; omega)]
        simp [contOK, ha]
  · rcases l with _ | ⟨a, _ | ⟨b, _ | ⟨d, l⟩⟩⟩
    · simp [Lib.checkN, contOK]
    · simp [Lib.checkN, contOK]
    · simp [Lib.checkN, contOK]
    · by_cases ha : lo ≤ a.toNat ∧ a.toNat ≤ hi
      · by_cases hb : 128 ≤ b.toNat ∧ b.toNat ≤ 191
        · by_cases hd : 128 ≤ d.toNat ∧ d.toNat ≤ 191
          · rw [Lib.checkN, if_neg (by omega), if_neg (by omega), if_pos rfl, if_neg (by simp; omega)]
            simp [contOK, ha, hb, hd]
          · rw [Lib.checkN, if_neg (by omega), if_neg (by omega), if_pos rfl, if_pos (by simp; omega)]
            simp [contOK, hd]
        · rw [Lib.checkN, if_neg (by omega), if_neg (by omega), if_pos rfl, if_pos (by simp; omega)]
          simp [contOK, hb]
      · rw [Lib.checkN, if_neg (by omega), if_neg (by omega), if_pos rfl, if_pos (by simp; omega)]
        simp [contOK, ha]
theorem valid_bad (c : UInt8) (l : List UInt8) (hc : 128 ≤ c.toNat) (h1 : Lib.firstT c.toNat = 241) : Lib.validD (c :: l) = false := by
  rw [Lib.validD_lead (c :: l) (by simp) (by simpa using hc)]
  simp [Lib.checkN, h1]
theorem drop_at (s : ByteArray) (i : Nat) (h : i < s.size) : s.data.toList.drop i = s[i] :: s.data.toList.drop (i + 1) := by
  rw [List.drop_eq_getElem_cons (by simpa using h)]; rfl
def Lead (s : ByteArray) (i n lo hi : Nat) : Prop := Lib.validD (s.data.toList.drop i) = (contOK (s.data.toList.drop (i + 1)) n lo hi && Lib.validD (s.data.toList.drop (i + 1 + n)))
theorem lead_of (s : ByteArray) (i n lo hi : Nat) (h : i < s.size) (hc : 128 ≤ s[i].toNat) (hn : n = 1 ∨ n = 2 ∨ n = 3) (h1 : Lib.firstT s[i].toNat % 8 = n + 1) (h2 : Lib.accLo (Lib.firstT s[i].toNat / 16) = lo) (h3 : Lib.accHi (Lib.firstT s[i].toNat / 16) = hi) : Lead s i n lo hi := by
  unfold Lead
  rw [drop_at s i h, valid_lead _ _ n lo hi hc hn h1 h2 h3, List.drop_drop]
theorem lead_ascii (s : ByteArray) (i : Nat) (h : i < s.size) (hc : s[i].toNat < 128) : Lead s i 0 128 191 := by
  unfold Lead
  rw [drop_at s i h, Lib.validD_cons _ _ hc, contOK, Bool.true_and, Nat.add_zero]
theorem lead_bad (s : ByteArray) (i : Nat) (h : i < s.size) (hc : 128 ≤ s[i].toNat) (h1 : Lib.firstT s[i].toNat = 241) : Lib.validD (s.data.toList.drop i) = false := by
  rw [drop_at s i h, valid_bad _ _ hc h1]
def Cont (s : ByteArray) (i n lo hi k lo' hi' : Nat) : Prop := contOK (s.data.toList.drop (i + 1)) n lo hi = contOK (s.data.toList.drop (i + k)) (n + 1 - k) lo' hi'
theorem cont_short {s : ByteArray} {i n lo hi k lo' hi' : Nat} (h : Cont s i n lo hi k lo' hi') (hk : k ≤ n) (hs : s.size ≤ i + k) : contOK (s.data.toList.drop (i + 1)) n lo hi = false := by
  rw [h, List.drop_eq_nil_of_le (by simpa using hs), show n + 1 - k = (n - k) + 1 by omega, contOK]
theorem cont_no {s : ByteArray} {i n lo hi k lo' hi' : Nat} (h : Cont s i n lo hi k lo' hi') (hk : k ≤ n) (hs : i + k < s.size) (hb : s[i + k].toNat < lo' ∨ hi' < s[i + k].toNat) : contOK (s.data.toList.drop (i + 1)) n lo hi = false := by
  rw [h, drop_at s (i + k) hs, show n + 1 - k = (n - k) + 1 by omega, contOK, decide_eq_false (by omega), Bool.false_and]
theorem cont_yes {s : ByteArray} {i n lo hi k lo' hi' : Nat} (h : Cont s i n lo hi k lo' hi') (hk : k ≤ n) (hs : i + k < s.size) (hb : lo' ≤ s[i + k].toNat ∧ s[i + k].toNat ≤ hi') : Cont s i n lo hi (k + 1) 128 191 := by
  unfold Cont at h ⊢
  rw [h, drop_at s (i + k) hs, show n + 1 - k = (n - k) + 1 by omega, contOK, decide_eq_true hb, Bool.true_and, show n + 1 - (k + 1) = n - k by omega, Nat.add_assoc]
theorem cont_end {s : ByteArray} {i n lo hi lo' hi' : Nat} (h : Cont s i n lo hi (n + 1) lo' hi') : contOK (s.data.toList.drop (i + 1)) n lo hi = true := by
  rw [h, Nat.sub_self, contOK]
end
section
open Go.Lib
theorem dec_bs (l : List UInt8) (h : l ≠ []) : decodeGo (bs l) = decodeN l.length (l.getD 0 0).toNat (l.getD 1 0).toNat (l.getD 2 0).toNat (l.getD 3 0).toNat := by
  have hs : (bs l).size ≠ 0 := by rw [bs_size]; exact fun e => h (List.eq_nil_of_length_eq_zero e)
  have g : ∀ i, (bs l).get! i = l.getD i 0 := fun i => by
    simp [bs, ByteArray.get!, List.getD_eq_getElem?_getD]
    rfl
  rw [decodeGo, if_neg hs, decode_at, Nat.sub_zero, bs_size, g, g, g, g]
structure Tail (c : UInt8) (cs : List UInt8) : Prop where
  high : ∀ b ∈ cs, 128 ≤ b.toNat
  valid : validD (c :: cs) = true
  len : cs.length ≤ 3
  dec : ∀ rest, (decodeGo (bs (c :: cs ++ rest))).2 = (c :: cs).length
end
section
open Go.ChangeShapes Go.WideShapes Go.ChangeAt Go.RowKit
attribute [local go_sem ↓] Go.wp_at_zero Go.wp_at_succ
variable {w : World}
def After (w : World) (b : Nat) (text : List UInt8) (x : Int × List UInt8 × List UInt8) (e : Ending) (w' : World) : Prop := e = .returned (.int .i64 x.1) ∧ (x.1 = 0 → ∃ v, Rdr w' b x.2.2 v (text ++ x.2.1)) ∧ Below b w w'
theorem After.of_reads {w : World} {b : Nat} {text m rest : List UInt8} {e : Ending} {w' : World} (h : Reads w b rest (text ++ m) 0 e w') : After w b text (0, m, rest) e w' := ⟨h.1, fun _ => h.2.1, h.2.2⟩
theorem rune_vals (n : Int) : Lib.runeCells n = vals (Lib.encodeRune n) ∧ 0 < (Lib.encodeRune n).length ∧ (Lib.encodeRune n).length ≤ 4 := by
  have h1 := Lib.byteCells_encodeRune n
  have h2 := Lib.runeCells_le n
  rw [Lib.runeCells_length] at h2
  exact ⟨h1.symm, h2.1, h2.2⟩
def byNumF (l : List UInt8) : Int × List UInt8 × List UInt8 :=
  if (numF 4 0 l).1 ≠ 0 then ((numF 4 0 l).1, [], [])
  else if firstB (numF 4 0 l).2.1 = true then
    (if (otherF (numF 4 0 l).2.1 (numF 4 0 l).2.2).1 ≠ 0 then ((otherF (numF 4 0 l).2.1 (numF 4 0 l).2.2).1, [], []) else (0, Lib.encodeRune (otherF (numF 4 0 l).2.1 (numF 4 0 l).2.2).2.1, (otherF (numF 4 0 l).2.1 (numF 4 0 l).2.2).2.2))
  else if secondB (numF 4 0 l).2.1 = true then (10, [], []) else (0, Lib.encodeRune (numF 4 0 l).2.1, (numF 4 0 l).2.2)
theorem otherF_bd (f : Int) (l : List UInt8) (h0 : 55296 ≤ f) (h1 : f < 56320) : ((otherF f l).1 ≠ 0 → (otherF f l).2.1 = 0) ∧ ((otherF f l).1 = 0 → 65536 ≤ (otherF f l).2.1 ∧ (otherF f l).2.1 ≤ 1114111) := by
  unfold otherF
  by_cases a : l.isPrefixOf [92, 117] = true
  · rw [if_pos a]; exact ⟨fun _ => rfl, fun e => by simp at e⟩
  rw [if_neg a]
  by_cases b : ([92, 117] : List UInt8).isPrefixOf l = false
  · rw [if_pos b]; exact ⟨fun _ => rfl, fun e => by simp at e⟩
  rw [if_neg b]
  generalize numF 4 0 (l.drop 2) = F
  by_cases c : F.1 ≠ 0
  · rw [if_pos c]; exact ⟨fun _ => rfl, fun e => absurd e c⟩
  rw [if_neg c]
  by_cases d : secondB F.2.1 = false
  · rw [if_pos d]; exact ⟨fun _ => rfl, fun e => by simp at e⟩
  rw [if_neg d]
  have hs : 56320 ≤ F.2.1 ∧ F.2.1 < 57344 := by
    cases hb : secondB F.2.1 with
    | false => exact absurd hb d
    | true => exact of_decide_eq_true hb
  exact ⟨fun e => absurd rfl e, fun _ => by dsimp only; omega⟩
theorem byNum_err (l : List UInt8) (h : (numF 4 0 l).1 ≠ 0) : byNumF l = ((numF 4 0 l).1, [], []) := by rw [byNumF, if_pos h]
theorem byNum_one (l : List UInt8) (h : (numF 4 0 l).1 = 0) (h1 : firstB (numF 4 0 l).2.1 = false) (h2 : secondB (numF 4 0 l).2.1 = false) : byNumF l = (0, Lib.encodeRune (numF 4 0 l).2.1, (numF 4 0 l).2.2) := by
  rw [byNumF, if_neg (by simpa using h), if_neg (by rw [h1]; simp), if_neg (by rw [h2]; simp)]
theorem byNum_sec (l : List UInt8) (h : (numF 4 0 l).1 = 0) (h1 : firstB (numF 4 0 l).2.1 = false) (h2 : secondB (numF 4 0 l).2.1 = true) : byNumF l = (10, [], []) := by
  rw [byNumF, if_neg (by simpa using h), if_neg (by rw [h1]; simp), if_pos h2]
theorem byNum_pair (l : List UInt8) (h : (numF 4 0 l).1 = 0) (h1 : firstB (numF 4 0 l).2.1 = true) : byNumF l = if (otherF (numF 4 0 l).2.1 (numF 4 0 l).2.2).1 ≠ 0 then ((otherF (numF 4 0 l).2.1 (numF 4 0 l).2.2).1, [], []) else (0, Lib.encodeRune (otherF (numF 4 0 l).2.1 (numF 4 0 l).2.2).2.1, (otherF (numF 4 0 l).2.1 (numF 4 0 l).2.2).2.2) := by
  rw [byNumF, if_neg (by simpa using h), if_pos h1]
theorem byNumber_all (b : Nat) (l : List UInt8) (v : Value) (text : List UInt8) (w : World) (hl : text.length ≤ 100000) (h : Rdr w b l v text) :
    Calls Tryz.prog 145 #[.pointer (some ⟨b, 0, none⟩)] w (After w b text (byNumF l)) := by
  have HN := Lib.hid (number_all b l v text w h)
  have he := numF_err 4 0 l
  have hb := numF_four l
  have k0 := byNum_err l
  have k1 := byNum_one l
  have k2 := byNum_sec l
  have k3 := byNum_pair l
  have hlt := lt_of_at h.box
  clear h
  generalize byNumF l = Z at *
  generalize numF 4 0 l = F at *
  obtain ⟨x, n, r⟩ := F
  dsimp only at HN he hb k0 k1 k2 k3
  obtain ⟨n0, n1⟩ := hb
  have hn2 : n ≤ 2000000 := by omega
  by_cases hx : x = 0
  · subst hx
    have HS := Lib.hid (fun W => second_all n W n0 hn2)
    have HF := Lib.hid (fun W => first_all n W n0 hn2)
    cases hf : firstB n with
    | false =>
      rw [hf] at HF
      cases hs : secondB n with
      | true =>
        rw [hs] at HS
        have HX := Lib.hid (k2 rfl hf hs)
        clear k0 k1 k2 k3 he hf hs
        go_enter Tryz.func145, Tryz.ntmps145
        go_wp2_with fail
        refine HN.out.mono ?_
        rintro e w1 ⟨rfl, hr, hb1⟩
        have HB1 := Lib.hid hb1
        clear hr hb1
        go_wp2_with fail
        refine (HF.out _).mono ?_
        rintro e w' ⟨rfl, rfl⟩
        go_wp2_with fail
        refine (HS.out _).mono ?_
        rintro e w' ⟨rfl, rfl⟩
        go_wp2
        go_ret
        rw [HX.out]
        exact ⟨rfl, (fun e => by simp at e), HB1.out⟩
      | false =>
        rw [hs] at HS
        have HX := Lib.hid (k1 rfl hf hs)
        have hrv := rune_vals n
        have HRV := Lib.hid hrv
        clear k0 k1 k2 k3 he hf hs hrv
        go_enter Tryz.func145, Tryz.ntmps145
        go_wp2_with fail
        refine HN.out.mono ?_
        rintro e w1 ⟨rfl, hr, hb1⟩
        have HR := Lib.hid (hr trivial)
        have HB1 := Lib.hid hb1
        have c1 := HR.out.c1
        have hlt1 := lt_of_at HR.out.box
        clear hr hb1
        go_wp2_with fail
        refine (HF.out _).mono ?_
        rintro e w' ⟨rfl, rfl⟩
        go_wp2_with fail
        refine (HS.out _).mono ?_
        rintro e w' ⟨rfl, rfl⟩
        go_wp2_with fail
        refine (rune_any (b + 1) v text (Lib.encodeRune n) n _ n0 (by omega) (by omega) (by omega) HR.out.buf HRV.out.1 HRV.out.2.1).mono ?_
        rintro e w2 ⟨g2, m2, q2, rfl, hb2, hg2⟩
        have HP := Lib.hid (HR.out.push hb2 hg2)
        clear hb2 hg2
        have d1 := HP.out.c1
        have d2 := HP.out.f1
        have d3 := HP.out.lt
        go_wp2
        go_ret
        rw [HX.out]
        exact ⟨rfl, fun _ => ⟨_, HP.out.rdr⟩, HB1.out.trans HP.out.below⟩
    | true =>
      rw [hf] at HF
      have hfn := of_decide_eq_true hf
      have k4 := k3 rfl hf
      have ho := otherF_bd n r hfn.1 hfn.2
      have HO := Lib.hid (fun W h => other_all b n r v text W hfn.1 hfn.2 h)
      clear k0 k1 k2 k3 he hf HS
      generalize otherF n r = G at *
      obtain ⟨y, m, r2⟩ := G
      dsimp only at k4 ho HO
      by_cases hy : y = 0
      · subst hy
        rw [if_neg (by simp)] at k4
        have HX := Lib.hid k4
        have hm := ho.2 rfl
        obtain ⟨m0, m1⟩ := hm
        have HS2 := Lib.hid (fun W => second_all m W (by omega) (by omega))
        have hs2 : secondB m = false := decide_eq_false (by omega)
        rw [hs2] at HS2
        have HRV := Lib.hid (rune_vals m)
        clear k4 ho hs2 hfn
        go_enter Tryz.func145, Tryz.ntmps145
        go_wp2_with fail
        refine HN.out.mono ?_
        rintro e w1 ⟨rfl, hr, hb1⟩
        have HR := Lib.hid (hr trivial)
        have HB1 := Lib.hid hb1
        clear hr hb1
        go_wp2_with fail
        refine (HF.out _).mono ?_
        rintro e w' ⟨rfl, rfl⟩
        go_wp2_with fail
        refine (HO.out _ HR.out).mono ?_
        rintro e w2 ⟨rfl, hr, hb1⟩
        have HR2 := Lib.hid (hr trivial)
        have HB2 := Lib.hid (HB1.out.trans hb1)
        have c1 := HR2.out.c1
        have hlt1 := lt_of_at HR2.out.box
        clear hr hb1 HR HB1
        go_wp2_with fail
        refine (HS2.out _).mono ?_
        rintro e w' ⟨rfl, rfl⟩
        go_wp2_with fail
        refine (rune_any (b + 1) v text (Lib.encodeRune m) m _ (by omega) (by omega) (by omega) (by omega) HR2.out.buf HRV.out.1 HRV.out.2.1).mono ?_
        rintro e w3 ⟨g2, m2, q2, rfl, hb2, hg2⟩
        have HP := Lib.hid (HR2.out.push hb2 hg2)
        clear hb2 hg2
        have d1 := HP.out.c1
        have d2 := HP.out.f1
        have d3 := HP.out.lt
        go_wp2
        go_ret
        rw [HX.out]
        exact ⟨rfl, fun _ => ⟨_, HP.out.rdr⟩, HB2.out.trans HP.out.below⟩
      · rw [if_pos hy] at k4
        have HX := Lib.hid k4
        obtain rfl := ho.1 hy
        have e0 : (y != 0) = true := by simpa using hy
        have HY := Lib.hid hy
        clear k4 ho hfn hy
        go_enter Tryz.func145, Tryz.ntmps145
        go_wp2_with fail
        refine HN.out.mono ?_
        rintro e w1 ⟨rfl, hr, hb1⟩
        have HR := Lib.hid (hr trivial)
        have HB1 := Lib.hid hb1
        clear hr hb1
        go_wp2_with fail
        refine (HF.out _).mono ?_
        rintro e w' ⟨rfl, rfl⟩
        go_wp2_with fail
        refine (HO.out _ HR.out).mono ?_
        rintro e w2 ⟨rfl, hr, hb1⟩
        have HB2 := Lib.hid (HB1.out.trans hb1)
        clear hr hb1
        go_wp2
        go_ret
        rw [HX.out]
        exact ⟨rfl, (fun e => absurd e HY.out), HB2.out⟩
  · obtain rfl := he hx
    have HF := Lib.hid (fun W => first_all 0 W (by omega) (by omega))
    have hf : firstB 0 = false := by decide
    rw [hf] at HF
    have HX := Lib.hid (k0 hx)
    have e0 : (x != 0) = true := by simpa using hx
    have HY := Lib.hid hx
    clear k0 k1 k2 k3 he hf hx
    go_enter Tryz.func145, Tryz.ntmps145
    go_wp2_with fail
    refine HN.out.mono ?_
    rintro e w1 ⟨rfl, hr, hb1⟩
    have HB1 := Lib.hid hb1
    clear hr hb1
    go_wp2_with fail
    refine (HF.out _).mono ?_
    rintro e w' ⟨rfl, rfl⟩
    go_wp2
    go_ret
    rw [HX.out]
    exact ⟨rfl, (fun e => absurd e HY.out), HB1.out⟩
theorem escape_47 (b : Nat) (rest : List UInt8) (v : Value) (text : List UInt8) (w : World) (hl : text.length ≤ 1000000) (h : Rdr w b (47 :: rest) v text) : Calls Tryz.prog 127 #[.pointer (some ⟨b, 0, none⟩)] w (Reads w b rest (text ++ [47]) 0) := by
  obtain ⟨i0, hi, hz0, hz1, hz2⟩ := info_parts info5
  have c0 := h.c0
  have c1 := h.c1
  have f0 := h.f0
  have f1 := h.f1
  have H1 := Lib.hid (h.set0 (r2 := rest))
  have hbw := lt_of_at h.box
  obtain ⟨p1, p2, p3, p4⟩ := bs_cons 47 rest
  generalize bs (47 :: rest) = r at *
  generalize bs rest = r1 at *
  clear h
  go_enter Tryz.func127, Tryz.ntmps127
  go_wp2_with (first
    | (at_builtin; refine wpList_append_lies _ rfl _ _ 145 rfl (b + 1) 5 i0 (.int .u8 0) 1 1 Tryz.underlying145 hi hz0 hz1 hz2 rfl (by decide) v text.length (vals text) rfl (H1.out.buf.alloc _) ⟨w.heap.size, 0, none⟩ 1 1 (vals [47]) rfl rfl (news_set w _ _ _ _ rfl) (vals_one _) (by decide) (by unfold maxLen; omega) (by omega) (by simp; omega) (w.heap.size + 1) (by simp) ?_; intro g cap w2 hown hgrow hat hlt; have HP := Lib.hid (H1.out.push (Buf.more hown rfl) (grown_alloc hgrow)); clear hown hgrow hat hlt; have d1 := HP.out.c1; have d2 := HP.out.f1; have d3 := HP.out.lt))
  go_ret
  exact ⟨rfl, ⟨_, HP.out.rdr⟩, Rdr.below0.trans HP.out.below⟩
def escF (l : List UInt8) : Int × List UInt8 × List UInt8 := match l with
  | [] => (11, [], [])
  | c :: r => if c = 98 then (0, [8], r) else if c = 102 then (0, [12], r) else if c = 110 then (0, [10], r) else if c = 114 then (0, [13], r) else if c = 116 then (0, [9], r)
    else if c = 34 then (0, [34], r) else if c = 92 then (0, [92], r) else if c = 47 then (0, [47], r) else if c = 117 then byNumF r else (6, [], [])
theorem escape_num (b : Nat) (rest : List UInt8) (v : Value) (text : List UInt8) (w : World) (hl : text.length ≤ 100000) (h : Rdr w b (117 :: rest) v text) :
    Calls Tryz.prog 127 #[.pointer (some ⟨b, 0, none⟩)] w (After w b text (byNumF rest)) := by
  have c0 := h.c0
  have f0 := h.f0
  have hbw := lt_of_at h.box
  have HN := Lib.hid (byNumber_all b rest v text _ hl (h.set0 (r2 := rest)))
  obtain ⟨p1, p2, p3, p4⟩ := bs_cons 117 rest
  generalize bs (117 :: rest) = r at *
  generalize bs rest = r1 at *
  generalize byNumF rest = Z at *
  obtain ⟨x, m, r2⟩ := Z
  clear h
  go_enter Tryz.func127, Tryz.ntmps127
  go_wp2_with fail
  refine HN.out.mono ?_
  rintro e w2 ⟨rfl, hr2, hb2⟩
  have HR := Lib.hid hr2
  have HB := Lib.hid hb2
  clear hr2 hb2
  dsimp only
  go_wp2
  go_ret
  exact ⟨rfl, HR.out, Rdr.below0.trans HB.out⟩
theorem escape_none (b : Nat) (v : Value) (text : List UInt8) (w : World) (h : Rdr w b [] v text) :
    Calls Tryz.prog 127 #[.pointer (some ⟨b, 0, none⟩)] w (After w b text (11, [], [])) := by
  have c0 := h.c0
  have e0 : bs [] = ⟨#[]⟩ := rfl
  rw [e0] at c0
  clear h e0
  go_enter Tryz.func127, Tryz.ntmps127
  go_wp2
  go_ret
  exact ⟨rfl, (fun e => by simp at e), Below.refl _ _⟩
theorem escape_bad (b : Nat) (c : UInt8) (rest : List UInt8) (v : Value) (text : List UInt8) (w : World) (hc : ∀ d ∈ ([98, 102, 110, 114, 116, 34, 92, 47, 117] : List UInt8), c ≠ d) (h : Rdr w b (c :: rest) v text) :
    Calls Tryz.prog 127 #[.pointer (some ⟨b, 0, none⟩)] w (After w b text (6, [], [])) := by
  have c0 := h.c0
  have f0 := h.f0
  have hbw := lt_of_at h.box
  have ne : ∀ d : UInt8, d ∈ ([98, 102, 110, 114, 116, 34, 92, 47, 117] : List UInt8) → ((c.toNat : Int) == (d.toNat : Int)) = false := fun d hd => by
    rw [beq_eq_false_iff_ne]
    intro e
    exact hc d hd (UInt8.toNat_inj.1 (by omega))
  have n1 : ((c.toNat : Int) == 98) = false := ne 98 (by decide)
  have n2 : ((c.toNat : Int) == 102) = false := ne 102 (by decide)
  have n3 : ((c.toNat : Int) == 110) = false := ne 110 (by decide)
  have n4 : ((c.toNat : Int) == 114) = false := ne 114 (by decide)
  have n5 : ((c.toNat : Int) == 116) = false := ne 116 (by decide)
  have n6 : ((c.toNat : Int) == 34) = false := ne 34 (by decide)
  have n7 : ((c.toNat : Int) == 92) = false := ne 92 (by decide)
  have n8 : ((c.toNat : Int) == 47) = false := ne 47 (by decide)
  have n9 : ((c.toNat : Int) == 117) = false := ne 117 (by decide)
  obtain ⟨p1, p2, p3, p4⟩ := bs_cons c rest
  generalize bs (c :: rest) = r at *
  generalize bs rest = r1 at *
  clear h hc ne
  go_enter Tryz.func127, Tryz.ntmps127
  go_wp2
  go_ret
  exact ⟨rfl, (fun e => by simp at e), Rdr.below0⟩
theorem escape_all (b : Nat) (l : List UInt8) (v : Value) (text : List UInt8) (w : World) (hl : text.length ≤ 100000) (h : Rdr w b l v text) :
    Calls Tryz.prog 127 #[.pointer (some ⟨b, 0, none⟩)] w (After w b text (escF l)) := by
  have hl2 : text.length ≤ 1000000 := by omega
  rcases l with _ | ⟨c, r⟩
  · exact escape_none b v text w h
  by_cases c1 : c = 98
  · subst c1; rw [escF, if_pos rfl]; exact (escape_98 b r v text w hl2 h).mono fun _ _ => After.of_reads
  by_cases c2 : c = 102
  · subst c2; rw [escF, if_neg c1, if_pos rfl]; exact (escape_102 b r v text w hl2 h).mono fun _ _ => After.of_reads
  by_cases c3 : c = 110
  · subst c3; rw [escF, if_neg c1, if_neg c2, if_pos rfl]; exact (escape_110 b r v text w hl2 h).mono fun _ _ => After.of_reads
  by_cases c4 : c = 114
  · subst c4; rw [escF, if_neg c1, if_neg c2, if_neg c3, if_pos rfl]; exact (escape_114 b r v text w hl2 h).mono fun _ _ => After.of_reads
  by_cases c5 : c = 116
  · subst c5; rw [escF, if_neg c1, if_neg c2, if_neg c3, if_neg c4, if_pos rfl]; exact (escape_116 b r v text w hl2 h).mono fun _ _ => After.of_reads
  by_cases c6 : c = 34
  · subst c6; rw [escF, if_neg c1, if_neg c2, if_neg c3, if_neg c4, if_neg c5, if_pos rfl]; exact (escape_34 b r v text w hl2 h).mono fun _ _ => After.of_reads
  by_cases c7 : c = 92
  · subst c7; rw [escF, if_neg c1, if_neg c2, if_neg c3, if_neg c4, if_neg c5, if_neg c6, if_pos rfl]; exact (escape_92 b r v text w hl2 h).mono fun _ _ => After.of_reads
  by_cases c8 : c = 47
  · subst c8; rw [escF, if_neg c1, if_neg c2, if_neg c3, if_neg c4, if_neg c5, if_neg c6, if_neg c7, if_pos rfl]; exact (escape_47 b r v text w hl2 h).mono fun _ _ => After.of_reads
  by_cases c9 : c = 117
  · subst c9; rw [escF, if_neg c1, if_neg c2, if_neg c3, if_neg c4, if_neg c5, if_neg c6, if_neg c7, if_neg c8, if_pos rfl]; exact escape_num b r v text w hl h
  rw [escF, if_neg c1, if_neg c2, if_neg c3, if_neg c4, if_neg c5, if_neg c6, if_neg c7, if_neg c8, if_neg c9]
  refine escape_bad b c r v text w (fun d hd => ?_) h
  simp only [List.mem_cons, List.not_mem_nil, or_false] at hd
  rcases hd with rfl | rfl | rfl | rfl | rfl | rfl | rfl | rfl | rfl <;> assumption
def chLen (l : List UInt8) : Nat := (Lib.decodeGo (bs l)).2
theorem chLen_bd (l : List UInt8) (h : l ≠ []) : 1 ≤ chLen l ∧ chLen l ≤ l.length ∧ chLen l ≤ 4 := by
  have hl : 0 < l.length := List.length_pos_iff.2 h
  rw [chLen, dec_bs l h]
  unfold Lib.decodeN
  repeat' split
  all_goals first | (dsimp only; omega) | (simp; omega)
def chrF (l : List UInt8) : Int × List UInt8 × List UInt8 := match l with
  | [] => (11, [], [])
  | c :: r => if c = 92 then escF r else if c.toNat < 32 ∨ Lib.validD ((c :: r).take (chLen (c :: r))) = false then (10, [], []) else (0, (c :: r).take (chLen (c :: r)), (c :: r).drop (chLen (c :: r)))
theorem char_none (b : Nat) (v : Value) (text : List UInt8) (w : World) (h : Rdr w b [] v text) :
    Calls Tryz.prog 101 #[.pointer (some ⟨b, 0, none⟩)] w (After w b text (11, [], [])) := by
  have c0 := h.c0
  have e0 : bs [] = ⟨#[]⟩ := rfl
  rw [e0] at c0
  clear h e0
  go_enter Tryz.func101, Tryz.ntmps101
  go_wp2
  go_ret
  exact ⟨rfl, (fun e => by simp at e), Below.refl _ _⟩
theorem char_back (b : Nat) (rest : List UInt8) (v : Value) (text : List UInt8) (w : World) (hl : text.length ≤ 100000) (h : Rdr w b (92 :: rest) v text) :
    Calls Tryz.prog 101 #[.pointer (some ⟨b, 0, none⟩)] w (After w b text (escF rest)) := by
  have c0 := h.c0
  have f0 := h.f0
  have hbw := lt_of_at h.box
  have HN := Lib.hid (escape_all b rest v text _ hl (h.set0 (r2 := rest)))
  obtain ⟨p1, p2, p3, p4⟩ := bs_cons 92 rest
  generalize bs (92 :: rest) = r at *
  generalize bs rest = r1 at *
  generalize escF rest = Z at *
  obtain ⟨x, m, r2⟩ := Z
  clear h
  go_enter Tryz.func101, Tryz.ntmps101
  go_wp2_with fail
  refine HN.out.mono ?_
  rintro e w2 ⟨rfl, hr2, hb2⟩
  have HR := Lib.hid hr2
  have HB := Lib.hid hb2
  clear hr2 hb2
  dsimp only
  go_wp2
  go_ret
  exact ⟨rfl, HR.out, Rdr.below0.trans HB.out⟩
theorem char_bad (b : Nat) (c : UInt8) (r : List UInt8) (v : Value) (text : List UInt8) (w : World) (hT : Tabs w) (hc : c.toNat ≠ 92) (hb : c.toNat < 32 ∨ Lib.validD ((c :: r).take (chLen (c :: r))) = false) (h : Rdr w b (c :: r) v text) :
    Calls Tryz.prog 101 #[.pointer (some ⟨b, 0, none⟩)] w (After w b text (10, [], [])) := by
  have c0 := h.c0
  have HR := Lib.hid h
  have HT := Lib.hid hT
  have HB0 := Lib.hid (Nat.le_of_lt (lt_of_at h.box))
  have hlen := chLen_bd (c :: r) (by simp)
  have e1 : ((c.toNat : Int) == 92) = false := by rw [beq_eq_false_iff_ne]; omega
  have q1 : (bs (c :: r)).extract 0 (chLen (c :: r)) = bs ((c :: r).take (chLen (c :: r))) := bs_take _ _
  have q2 : ((chLen (c :: r) : Nat) : Int) ≤ ((bs (c :: r)).size : Int) := by rw [bs_size]; omega
  have HDE : Hid (∀ W, Tabs W → Calls Tryz.prog 128 #[.string (bs (c :: r))] W fun e w' => (∃ x : Int, e = .returned (.tuple #[.int .i32 x, .int .i64 ((chLen (c :: r) : Nat) : Int)])) ∧ Fresh W w') := fun W hW => by
    refine (decode_any _ W hW).mono ?_
    rintro e w' ⟨he, hf⟩
    exact ⟨⟨_, he⟩, hf⟩
  have HV := Lib.hid (fun W hW => isValid_any (bs ((c :: r).take (chLen (c :: r)))) W (by rw [bs_size, List.length_take]; omega) hW)
  rw [bs_toList] at HV
  obtain ⟨p1, p2, _, p4⟩ := bs_cons c r
  have hq : 0 < chLen (c :: r) := by omega
  clear h hT hc
  generalize Lib.validD ((c :: r).take (chLen (c :: r))) = ok at *
  generalize bs ((c :: r).take (chLen (c :: r))) = q at *
  generalize chLen (c :: r) = n at *
  have HC0 : Hid (∀ W, Fresh w W → W.cell? ⟨b, 0, none⟩ = some (.string (bs (c :: r)))) := fun W f => (HR.out.fresh f).c0
  generalize bs (c :: r) = R at *
  clear hlen
  by_cases h32 : c.toNat < 32
  · have e2 : (c.toNat : Int) < 32 := by omega
    clear hb h32 HV
    go_enter Tryz.func101, Tryz.ntmps101
    go_wp2_with fail
    refine (HDE.out _ HT.out).mono ?_
    rintro e w1 ⟨⟨x, rfl⟩, hf1⟩
    have d0 := HC0.out _ hf1
    have HF1 := Lib.hid hf1
    clear hf1 c0
    go_wp2
    go_ret
    exact ⟨rfl, (fun e => by simp at e), Below.mono HF1.out HB0.out⟩
  · obtain rfl : ok = false := by rcases hb with hb | hb; exact absurd hb h32; exact hb
    have e2 : ¬ (c.toNat : Int) < 32 := by omega
    clear hb h32
    go_enter Tryz.func101, Tryz.ntmps101
    go_wp2_with fail
    refine (HDE.out _ HT.out).mono ?_
    rintro e w1 ⟨⟨x, rfl⟩, hf1⟩
    have d0 := HC0.out _ hf1
    have HF1 := Lib.hid hf1
    clear hf1 c0
    go_wp2_with fail
    refine (HV.out _ (HT.out.move HF1.out)).mono ?_
    rintro e w2 ⟨rfl, hf2⟩
    have HF2 := Lib.hid (HF1.out.trans hf2)
    clear hf2 d0
    go_wp2
    go_ret
    exact ⟨rfl, (fun e => by simp at e), Below.mono HF2.out HB0.out⟩
theorem char_all (b : Nat) (l : List UInt8) (v : Value) (text : List UInt8) (w : World) (hT : Tabs w) (hl : text.length ≤ 100000) (h : Rdr w b l v text) :
    Calls Tryz.prog 101 #[.pointer (some ⟨b, 0, none⟩)] w (After w b text (chrF l)) := by
  rcases l with _ | ⟨c, r⟩
  · exact char_none b v text w h
  by_cases hc : c = 92
  · subst hc
    rw [chrF, if_pos rfl]
    exact char_back b r v text w hl h
  have hc2 : c.toNat ≠ 92 := fun e => hc (UInt8.toNat_inj.1 e)
  by_cases hb : c.toNat < 32 ∨ Lib.validD ((c :: r).take (chLen (c :: r))) = false
  · rw [chrF, if_neg hc, if_pos hb]
    exact char_bad b c r v text w hT hc2 hb h
  · rw [chrF, if_neg hc, if_neg hb]
    have hlen := chLen_bd (c :: r) (by simp)
    have hv : Lib.validD ((c :: r).take (chLen (c :: r))) = true := by
      cases hv : Lib.validD ((c :: r).take (chLen (c :: r))) with
      | true => rfl
      | false => exact absurd (.inr hv) hb
    obtain ⟨n, hn⟩ : ∃ n, chLen (c :: r) = n + 1 := ⟨chLen (c :: r) - 1, by omega⟩
    have hd : (Lib.decodeGo (bs (c :: r))).2 = n + 1 := hn
    rw [hn] at hv hlen ⊢
    rw [List.take_succ_cons] at hv ⊢
    rw [List.drop_succ_cons]
    have hsp : c :: r = c :: r.take n ++ r.drop n := by simp
    rw [hsp] at h hd
    have hln : (c :: r.take n).length = n + 1 := by
      rw [List.length_cons, List.length_take]
      have := hlen.2.1
      rw [List.length_cons] at this
      omega
    have := char_plain b c (r.take n) (r.drop n) v text w hT (by omega) hc2 (by rw [hd, hln]) hv (by omega) hl h
    exact this.mono fun _ _ => After.of_reads
theorem numF_len : ∀ (k : Nat) (n : Int) (l : List UInt8), (numF k n l).1 = 0 → (numF k n l).2.2.length + k = l.length
  | 0, n, l, _ => by simp [numF]
  | k + 1, n, [], h => by simp [numF] at h
  | k + 1, n, c :: l, h => by
    rw [numF] at h ⊢
    by_cases hc : hexv c < 0
    · rw [if_pos hc] at h; simp at h
    · rw [if_neg hc] at h ⊢
      have := numF_len k _ l h
      rw [List.length_cons]; omega
theorem otherF_len (f : Int) (l : List UInt8) (h : (otherF f l).1 = 0) : (otherF f l).2.2.length + 6 = l.length := by
  unfold otherF at h ⊢
  by_cases a : l.isPrefixOf [92, 117] = true
  · rw [if_pos a] at h; simp at h
  rw [if_neg a] at h ⊢
  by_cases b : ([92, 117] : List UInt8).isPrefixOf l = false
  · rw [if_pos b] at h; simp at h
  rw [if_neg b] at h ⊢
  have hb : ([92, 117] : List UInt8).isPrefixOf l = true := by cases hb : ([92, 117] : List UInt8).isPrefixOf l with
    | true => rfl
    | false => exact absurd hb b
  obtain ⟨r, rfl⟩ := two_of hb
  have hl := numF_len 4 0 ((92 :: 117 :: r).drop 2)
  generalize numF 4 0 ((92 :: 117 :: r).drop 2) = F at *
  by_cases c : F.1 ≠ 0
  · rw [if_pos c] at h; exact absurd h c
  rw [if_neg c] at h ⊢
  by_cases d : secondB F.2.1 = false
  · rw [if_pos d] at h; simp at h
  rw [if_neg d]
  have := hl (by simpa using c)
  simp only [List.drop_succ_cons, List.drop_zero] at this
  simp only [List.length_cons]
  omega
theorem byNumF_len (l : List UInt8) (h : (byNumF l).1 = 0) : (byNumF l).2.1.length + (byNumF l).2.2.length ≤ l.length := by
  have hl := numF_len 4 0 l
  by_cases c : (numF 4 0 l).1 ≠ 0
  · rw [byNum_err l c] at h; exact absurd h c
  have c0 : (numF 4 0 l).1 = 0 := by simpa using c
  have hl2 := hl c0
  cases hf : firstB (numF 4 0 l).2.1 with
  | true =>
    rw [byNum_pair l c0 hf] at h ⊢
    have ho := otherF_len (numF 4 0 l).2.1 (numF 4 0 l).2.2
    by_cases d : (otherF (numF 4 0 l).2.1 (numF 4 0 l).2.2).1 ≠ 0
    · rw [if_pos d] at h; exact absurd h d
    · rw [if_neg d]
      have := ho (by simpa using d)
      have h3 := (rune_vals (otherF (numF 4 0 l).2.1 (numF 4 0 l).2.2).2.1).2.2
      dsimp only
      omega
  | false =>
    cases hs : secondB (numF 4 0 l).2.1 with
    | true => rw [byNum_sec l c0 hf hs] at h; simp at h
    | false =>
      rw [byNum_one l c0 hf hs]
      have h3 := (rune_vals (numF 4 0 l).2.1).2.2
      dsimp only
      omega
theorem escF_len (l : List UInt8) (h : (escF l).1 = 0) : (escF l).2.1.length + (escF l).2.2.length ≤ l.length := by
  rcases l with _ | ⟨c, r⟩
  · simp [escF] at h
  · have hb := byNumF_len r
    unfold escF at h ⊢
    dsimp only at h ⊢
    repeat' split
    all_goals first | (simp; omega) | (rename_i c1 c2 c3 c4 c5 c6 c7 c8 c9; simp only [c1, c2, c3, c4, c5, c6, c7, c8, c9, if_true, if_false] at h; first | (have := hb h; rw [List.length_cons]; omega) | (simp at h))
theorem chrF_len (l : List UInt8) (h : (chrF l).1 = 0) : (chrF l).2.1.length + (chrF l).2.2.length ≤ l.length ∧ (chrF l).2.2.length < l.length := by
  rcases l with _ | ⟨c, r⟩
  · simp [chrF] at h
  · have hb := escF_len r
    have hlen := chLen_bd (c :: r) (by simp)
    unfold chrF at h ⊢
    dsimp only at h ⊢
    by_cases hc : c = 92
    · rw [if_pos hc] at h ⊢
      have := hb h
      rw [List.length_cons]
      omega
    · rw [if_neg hc] at h ⊢
      by_cases hd : c.toNat < 32 ∨ Lib.validD ((c :: r).take (chLen (c :: r))) = false
      · rw [if_pos hd] at h; simp at h
      · rw [if_neg hd]
        dsimp only
        rw [List.length_take, List.length_drop]
        omega
def loopF : Nat → List UInt8 → List UInt8 → Int × List UInt8 × List UInt8
  | 0, _, _ => (11, [], [])
  | _ + 1, [], _ => (11, [], [])
  | f + 1, c :: r, acc => if c = 34 then (0, acc, r) else if (chrF (c :: r)).1 ≠ 0 then ((chrF (c :: r)).1, [], []) else loopF f (chrF (c :: r)).2.2 (acc ++ (chrF (c :: r)).2.1)
def unqF (l : List UInt8) : List UInt8 × Nat × Int := match l with
  | [] => ([], 0, 6)
  | c :: r => if c ≠ 34 then ([], 0, 6) else if (loopF (r.length + 1) r []).1 ≠ 0 then ([], 0, (loopF (r.length + 1) r []).1) else
      if 4096 < (loopF (r.length + 1) r []).2.1.length then ([], 0, 2) else ((loopF (r.length + 1) r []).2.1, (c :: r).length - (loopF (r.length + 1) r []).2.2.length, 0)
def unqIs (x : List UInt8 × Nat × Int) : Ending := .returned (.tuple #[.string (bs x.1), .int .i64 (x.2.1 : Int), .int .i64 x.2.2])
theorem mark_end (b : Nat) (v : Value) (text : List UInt8) (w : World) (h : Rdr w b [] v text) : Calls Tryz.prog 100 #[.pointer (some ⟨b, 0, none⟩)] w fun e w' => e = .returned (.bool false) ∧ w = w' := by
  have c0 := h.c0
  have e0 : bs [] = ⟨#[]⟩ := rfl
  rw [e0] at c0
  clear h e0
  go_enter Tryz.func100, Tryz.ntmps100
  go_wp2
  go_ret
  exact ⟨rfl, rfl⟩
theorem unquote_mark (r : List UInt8) (w : World) (hs : r.length ≤ 90000) (hT : Tabs w) :
    Calls Tryz.prog 74 #[.string (bs (34 :: r))] w fun e w' => e = unqIs (unqF (34 :: r)) ∧ Fresh w w' := by
  have HT := Lib.hid hT
  have hZ : Hid (unqF (34 :: r) = if (loopF (r.length + 1) r []).1 ≠ 0 then ([], 0, (loopF (r.length + 1) r []).1) else
      if 4096 < (loopF (r.length + 1) r []).2.1.length then ([], 0, 2) else ((loopF (r.length + 1) r []).2.1, (34 :: r).length - (loopF (r.length + 1) r []).2.2.length, 0)) := by
    rw [Hid, unqF, if_neg (by simp)]
  generalize unqF (34 :: r) = Z at *
  have HRL : Hid (r.length ≤ 90000) := hs
  have hsz : (bs (34 :: r)).size = r.length + 1 := by rw [bs_size]; rfl
  have hsz2 : (bs (34 :: r)).size ≤ 90001 := by omega
  have HSZ := Lib.hid hsz
  obtain ⟨p1, p2, p3, p4⟩ := bs_cons 34 r
  have H0 : Hid (Rdr (w.alloc (.cells #[.string (bs r), .slice none 0 0] 153)) w.heap.size r (.slice none 0 0) []) := ⟨at_new w _, World.ownsRow_nil _ _ _ _⟩
  have HF0 := Lib.hid ((Fresh.refl w).alloc (.cells #[.string (bs r), .slice none 0 0] 153))
  generalize bs (34 :: r) = s at *
  generalize bs r = r1 at *
  generalize hL : loopF (r.length + 1) r [] = L at *
  have HL := Lib.hid hL
  clear hT hs hsz hL
  go_enter Tryz.func74, Tryz.ntmps74
  go_wp2
  go_loopw [4] (fun a4 wr => a4 = .int .i64 0 ∧ ∃ (f : Nat) (l2 t1 : List UInt8) (v : Value), Hid (l2.length < f ∧ t1.length + l2.length ≤ r.length) ∧ Hid (L = loopF f l2 t1) ∧ Hid (Rdr wr w.heap.size l2 v t1) ∧ Hid (Fresh w wr)) (fun _ wr => restLen wr w.heap.size)
  case atStart => exact ⟨rfl, r.length + 1, r, [], .slice none 0 0, ⟨by omega, by simp⟩, HL.out.symm, H0.out, HF0.out⟩
  case round =>
    obtain ⟨rfl, f, l2, t1, v, HLN, HE, HR, HF⟩ := hrel
    clear H0 HF0
    obtain ⟨f, rfl⟩ : ∃ g, f = g + 1 := ⟨f - 1, by have := HLN.out.1; omega⟩
    rcases l2 with _ | ⟨c, l3⟩
    · have HX : Hid (L = (11, [], [])) := by rw [Hid, HE.out, loopF]
      have HC := Lib.hid (char_all _ _ _ _ _ (HT.out.move HF.out) (by have := HLN.out.2; have := HRL.out; omega) HR.out)
      have e0 : chrF [] = (11, [], []) := rfl
      rw [e0] at HC
      go_wp2_with fail
      refine (mark_end _ v t1 _ HR.out).mono ?_
      rintro e w' ⟨rfl, rfl⟩
      go_wp2_with fail
      refine HC.out.mono ?_
      rintro e w2 ⟨rfl, _, hb2⟩
      have HF2 := Lib.hid (HF.out.below hb2 (Nat.le_refl _))
      clear hb2 e0
      go_wp2
      refine bodyPost_ret (v := .tuple #[.string ⟨#[]⟩, .int .i64 0, .int .i64 11]) (by simp [results, Tryz.results74, go_sem]) rfl ⟨?_, HF2.out⟩
      have hz := hZ.out
      rw [HX.out, if_pos (by simp)] at hz
      rw [hz]; rfl
    by_cases hc : c = 34
    · subst hc
      have HX : Hid (L = (0, t1, l3)) := by rw [Hid, HE.out, loopF, if_pos rfl]
      have HLT : Hid (t1.length ≤ 90000 ∧ l3.length < r.length + 1) := by
        have h1 := HLN.out.2; have h2 := HRL.out; rw [List.length_cons] at h1; exact ⟨by omega, by omega⟩
      have HR2 : Hid (Rdr wr w.heap.size (34 :: l3) v t1) := HR.out
      clear HE HR
      go_wp2_with fail
      refine (mark_yes _ l3 v t1 _ HR2.out).mono ?_
      rintro e w' ⟨rfl, rfl⟩
      have c0 := HR2.out.c0
      have c1 := HR2.out.c1
      have HZ2 : Hid ((bs (34 :: l3)).size = l3.length + 1) := by rw [Hid, bs_size]; rfl
      have hb2 : (bs (34 :: l3)).size ≤ 90001 := by rw [HZ2.out]; have := HLT.out.2; have := HRL.out; omega
      have hb3 : (bs (34 :: l3)).size ≤ s.size := by rw [HZ2.out, HSZ.out]; have := HLT.out.2; omega
      have HEQ : Hid ((s.size : Int) - ((bs (34 :: l3)).size : Int) + 1 = (((34 :: r).length - l3.length : Nat) : Int)) := by
        rw [Hid, HSZ.out, HZ2.out, List.length_cons]; have := HLT.out.2; omega
      generalize bs (34 :: l3) = r2 at *
      have hbuf := HR2.out.buf
      rcases hbuf with ⟨hl, ⟨rfl, hl0⟩ | ⟨g, cap, cur, rfl, hg1, hg2, hg3, hg4, hg5, hg6⟩⟩
      · obtain rfl : t1 = [] := by cases t1 with
          | nil => rfl
          | cons => simp at hl0
        have hcv := text_nil wr.drew
        clear hl hl0
        go_wp2
        have w1 : IntKind.i64.wrap ((s.size : Int) - (r2.size : Int)) = (s.size : Int) - (r2.size : Int) := IntWalk.i64_in _ (by omega)
        have w2 : IntKind.i64.wrap ((s.size : Int) - (r2.size : Int) + 1) = (s.size : Int) - (r2.size : Int) + 1 := IntWalk.i64_in _ (by omega)
        go_region_held3 (fun w' => (w'.cell? ⟨w.heap.size, 0, none⟩ = some (.string r2) ∧ w'.cell? ⟨w.heap.size, 1, none⟩ = some (.slice none 0 0) ∧ (convert 145 9 (.slice none 0 0)).run Tryz.prog w' = .ok (.string ⟨#[]⟩) w')) (go_keep) ((fail))
        all_goals
          go_wp2
          refine bodyPost_ret (v := .tuple #[.string (bs []), .int .i64 ((s.size : Int) - (r2.size : Int) + 1), .int .i64 0]) (by simp [results, Tryz.results74, go_sem, bs]) rfl ⟨?_, HF.out.drew⟩
          have hz := hZ.out
          rw [HX.out, if_neg (by simp), if_neg (by simp)] at hz
          rw [hz, unqIs, HEQ.out]
      · have hcv : (convert 145 9 (.slice (some ⟨g, 0, none⟩) t1.length cap)).run Tryz.prog wr.drew = .ok (.string (bs t1)) wr.drew := (Buf.text HR2.out.buf.drew).2
        have hl9 : t1.length ≤ 90000 := HLT.out.1
        clear hl hg1 hg2 hg3 hg4 hg5 hg6
        by_cases h4 : t1.length ≤ 4096
        · have h4' : ¬ 4096 < t1.length := by omega
          have HZ : Hid (Z = (t1, (34 :: r).length - l3.length, 0)) := by
            have hz := hZ.out
            rw [HX.out, if_neg (by simp), if_neg h4'] at hz
            exact hz
          go_wp2
          have w1 : IntKind.i64.wrap ((s.size : Int) - (r2.size : Int)) = (s.size : Int) - (r2.size : Int) := IntWalk.i64_in _ (by omega)
          have w2 : IntKind.i64.wrap ((s.size : Int) - (r2.size : Int) + 1) = (s.size : Int) - (r2.size : Int) + 1 := IntWalk.i64_in _ (by omega)
          go_region_held3 (fun w' => (w'.cell? ⟨w.heap.size, 0, none⟩ = some (.string r2) ∧ w'.cell? ⟨w.heap.size, 1, none⟩ = some (.slice (some ⟨g, 0, none⟩) t1.length cap) ∧ (convert 145 9 (.slice (some ⟨g, 0, none⟩) t1.length cap)).run Tryz.prog w' = .ok (.string (bs t1)) w')) (go_keep) ((fail))
          all_goals
            go_wp2
            refine bodyPost_ret (v := .tuple #[.string (bs t1), .int .i64 ((s.size : Int) - (r2.size : Int) + 1), .int .i64 0]) (by simp [results, Tryz.results74, go_sem]) rfl ⟨?_, HF.out.drew⟩
            rw [HZ.out, unqIs, HEQ.out]
        · have h4' : 4096 < t1.length := by omega
          have HZ : Hid (Z = ([], 0, 2)) := by
            have hz := hZ.out
            rw [HX.out, if_neg (by simp), if_pos h4'] at hz
            exact hz
          go_wp2
          refine bodyPost_ret (v := .tuple #[.string ⟨#[]⟩, .int .i64 0, .int .i64 2]) (by simp [results, Tryz.results74, go_sem]) rfl ⟨?_, HF.out⟩
          rw [HZ.out]; rfl
    · have HC := Lib.hid (char_all _ _ _ _ _ (HT.out.move HF.out) (by have := HLN.out.2; have := HRL.out; omega) HR.out)
      have hcl := chrF_len (c :: l3)
      have HM : Hid (restLen wr w.heap.size = (c :: l3).length) := HR.out.restLen
      have hne : c.toNat ≠ 34 := fun e => hc (UInt8.toNat_inj.1 e)
      have HMK := Lib.hid (mark_no _ c l3 v t1 _ hne HR.out)
      have hE := HE.out
      rw [loopF, if_neg hc] at hE
      generalize chrF (c :: l3) = X at *
      obtain ⟨x, m, l4⟩ := X
      dsimp only at hE hcl HC
      by_cases hx : x = 0
      · subst hx
        rw [if_neg (by simp)] at hE
        have hl4 := hcl rfl
        have HE2 := Lib.hid hE
        have HL4 := Lib.hid hl4
        clear HE HR hE hcl hne hc hl4
        go_wp2_with fail
        refine HMK.out.mono ?_
        rintro e w' ⟨rfl, rfl⟩
        go_wp2_with fail
        refine HC.out.mono ?_
        rintro e w2 ⟨rfl, hr2, hb2⟩
        obtain ⟨v2, hr2⟩ := hr2 rfl
        have HR3 := Lib.hid hr2
        have HF3 := Lib.hid (HF.out.below hb2 (Nat.le_refl _))
        clear hr2 hb2
        go_wp2
        go_roundw
        case rel => exact ⟨rfl, f, l4, t1 ++ m, v2, ⟨by have := HLN.out.1; have := HL4.out.2; omega, by have := HLN.out.2; have := HL4.out.1; rw [List.length_append]; omega⟩, HE2.out, HR3.out, HF3.out⟩
        case measure => rw [HM.out, HR3.out.restLen]; exact HL4.out.2
      · rw [if_pos hx] at hE
        have HX := Lib.hid hE
        have e0 : (x != 0) = true := by simpa using hx
        have HY := Lib.hid hx
        clear HE HR hE hcl hne hc hx
        go_wp2_with fail
        refine HMK.out.mono ?_
        rintro e w' ⟨rfl, rfl⟩
        go_wp2_with fail
        refine HC.out.mono ?_
        rintro e w2 ⟨rfl, hr2, hb2⟩
        have HF3 := Lib.hid (HF.out.below hb2 (Nat.le_refl _))
        clear hr2 hb2
        go_wp2
        refine bodyPost_ret (v := .tuple #[.string ⟨#[]⟩, .int .i64 0, .int .i64 x]) (by simp [results, Tryz.results74, go_sem]) rfl ⟨?_, HF3.out⟩
        have hz := hZ.out
        rw [HX.out, if_pos HY.out] at hz
        rw [hz]; rfl
end
section
open Go.Lib
def digB (c : UInt8) : Bool := decide (48 ≤ c.toNat ∧ c.toNat ≤ 57)
theorem digB_iff (c : UInt8) : digB c = true ↔ 48 ≤ c.toNat ∧ c.toNat ≤ 57 := by simp [digB]
def cnt (p : UInt8 → Bool) : List UInt8 → Nat
  | [] => 0
  | c :: l => if p c = true then cnt p l + 1 else 0
theorem cnt_le (p : UInt8 → Bool) : ∀ l : List UInt8, cnt p l ≤ l.length
  | [] => Nat.le_refl 0
  | c :: l => by
    have := cnt_le p l
    unfold cnt
    split
    · simp; omega
    · simp
theorem cnt_all (p : UInt8 → Bool) : ∀ l : List UInt8, (∀ c ∈ l, p c = true) ↔ cnt p l = l.length
  | [] => by simp [cnt]
  | c :: l => by
    have ih := cnt_all p l
    have hl := cnt_le p l
    unfold cnt
    by_cases h : p c = true
    · rw [if_pos h]
      simp [h, ih]
    · rw [if_neg h]
      simp [h]
def numA (acc : Nat) (l : List UInt8) : Nat := l.foldl (fun a c => a * 10 + (c.toNat - 48)) acc
def num (l : List UInt8) : Nat := numA 0 l
theorem numA_cons (acc : Nat) (c : UInt8) (l : List UInt8) : numA acc (c :: l) = numA (acc * 10 + (c.toNat - 48)) l := by unfold numA; rw [List.foldl_cons]
theorem numA_snoc (acc : Nat) (l : List UInt8) (c : UInt8) : numA acc (l ++ [c]) = numA acc l * 10 + (c.toNat - 48) := by simp [numA]
theorem numA_ge (l : List UInt8) : ∀ acc : Nat, acc ≤ numA acc l := by
  induction l with
  | nil => exact fun acc => Nat.le_refl acc
  | cons c l ih =>
    intro acc
    rw [numA_cons]
    have := ih (acc * 10 + (c.toNat - 48))
    generalize numA (acc * 10 + (c.toNat - 48)) l = z at *
    omega
theorem numA_eq : ∀ (l : List UInt8) (acc : Nat), numA acc l = acc * 10 ^ l.length + num l
  | [], acc => by simp [numA, num]
  | c :: l, acc => by
    have h1 := numA_eq l (acc * 10 + (c.toNat - 48))
    have h2 := numA_eq l (0 * 10 + (c.toNat - 48))
    have e : num (c :: l) = numA (0 * 10 + (c.toNat - 48)) l := numA_cons 0 c l
    rw [numA_cons, h1, e, h2, List.length_cons, Nat.pow_succ, Nat.zero_mul, Nat.zero_add, Nat.add_mul, Nat.mul_assoc, Nat.mul_comm 10]
    omega
theorem num_lt : ∀ (l : List UInt8), (∀ c ∈ l, digB c = true) → num l < 10 ^ l.length
  | [], _ => by simp [num, numA]
  | c :: l, h => by
    have ih := num_lt l (fun d hd => h d (List.mem_cons_of_mem _ hd))
    have hc := (digB_iff c).1 (h c (by simp))
    rw [num, numA_cons, numA_eq, List.length_cons, Nat.pow_succ]
    have : (0 * 10 + (c.toNat - 48)) * 10 ^ l.length ≤ 9 * 10 ^ l.length := Nat.mul_le_mul_right _ (by omega)
    omega
theorem num_cons (c : UInt8) (l : List UInt8) : num (c :: l) = (c.toNat - 48) * 10 ^ l.length + num l := by
  rw [num, numA_cons, numA_eq]; simp
theorem num_take (l : List UInt8) (k : Nat) : num (l.take k) ≤ num l := by
  conv => rhs; rw [← List.take_append_drop k l]
  have e : num (l.take k ++ l.drop k) = numA (num (l.take k)) (l.drop k) := by unfold num numA; rw [List.foldl_append]
  rw [e]
  exact numA_ge _ _
theorem pum (M : Nat) (hM : M ≤ 18446744073709551615) : ∀ (l : List UInt8) (acc : Nat), (∀ c ∈ l, digB c = true) → acc ≤ M → parseUintM M acc l = if numA acc l ≤ M then .ok (numA acc l) else .range
  | [], acc, _, ha => by
    show NumEnd.ok acc = _
    rw [if_pos (show numA acc [] ≤ M from ha)]
    rfl
  | c :: l, acc, h, ha => by
    have hc := (digB_iff c).1 (h c (by simp))
    have hge := numA_ge l (acc * 10 + (c.toNat - 48))
    rw [parseUintM, if_pos hc, numA_cons]
    by_cases h1 : 1844674407370955162 ≤ acc
    · rw [if_pos h1, if_neg (by omega)]
    · rw [if_neg h1]
      by_cases h2 : M < acc * 10 + (c.toNat - 48)
      · rw [if_pos h2, if_neg (by omega)]
      · rw [if_neg h2, pum M hM l _ (fun d hd => h d (List.mem_cons_of_mem _ hd)) (by omega)]
def behind (l : List UInt8) : List UInt8 := trimPrefix l [45]
theorem behind_minus (l : List UInt8) : behind (45 :: l) = l := by simp [behind, trimPrefix, hasPrefix]
theorem behind_other (l : List UInt8) (h : ∀ r, l ≠ 45 :: r) : behind l = l := by
  unfold behind trimPrefix hasPrefix
  rcases l with _ | ⟨c, l⟩
  · simp
  · have hc : (45 == c) = false := by
      rw [beq_eq_false_iff_ne]
      rintro rfl
      exact h l rfl
    simp [List.isPrefixOf, hc]
def minus (l : List UInt8) : Bool := match l with
  | [] => false
  | c :: _ => c == 45
def digits (ds : List UInt8) : Bool := decide (ds ≠ [] ∧ cnt digB ds = ds.length ∧ (ds.head? ≠ some 48 ∨ ds = [48]))
def most (l : List UInt8) : Nat := if minus l = true then 9223372036854775808 else 9223372036854775807
def wholeV (l : List UInt8) : Int := if digits (behind l) = true ∧ num (behind l) ≤ most l then (if minus l = true then -(num (behind l) : Int) else (num (behind l) : Int)) else 0
def wholeE (l : List UInt8) : Int := if digits (behind l) = true then (if num (behind l) ≤ most l then 0 else 7) else 12
theorem digits_iff (ds : List UInt8) : digits ds = true ↔ ds ≠ [] ∧ (∀ c ∈ ds, digB c = true) ∧ (ds.head? ≠ some 48 ∨ ds = [48]) := by
  rw [digits, decide_eq_true_iff, cnt_all]
theorem minus_of {l : List UInt8} (h : minus l = true) : ∃ r, l = 45 :: r := by
  unfold minus at h
  rcases l with _ | ⟨c, l⟩
  · cases h
  · have := eq_of_beq h
    subst this
    exact ⟨l, rfl⟩
theorem minus_no {l : List UInt8} (h : minus l = false) : ∀ r, l ≠ 45 :: r := by
  rintro r rfl
  simp [minus] at h
theorem parse_digits (l : List UInt8) (h : digits (behind l) = true) : parseIntB 64 l = if num (behind l) ≤ most l then .ok (if minus l = true then -(num (behind l) : Int) else (num (behind l) : Int)) else .range := by
  obtain ⟨h0, h1, _⟩ := (digits_iff _).1 h
  cases hm : minus l with
  | true =>
    obtain ⟨r, rfl⟩ := minus_of hm
    rw [behind_minus] at *
    have hp := pum 18446744073709551615 (Nat.le_refl _) r 0 h1 (by omega)
    have e1 : (45 : UInt8).toNat = 45 := rfl
    simp only [parseIntB, e1, parseUintB, h0, most, hm, if_true, if_false, or_true, show (2 ^ 64 - 1 : Nat) = 18446744073709551615 from rfl, show (2 ^ (64 - 1) : Nat) = 9223372036854775808 from rfl]
    rw [hp]
    show _ = if num r ≤ 9223372036854775808 then _ else _
    have e2 : numA 0 r = num r := rfl
    rw [e2]
    by_cases a : num r ≤ 18446744073709551615
    · rw [if_pos a]
      by_cases b : num r ≤ 9223372036854775808
      · rw [if_pos b]
        simp
        omega
      · rw [if_neg b]
        simp
        omega
    · rw [if_neg a, if_neg (by omega)]
  | false =>
    have hb := behind_other l (minus_no hm)
    rw [hb] at h h0 h1
    rw [hb]
    clear hb
    rcases l with _ | ⟨c, r⟩
    · exact absurd rfl h0
    have hc := (digB_iff c).1 (h1 c (by simp))
    have hp := pum 18446744073709551615 (Nat.le_refl _) (c :: r) 0 h1 (by omega)
    have e3 : ¬ c.toNat = 45 := by omega
    have e4 : ¬ c.toNat = 43 := by omega
    simp only [parseIntB, parseUintB, most, hm, e4, e3, or_self, show (2 ^ 64 - 1 : Nat) = 18446744073709551615 from rfl, show (2 ^ (64 - 1) : Nat) = 9223372036854775808 from rfl, reduceCtorEq, if_false]
    rw [hp]
    have e2 : numA 0 (c :: r) = num (c :: r) := rfl
    rw [e2]
    by_cases a : num (c :: r) ≤ 18446744073709551615
    · rw [if_pos a]
      by_cases b : num (c :: r) ≤ 9223372036854775807
      · rw [if_pos b]
        simp
        omega
      · rw [if_neg b]
        simp
        omega
    · rw [if_neg a, if_neg (by omega)]
theorem lex_num : ∀ (a b : List UInt8), a.length = b.length → (∀ c ∈ a, digB c = true) → (∀ c ∈ b, digB c = true) → (Op.bytesLess a b = true ↔ num a < num b) ∧ (a = b ↔ num a = num b)
  | [], [], _, _, _ => by simp [Op.bytesLess]
  | [], _ :: _, h, _, _ => by simp at h
  | _ :: _, [], h, _, _ => by simp at h
  | x :: a, y :: b, h, ha, hb => by
    have hl : a.length = b.length := by simpa using h
    obtain ⟨i1, i2⟩ := lex_num a b hl (fun d hd => ha d (List.mem_cons_of_mem _ hd)) (fun d hd => hb d (List.mem_cons_of_mem _ hd))
    have hx := (digB_iff x).1 (ha x (by simp))
    have hy := (digB_iff y).1 (hb y (by simp))
    have na := num_lt a (fun d hd => ha d (List.mem_cons_of_mem _ hd))
    have nb := num_lt b (fun d hd => hb d (List.mem_cons_of_mem _ hd))
    rw [num_cons, num_cons, hl]
    rw [hl] at na
    generalize 10 ^ b.length = t at *
    have hxy : x < y ↔ x.toNat < y.toNat := UInt8.lt_iff_toNat_lt
    rcases Nat.lt_trichotomy x.toNat y.toNat with hlt | heq | hgt
    · have k : (x.toNat - 48 + 1) * t ≤ (y.toNat - 48) * t := Nat.mul_le_mul_right _ (by omega)
      rw [Nat.add_mul, Nat.one_mul] at k
      have hne : x ≠ y := by rintro rfl; omega
      constructor
      · simp [Op.bytesLess, hxy.2 hlt]; omega
      · simp [hne]; omega
    · obtain rfl : x = y := UInt8.toNat_inj.1 heq
      constructor
      · rw [Op.bytesLess]
        simp [i1]
      · simp [i2]
    · have k : (y.toNat - 48 + 1) * t ≤ (x.toNat - 48) * t := Nat.mul_le_mul_right _ (by omega)
      rw [Nat.add_mul, Nat.one_mul] at k
      have hne : x ≠ y := by rintro rfl; omega
      have hnl : ¬ x < y := by rw [hxy]; omega
      constructor
      · rw [Op.bytesLess]
        simp [hnl, hne]; omega
      · simp [hne]; omega
theorem most_digits (ds m : List UInt8) (h : digits ds = true) (hm : m.length = 19) (hmd : ∀ c ∈ m, digB c = true) (h1 : 1000000000000000000 ≤ num m) :
    (19 < ds.length ∨ ds.length = 19 ∧ (Op.bytesLess ds m || ds == m) = false) ↔ num m < num ds := by
  obtain ⟨d0, d1, d2⟩ := (digits_iff _).1 h
  have hm2 := num_lt m hmd
  rw [hm] at hm2
  rcases Nat.lt_trichotomy ds.length 19 with hlt | heq | hgt
  · have k := num_lt ds d1
    have k2 : (10 : Nat) ^ ds.length ≤ 10 ^ 18 := Nat.pow_le_pow_right (by decide) (by omega)
    constructor
    · rintro (a | a) <;> omega
    · intro a
      have : (10 : Nat) ^ 18 = 1000000000000000000 := rfl
      omega
  · obtain ⟨i1, i2⟩ := lex_num ds m (by omega) d1 hmd
    constructor
    · rintro (a | ⟨_, a⟩)
      · omega
      · rw [Bool.or_eq_false_iff, beq_eq_false_iff_ne] at a
        have b1 : ¬ num ds < num m := fun e => by rw [i1.2 e] at a; exact absurd a.1 (by simp)
        have b2 : ¬ num ds = num m := fun e => a.2 (i2.2 e)
        omega
    · intro a
      refine .inr ⟨heq, ?_⟩
      rw [Bool.or_eq_false_iff, beq_eq_false_iff_ne]
      refine ⟨?_, fun e => ?_⟩
      · cases hb : Op.bytesLess ds m with
        | false => rfl
        | true => have := i1.1 hb; omega
      · have := i2.1 e; omega
  · rcases ds with _ | ⟨c, r⟩
    · exact absurd rfl d0
    have hc := (digB_iff c).1 (d1 c (by simp))
    have hc2 : c.toNat ≠ 48 := fun e => by
      have : c = 48 := UInt8.toNat_inj.1 e
      subst this
      rcases d2 with d2 | d2
      · simp at d2
      · rw [d2] at hgt; simp at hgt
    have k : 1 * 10 ^ r.length ≤ (c.toNat - 48) * 10 ^ r.length := Nat.mul_le_mul_right _ (by omega)
    have k2 : (10 : Nat) ^ 19 ≤ 10 ^ r.length := Nat.pow_le_pow_right (by decide) (by simp at hgt; omega)
    rw [num_cons]
    constructor
    · intro _; omega
    · exact fun _ => .inl hgt
end
end Go.Proofs.YtcljplkkgpjhlaaGreatDoorR
