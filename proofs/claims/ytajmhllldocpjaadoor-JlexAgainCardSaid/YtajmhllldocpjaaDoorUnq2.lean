/-
  Package utf's reader, of whatever text: escapes, characters; and Unquote.
-/
import Derived.Test.YtajmhllldocpjaaDoorUnq1
import Derived.Test.YtajmhllldocpjaaDoorRead4
import Derived.Test.YtajmhllldocpjaaDoorChars
namespace Go.Proofs.YtajmhllldocpjaaDoor
open Go.ChangeShapes Go.WideShapes Go.ChangeAt Go.RowKit
attribute [local go_sem ↓] Go.wp_at_zero Go.wp_at_succ
variable {w : World}

/-- What a method of the reader leaves: the code; where that is 0 what was read besides, and what is left. -/
def After (w : World) (b : Nat) (text : List UInt8) (x : Int × List UInt8 × List UInt8) (e : Ending) (w' : World) : Prop := e = .returned (.int .i64 x.1) ∧ (x.1 = 0 → ∃ v, Rdr w' b x.2.2 v (text ++ x.2.1)) ∧ Below b w w'
theorem After.of_reads {w : World} {b : Nat} {text m rest : List UInt8} {e : Ending} {w' : World} (h : Reads w b rest (text ++ m) 0 e w') : After w b text (0, m, rest) e w' := ⟨h.1, fun _ => h.2.1, h.2.2⟩
theorem rune_vals (n : Int) : Lib.runeCells n = vals (Lib.encodeRune n) ∧ 0 < (Lib.encodeRune n).length ∧ (Lib.encodeRune n).length ≤ 4 := by
  have h1 := Lib.byteCells_encodeRune n
  have h2 := Lib.runeCells_le n
  rw [Lib.runeCells_length] at h2
  exact ⟨h1.symm, h2.1, h2.2⟩
def byNumF (l : List UInt8) : Int × List UInt8 × List UInt8 :=
  if (numF 4 0 l).1 ≠ 0 then ((numF 4 0 l).1, [], [])
  else if firstB (numF 4 0 l).2.1 = true then
    (if (otherF (numF 4 0 l).2.1 (numF 4 0 l).2.2).1 ≠ 0 then ((otherF (numF 4 0 l).2.1 (numF 4 0 l).2.2).1, [], []) else (0, Lib.encodeRune (otherF (numF 4 0 l).2.1 (numF 4 0 l).2.2).2.1, (otherF (numF 4 0 l).2.1 (numF 4 0 l).2.2).2.2))
  else if secondB (numF 4 0 l).2.1 = true then (10, [], []) else (0, Lib.encodeRune (numF 4 0 l).2.1, (numF 4 0 l).2.2)
theorem otherF_bd (f : Int) (l : List UInt8) (h0 : 55296 ≤ f) (h1 : f < 56320) : ((otherF f l).1 ≠ 0 → (otherF f l).2.1 = 0) ∧ ((otherF f l).1 = 0 → 65536 ≤ (otherF f l).2.1 ∧ (otherF f l).2.1 ≤ 1114111) := by
  unfold otherF
  by_cases a : l.isPrefixOf [92, 117] = true
  · rw [if_pos a]; exact ⟨fun _ => rfl, fun e => by simp at e⟩
  rw [if_neg a]
  by_cases b : ([92, 117] : List UInt8).isPrefixOf l = false
  · rw [if_pos b]; exact ⟨fun _ => rfl, fun e => by simp at e⟩
  rw [if_neg b]
  generalize numF 4 0 (l.drop 2) = F
  by_cases c : F.1 ≠ 0
  · rw [if_pos c]; exact ⟨fun _ => rfl, fun e => absurd e c⟩
  rw [if_neg c]
  by_cases d : secondB F.2.1 = false
  · rw [if_pos d]; exact ⟨fun _ => rfl, fun e => by simp at e⟩
  rw [if_neg d]
  have hs : 56320 ≤ F.2.1 ∧ F.2.1 < 57344 := by
    cases hb : secondB F.2.1 with
    | false => exact absurd hb d
    | true => exact of_decide_eq_true hb
  exact ⟨fun e => absurd rfl e, fun _ => by dsimp only; omega⟩
theorem byNum_err (l : List UInt8) (h : (numF 4 0 l).1 ≠ 0) : byNumF l = ((numF 4 0 l).1, [], []) := by rw [byNumF, if_pos h]
theorem byNum_one (l : List UInt8) (h : (numF 4 0 l).1 = 0) (h1 : firstB (numF 4 0 l).2.1 = false) (h2 : secondB (numF 4 0 l).2.1 = false) : byNumF l = (0, Lib.encodeRune (numF 4 0 l).2.1, (numF 4 0 l).2.2) := by
  rw [byNumF, if_neg (by simpa using h), if_neg (by rw [h1]; simp), if_neg (by rw [h2]; simp)]
theorem byNum_sec (l : List UInt8) (h : (numF 4 0 l).1 = 0) (h1 : firstB (numF 4 0 l).2.1 = false) (h2 : secondB (numF 4 0 l).2.1 = true) : byNumF l = (10, [], []) := by
  rw [byNumF, if_neg (by simpa using h), if_neg (by rw [h1]; simp), if_pos h2]
theorem byNum_pair (l : List UInt8) (h : (numF 4 0 l).1 = 0) (h1 : firstB (numF 4 0 l).2.1 = true) : byNumF l = if (otherF (numF 4 0 l).2.1 (numF 4 0 l).2.2).1 ≠ 0 then ((otherF (numF 4 0 l).2.1 (numF 4 0 l).2.2).1, [], []) else (0, Lib.encodeRune (otherF (numF 4 0 l).2.1 (numF 4 0 l).2.2).2.1, (otherF (numF 4 0 l).2.1 (numF 4 0 l).2.2).2.2) := by
  rw [byNumF, if_neg (by simpa using h), if_pos h1]

set_option maxRecDepth 100000 in
set_option maxHeartbeats 2000000 in
theorem byNumber_all (b : Nat) (l : List UInt8) (v : Value) (text : List UInt8) (w : World) (hl : text.length ≤ 100000) (h : Rdr w b l v text) :
    Calls Tryd.prog 49 #[.pointer (some ⟨b, 0, none⟩)] w (After w b text (byNumF l)) := by
  have HN := Lib.hid (number_all b l v text w h)
  have he := numF_err 4 0 l
  have hb := numF_four l
  have k0 := byNum_err l
  have k1 := byNum_one l
  have k2 := byNum_sec l
  have k3 := byNum_pair l
  have hlt := lt_of_at h.box
  clear h
  generalize byNumF l = Z at *
  generalize numF 4 0 l = F at *
  obtain ⟨x, n, r⟩ := F
  dsimp only at HN he hb k0 k1 k2 k3
  obtain ⟨n0, n1⟩ := hb
  have hn2 : n ≤ 2000000 := by omega
  by_cases hx : x = 0
  · subst hx
    have HS := Lib.hid (fun W => second_all n W n0 hn2)
    have HF := Lib.hid (fun W => first_all n W n0 hn2)
    cases hf : firstB n with
    | false =>
      rw [hf] at HF
      cases hs : secondB n with
      | true =>
        rw [hs] at HS
        have HX := Lib.hid (k2 rfl hf hs)
        clear k0 k1 k2 k3 he hf hs
        go_enter Tryd.func49, Tryd.ntmps49
        go_wp2_with fail
        refine HN.out.mono ?_
        rintro e w1 ⟨rfl, hr, hb1⟩
        have HB1 := Lib.hid hb1
        clear hr hb1
        go_wp2_with fail
        refine (HF.out _).mono ?_
        rintro e w' ⟨rfl, rfl⟩
        go_wp2_with fail
        refine (HS.out _).mono ?_
        rintro e w' ⟨rfl, rfl⟩
        go_wp2
        go_ret
        rw [HX.out]
        exact ⟨rfl, (fun e => by simp at e), HB1.out⟩
      | false =>
        rw [hs] at HS
        have HX := Lib.hid (k1 rfl hf hs)
        have hrv := rune_vals n
        have HRV := Lib.hid hrv
        clear k0 k1 k2 k3 he hf hs hrv
        go_enter Tryd.func49, Tryd.ntmps49
        go_wp2_with fail
        refine HN.out.mono ?_
        rintro e w1 ⟨rfl, hr, hb1⟩
        have HR := Lib.hid (hr trivial)
        have HB1 := Lib.hid hb1
        have c1 := HR.out.c1
        have hlt1 := lt_of_at HR.out.box
        clear hr hb1
        go_wp2_with fail
        refine (HF.out _).mono ?_
        rintro e w' ⟨rfl, rfl⟩
        go_wp2_with fail
        refine (HS.out _).mono ?_
        rintro e w' ⟨rfl, rfl⟩
        go_wp2_with fail
        refine (rune_any (b + 1) v text (Lib.encodeRune n) n _ n0 (by omega) (by omega) (by omega) HR.out.buf HRV.out.1 HRV.out.2.1).mono ?_
        rintro e w2 ⟨g2, m2, q2, rfl, hb2, hg2⟩
        have HP := Lib.hid (HR.out.push hb2 hg2)
        clear hb2 hg2
        have d1 := HP.out.c1
        have d2 := HP.out.f1
        have d3 := HP.out.lt
        go_wp2
        go_ret
        rw [HX.out]
        exact ⟨rfl, fun _ => ⟨_, HP.out.rdr⟩, HB1.out.trans HP.out.below⟩
    | true =>
      rw [hf] at HF
      have hfn := of_decide_eq_true hf
      have k4 := k3 rfl hf
      have ho := otherF_bd n r hfn.1 hfn.2
      have HO := Lib.hid (fun W h => other_all b n r v text W hfn.1 hfn.2 h)
      clear k0 k1 k2 k3 he hf HS
      generalize otherF n r = G at *
      obtain ⟨y, m, r2⟩ := G
      dsimp only at k4 ho HO
      by_cases hy : y = 0
      · subst hy
        rw [if_neg (by simp)] at k4
        have HX := Lib.hid k4
        have hm := ho.2 rfl
        obtain ⟨m0, m1⟩ := hm
        have HS2 := Lib.hid (fun W => second_all m W (by omega) (by omega))
        have hs2 : secondB m = false := decide_eq_false (by omega)
        rw [hs2] at HS2
        have HRV := Lib.hid (rune_vals m)
        clear k4 ho hs2 hfn
        go_enter Tryd.func49, Tryd.ntmps49
        go_wp2_with fail
        refine HN.out.mono ?_
        rintro e w1 ⟨rfl, hr, hb1⟩
        have HR := Lib.hid (hr trivial)
        have HB1 := Lib.hid hb1
        clear hr hb1
        go_wp2_with fail
        refine (HF.out _).mono ?_
        rintro e w' ⟨rfl, rfl⟩
        go_wp2_with fail
        refine (HO.out _ HR.out).mono ?_
        rintro e w2 ⟨rfl, hr, hb1⟩
        have HR2 := Lib.hid (hr trivial)
        have HB2 := Lib.hid (HB1.out.trans hb1)
        have c1 := HR2.out.c1
        have hlt1 := lt_of_at HR2.out.box
        clear hr hb1 HR HB1
        go_wp2_with fail
        refine (HS2.out _).mono ?_
        rintro e w' ⟨rfl, rfl⟩
        go_wp2_with fail
        refine (rune_any (b + 1) v text (Lib.encodeRune m) m _ (by omega) (by omega) (by omega) (by omega) HR2.out.buf HRV.out.1 HRV.out.2.1).mono ?_
        rintro e w3 ⟨g2, m2, q2, rfl, hb2, hg2⟩
        have HP := Lib.hid (HR2.out.push hb2 hg2)
        clear hb2 hg2
        have d1 := HP.out.c1
        have d2 := HP.out.f1
        have d3 := HP.out.lt
        go_wp2
        go_ret
        rw [HX.out]
        exact ⟨rfl, fun _ => ⟨_, HP.out.rdr⟩, HB2.out.trans HP.out.below⟩
      · rw [if_pos hy] at k4
        have HX := Lib.hid k4
        obtain rfl := ho.1 hy
        have e0 : (y != 0) = true := by simpa using hy
        have HY := Lib.hid hy
        clear k4 ho hfn hy
        go_enter Tryd.func49, Tryd.ntmps49
        go_wp2_with fail
        refine HN.out.mono ?_
        rintro e w1 ⟨rfl, hr, hb1⟩
        have HR := Lib.hid (hr trivial)
        have HB1 := Lib.hid hb1
        clear hr hb1
        go_wp2_with fail
        refine (HF.out _).mono ?_
        rintro e w' ⟨rfl, rfl⟩
        go_wp2_with fail
        refine (HO.out _ HR.out).mono ?_
        rintro e w2 ⟨rfl, hr, hb1⟩
        have HB2 := Lib.hid (HB1.out.trans hb1)
        clear hr hb1
        go_wp2
        go_ret
        rw [HX.out]
        exact ⟨rfl, (fun e => absurd e HY.out), HB2.out⟩
  · obtain rfl := he hx
    have HF := Lib.hid (fun W => first_all 0 W (by omega) (by omega))
    have hf : firstB 0 = false := by decide
    rw [hf] at HF
    have HX := Lib.hid (k0 hx)
    have e0 : (x != 0) = true := by simpa using hx
    have HY := Lib.hid hx
    clear k0 k1 k2 k3 he hf hx
    go_enter Tryd.func49, Tryd.ntmps49
    go_wp2_with fail
    refine HN.out.mono ?_
    rintro e w1 ⟨rfl, hr, hb1⟩
    have HB1 := Lib.hid hb1
    clear hr hb1
    go_wp2_with fail
    refine (HF.out _).mono ?_
    rintro e w' ⟨rfl, rfl⟩
    go_wp2
    go_ret
    rw [HX.out]
    exact ⟨rfl, (fun e => absurd e HY.out), HB1.out⟩
end Go.Proofs.YtajmhllldocpjaaDoor
