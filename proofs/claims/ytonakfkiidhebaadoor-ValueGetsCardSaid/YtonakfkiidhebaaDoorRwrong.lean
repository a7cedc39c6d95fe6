/-
  The document's Check.
-/
import Derived.Test.YtonakfkiidhebaaDoorKeys
import Derived.Test.YtonakfkiidhebaaDoorUtf
namespace Go.Proofs.YtonakfkiidhebaaDoor
open Go.ChangeShapes Go.WideShapes Go.ChangeAt Go.RowKit
variable {w : World}

set_option maxRecDepth 100000 in
set_option maxHeartbeats 1000000 in
theorem rwrong_other (k : Int) (f : Bool) (n : Int) (s : ByteArray) (la : Option Addr) (ln lc : Nat) (ka : Option Addr) (kn kc : Nat) (w : World) (hs : s.size ≤ 1000000) (h4 : k ≠ 4) (h5 : k ≠ 5) :
    Calls Tryd.prog 26 #[mval k f n s la ln lc ka kn kc] w fun e w' => e = .returned (.int .i64 (if k < 0 ∨ 5 < k then 15 else if k = 3 then textW s else 0)) ∧ Fresh w w' := by
  have e4 : (k == 4) = false := by simpa using h4
  have e5 : (k == 5) = false := by simpa using h5
  by_cases hlo : k < 0
  · rw [if_pos (.inl hlo)]
    clear h4 h5 e4 e5
    go_enter Tryd.func26, Tryd.ntmps26
    go_wp2
    go_ret
    exact ⟨rfl, (Fresh.refl w).alloc _⟩
  by_cases hhi : 5 < k
  · rw [if_pos (.inr hhi)]
    clear h4 h5 e4 e5
    go_enter Tryd.func26, Tryd.ntmps26
    go_wp2
    go_ret
    exact ⟨rfl, (Fresh.refl w).alloc _⟩
  rw [if_neg (by omega)]
  by_cases h3 : k = 3
  · subst h3
    rw [if_pos rfl]
    have HQ : Hid (∀ W, Calls Tryd.prog 38 #[.string s] W fun e w' => e = .returned (.int .i64 (textW s)) ∧ W = w') := fun W => rtext_any s W hs
    generalize textW s = x at *
    clear h4 h5 e4 e5 hlo hhi
    go_enter Tryd.func26, Tryd.ntmps26
    go_wp2_with fail
    refine (HQ.out _).mono ?_
    rintro e w1 ⟨rfl, rfl⟩
    go_wp2
    go_ret
    exact ⟨rfl, (Fresh.refl w).alloc _⟩
  · rw [if_neg h3]
    have e3 : (k == 3) = false := by simpa using h3
    clear h3 h4 h5
    go_enter Tryd.func26, Tryd.ntmps26
    go_wp2
    go_ret
    exact ⟨rfl, (Fresh.refl w).alloc _⟩
set_option maxRecDepth 100000 in
set_option maxHeartbeats 1000000 in
theorem rwrong_list (f : Bool) (n : Int) (s : ByteArray) (la : Option Addr) (lc : Nat) (l : List M) (ka : Option Addr) (kn kc : Nat) (w : World) (hl : RowAt w la (mcells l)) (ll : l.length ≤ 1000000)
    (ih : ∀ x ∈ l, ∀ W, Fresh w W → Calls Tryd.prog 26 #[x.val] W fun e w' => e = .returned (.int .i64 x.plain.wrong) ∧ Fresh W w') :
    Calls Tryd.prog 26 #[mval 4 f n s la l.length lc ka kn kc] w fun e w' => e = .returned (.int .i64 (wrongL (l.map M.plain))) ∧ Fresh w w' := by
  have HIH := Lib.hid ih
  have HR := Lib.hid hl
  clear ih hl
  go_enter Tryd.func26, Tryd.ntmps26
  go_wp2
  go_loopw [3] (fun a3 wq => ∃ j : Nat, j ≤ l.length ∧ a3 = .int .i64 j ∧ Hid (wrongL (l.map M.plain) = wrongL ((l.map M.plain).drop j)) ∧ Hid (Fresh (w.alloc (.cells #[.int .i64 4, .bool f, .int .i64 n, .string s, .slice la l.length lc, .slice ka kn kc] 33)) wq)) (fun a3 _ => l.length - (intOf a3).toNat)
  case atStart => exact ⟨0, Nat.zero_le _, rfl, rfl, Fresh.refl _⟩
  case round =>
    obtain ⟨j, hj, rfl, HE, HW⟩ := hrel
    obtain ⟨b0, b1, b2, b3, b4, b5⟩ := box6' (HW.out.at (at_new w _))
    have HW2 := Lib.hid (((Fresh.refl w).alloc _).trans HW.out)
    by_cases hlt : j < l.length
    · obtain ⟨g, eg⟩ := row_some HR.out j hlt
      subst eg
      have hy := mrow_get (HR.out.move HW2.out) j hlt
      have hd := wrongL_drop (l.map M.plain) j (by simpa using hlt)
      rw [List.getElem_map] at hd
      have HX := Lib.hid hd
      have HQ : Hid (Calls Tryd.prog 26 #[l[j].val] wr fun e w' => e = .returned (.int .i64 l[j].plain.wrong) ∧ Fresh wr w') := HIH.out _ (List.getElem_mem _) wr HW2.out
      clear hd
      generalize l[j] = y at *
      generalize y.plain.wrong = x at *
      obtain ⟨yk, yf, yn, ys, yla, ylc, yl, yka, ykc, yks⟩ := y
      obtain ⟨d0, d1, d2, d3, d4, d5⟩ := hy
      dsimp only [M.val] at HQ
      generalize yl.length = yln at *
      generalize yks.length = ykn at *
      by_cases hx : x = 0
      · subst hx
        have HX2 : Hid (wrongL ((l.map M.plain).drop j) = wrongL ((l.map M.plain).drop (j + 1))) := by rw [Hid, HX.out, if_neg (by simp)]
        go_wp2_with fail
        refine HQ.out.mono ?_
        rintro e w3 ⟨rfl, hf⟩
        have HF := Lib.hid (HW.out.trans hf)
        clear hf
        go_wp2
        go_roundw
        case rel => exact ⟨j + 1, by omega, by go_num, by rw [Hid, HE.out, HX2.out], HF.out⟩
        case measure => simp [intOf]; omega
      · have HX2 : Hid (wrongL (l.map M.plain) = x) := by rw [Hid, HE.out, HX.out, if_pos hx]
        have hxb : (x == 0) = false := by simpa using hx
        go_wp2_with fail
        refine HQ.out.mono ?_
        rintro e w3 ⟨rfl, hf⟩
        have HF := Lib.hid (HW2.out.trans hf)
        clear hf
        go_wp2
        go_ret
        exact ⟨ret_int (by rw [HX2.out]), HF.out⟩
    · obtain rfl : j = l.length := by omega
      have HX : Hid (wrongL (l.map M.plain) = 0) := by rw [Hid, HE.out, List.drop_eq_nil_of_le (by simp)]; rfl
      go_wp2
      go_ret
      exact ⟨ret_int (by rw [HX.out]), HW2.out⟩
theorem not_take {ks : List (ByteArray × M)} {k : Nat} (h : k < ks.length) {s : ByteArray} (hm : s ∉ (ks.map (·.1)).take k) (hne : ks[k].1 ≠ s) : s ∉ (ks.map (·.1)).take (k + 1) := by
  rw [List.take_succ_eq_append_getElem (by simpa using h), List.getElem_map, List.mem_append, List.mem_singleton]
  rintro (h | h)
  · exact hm h
  · exact hne h.symm
theorem in_take {ks : List (ByteArray × M)} {k i : Nat} (hki : k < i) (hi : i < ks.length) : ks[k].1 ∈ (ks.map (·.1)).take i := by
  rw [List.mem_take_iff_getElem]
  exact ⟨k, by simp; omega, by simp⟩
set_option maxRecDepth 100000 in
set_option maxHeartbeats 4000000 in
theorem rwrong_keys (f : Bool) (n : Int) (s : ByteArray) (la : Option Addr) (ln lc : Nat) (ka : Option Addr) (kc : Nat) (ks : List (ByteArray × M)) (w : World) (hl : RowAt w ka (pcells ks)) (ll : ks.length ≤ 1000000) (hn : ∀ p ∈ ks, p.1.size ≤ 1000000)
    (ih : ∀ x ∈ ks, ∀ W, Fresh w W → Calls Tryd.prog 26 #[x.2.val] W fun e w' => e = .returned (.int .i64 x.2.plain.wrong) ∧ Fresh W w') :
    Calls Tryd.prog 26 #[mval 5 f n s la ln lc ka ks.length kc] w fun e w' => e = .returned (.int .i64 (if keysW (ks.map (·.1)) ≠ 0 then keysW (ks.map (·.1)) else wrongL (ks.map fun p => p.2.plain))) ∧ Fresh w w' := by
  have HIH := Lib.hid ih
  have HR := Lib.hid hl
  have HN := Lib.hid hn
  clear ih hl hn
  obtain ⟨RES, HRES⟩ : ∃ R : Int, Hid ((if keysW (ks.map (·.1)) ≠ 0 then keysW (ks.map (·.1)) else wrongL (ks.map fun p => p.2.plain)) = R) := ⟨_, rfl⟩
  rw [HRES.out]
  go_enter Tryd.func26, Tryd.ntmps26
  go_wp2
  go_loopw [5] (fun a wq => ∃ j : Nat, j ≤ ks.length ∧ a = .int .i64 j ∧ Hid (textsW (ks.map (·.1)) = textsW ((ks.map (·.1)).drop j)) ∧ Hid (Fresh (w.alloc (.cells #[.int .i64 5, .bool f, .int .i64 n, .string s, .slice la ln lc, .slice ka ks.length kc] 33)) wq)) (fun a _ => ks.length - (intOf a).toNat)
  case atStart => exact ⟨0, Nat.zero_le _, rfl, rfl, Fresh.refl _⟩
  case round =>
    obtain ⟨j, hj, rfl, HE, HW⟩ := hrel
    obtain ⟨b0, b1, b2, b3, b4, b5⟩ := box6' (HW.out.at (at_new w _))
    have HW2 := Lib.hid (((Fresh.refl w).alloc _).trans HW.out)
    by_cases hlt : j < ks.length
    · obtain ⟨g, eg⟩ := prow_some HR.out j hlt
      subst eg
      obtain ⟨c, _⟩ := prow_get (HR.out.move HW2.out) j hlt
      have HX := Lib.hid (textsW_at ks j hlt)
      have hb := textW_bd ks[j].1
      have HQ : Hid (∀ W, Calls Tryd.prog 38 #[.string ks[j].1] W fun e w' => e = .returned (.int .i64 (textW ks[j].1)) ∧ W = w') := fun W => rtext_any _ W (HN.out _ (List.getElem_mem _))
      generalize ks[j].1 = nm at *
      generalize textW nm = x at *
      by_cases hx : x = 0
      · subst hx
        have HX2 : Hid (textsW ((ks.map (·.1)).drop j) = textsW ((ks.map (·.1)).drop (j + 1))) := by rw [Hid, HX.out, if_neg (by simp)]
        go_wp2_with fail
        refine (HQ.out _).mono ?_
        rintro e w3 ⟨rfl, rfl⟩
        go_wp2
        go_roundw
        case rel => exact ⟨j + 1, by omega, by go_num, by rw [Hid, HE.out, HX2.out], HW.out⟩
        case measure => simp [intOf]; omega
      · have HX2 : Hid (RES = x) := by
          have h1 : textsW (ks.map (·.1)) = x := by rw [HE.out, HX.out, if_pos hx]
          have h2 : keysW (ks.map (·.1)) = x := by rw [keysW, h1, if_pos hx]
          rw [Hid, ← HRES.out, h2, if_pos hx]
        have hxb : (x == 0) = false := by simpa using hx
        go_wp2_with fail
        refine (HQ.out _).mono ?_
        rintro e w3 ⟨rfl, rfl⟩
        go_wp2
        go_ret
        exact ⟨ret_int (by rw [HX2.out]), HW2.out⟩
    · obtain rfl : j = ks.length := by omega
      have HK : Hid (keysW (ks.map (·.1)) = if (ks.map (·.1)).Nodup then 0 else 8) := by
        have h1 : textsW (ks.map (·.1)) = 0 := by
          rw [HE.out, List.drop_eq_nil_of_le (by simp)]; rfl
        rw [Hid, keysW, h1, if_neg (by simp)]
      have HWA := Lib.hid HW.out
      clear HE HW HW2
      go_wp2
      clear b0 b1 b2 b3 b4 b5
      go_loopw [7] (fun a wq => ∃ i : Nat, i ≤ ks.length ∧ a = .int .i64 i ∧ Hid (((ks.map (·.1)).take i).Nodup) ∧ Hid (Fresh (w.alloc (.cells #[.int .i64 5, .bool f, .int .i64 n, .string s, .slice la ln lc, .slice ka ks.length kc] 33)) wq)) (fun a _ => ks.length - (intOf a).toNat)
      case atStart => exact ⟨0, Nat.zero_le _, rfl, by simp [Hid], HWA.out⟩
      case round =>
        obtain ⟨i, hi, rfl, HND, HW⟩ := hrel
        clear HWA
        obtain ⟨b0, b1, b2, b3, b4, b5⟩ := box6' (HW.out.at (at_new w _))
        have HW2 := Lib.hid (((Fresh.refl w).alloc _).trans HW.out)
        by_cases hlt : i < ks.length
        · obtain ⟨g, eg⟩ := prow_some HR.out i hlt
          subst eg
          have H1 := Lib.hid (@twice_at ks i hlt)
          have H2 := Lib.hid (@once_at ks i hlt HND.out)
          go_wp2
          clear b0 b1 b2 b3 b4 b5
          go_loopw [8] (fun a wq => ∃ k : Nat, k ≤ i ∧ a = .int .i64 k ∧ Hid (ks[i].1 ∉ (ks.map (·.1)).take k) ∧ Hid (Fresh (w.alloc (.cells #[.int .i64 5, .bool f, .int .i64 n, .string s, .slice la ln lc, .slice (some ⟨g, 0, none⟩) ks.length kc] 33)) wq)) (fun a _ => i - (intOf a).toNat)
          case atStart => exact ⟨0, Nat.zero_le _, rfl, by simp [Hid], HW.out⟩
          case round =>
            obtain ⟨k, hk, rfl, HNI, HW3⟩ := hrel
            clear HW HW2
            obtain ⟨b0, b1, b2, b3, b4, b5⟩ := box6' (HW3.out.at (at_new w _))
            have HW4 := Lib.hid (((Fresh.refl w).alloc _).trans HW3.out)
            by_cases hki : k < i
            · obtain ⟨c, _⟩ := prow_get (HR.out.move HW4.out) i hlt
              obtain ⟨d, _⟩ := prow_get (HR.out.move HW4.out) k (by omega)
              have H3 := Lib.hid (not_take (ks := ks) (k := k) (by omega) HNI.out)
              have H4 := Lib.hid (in_take (ks := ks) hki hlt)
              have i1 : (0 : Int) ≤ (i : Int) := by omega
              have i2 : (i : Int) < (ks.length : Int) := by omega
              have i3 : (0 : Int) ≤ (k : Int) := by omega
              have i4 : (k : Int) < (ks.length : Int) := by omega
              have hklt : k < ks.length := by omega
              generalize hp : ks[i].1 = p at *
              generalize hq : ks[k].1 = q at *
              have HP := Lib.hid hp
              have HQ := Lib.hid hq
              clear hp hq
              by_cases hpq : p = q
              · have hb : (p.toList == q.toList) = true := by rw [toList_beq, decide_eq_true hpq]
                have HX : Hid (RES = 8) := by
                  have h1 : ¬ (ks.map (·.1)).Nodup := H1.out (by rw [hpq]; exact H4.out)
                  have h2 : keysW (ks.map (·.1)) = 8 := by rw [HK.out, if_neg h1]
                  rw [Hid, ← HRES.out, h2, if_pos (by decide)]
                clear hpq
                go_wp2
                go_quiet (fail)
                go_wp2
                go_ret
                exact ⟨ret_int (by rw [HX.out]), HW4.out.drewN _⟩
              · have hb : (p.toList == q.toList) = false := by rw [toList_beq, decide_eq_false hpq]
                have H5 := Lib.hid (H3.out (fun e => hpq e.symm))
                clear hpq
                go_wp2
                go_quiet (fail)
                go_wp2
                go_roundw
                case rel => exact ⟨k + 1, by omega, by go_num, H5.out, HW3.out.drewN _⟩
                case measure => simp [intOf]; omega
            · obtain rfl : k = i := by omega
              have H5 := Lib.hid (H2.out HNI.out)
              go_wp2
              go_roundw
              case rel => exact ⟨k + 1, by omega, by go_num, H5.out, HW3.out⟩
              case measure => simp [intOf]; omega
        · obtain rfl : i = ks.length := by omega
          have HX : Hid (RES = wrongL (ks.map fun p => p.2.plain)) := by
            have h1 := HND.out
            rw [List.take_of_length_le (by simp)] at h1
            have h2 : keysW (ks.map (·.1)) = 0 := by rw [HK.out, if_pos h1]
            rw [Hid, ← HRES.out, h2, if_neg (by simp)]
          have HWA := Lib.hid HW.out
          clear HW HW2
          go_wp2
          clear b0 b1 b2 b3 b4 b5
          go_loopw [9] (fun a wq => ∃ j : Nat, j ≤ ks.length ∧ a = .int .i64 j ∧ Hid (wrongL (ks.map fun p => p.2.plain) = wrongL ((ks.map fun p => p.2.plain).drop j)) ∧ Hid (Fresh (w.alloc (.cells #[.int .i64 5, .bool f, .int .i64 n, .string s, .slice la ln lc, .slice ka ks.length kc] 33)) wq)) (fun a _ => ks.length - (intOf a).toNat)
          case atStart => exact ⟨0, Nat.zero_le _, rfl, rfl, HWA.out⟩
          case round =>
            obtain ⟨j, hj, rfl, HE, HW⟩ := hrel
            clear HWA
            obtain ⟨b0, b1, b2, b3, b4, b5⟩ := box6' (HW.out.at (at_new w _))
            have HW2 := Lib.hid (((Fresh.refl w).alloc _).trans HW.out)
            by_cases hlt : j < ks.length
            · obtain ⟨g, eg⟩ := prow_some HR.out j hlt
              subst eg
              obtain ⟨c, hy⟩ := prow_get (HR.out.move HW2.out) j hlt
              have hd := wrongL_drop (ks.map fun p => p.2.plain) j (by simpa using hlt)
              rw [List.getElem_map] at hd
              have HXX := Lib.hid hd
              have HQ : Hid (Calls Tryd.prog 26 #[ks[j].2.val] wr fun e w' => e = .returned (.int .i64 ks[j].2.plain.wrong) ∧ Fresh wr w') := HIH.out _ (List.getElem_mem _) wr HW2.out
              clear hd c
              generalize ks[j].2 = y at *
              generalize y.plain.wrong = x at *
              obtain ⟨yk, yf, yn, ys, yla, ylc, yl, yka, ykc, yks⟩ := y
              obtain ⟨d0, d1, d2, d3, d4, d5⟩ := hy
              dsimp only [M.val] at HQ
              generalize yl.length = yln at *
              generalize yks.length = ykn at *
              by_cases hx : x = 0
              · subst hx
                have HX2 : Hid (wrongL ((ks.map fun p => p.2.plain).drop j) = wrongL ((ks.map fun p => p.2.plain).drop (j + 1))) := by rw [Hid, HXX.out, if_neg (by simp)]
                go_wp2_with fail
                refine HQ.out.mono ?_
                rintro e w3 ⟨rfl, hf⟩
                have HF := Lib.hid (HW.out.trans hf)
                clear hf
                go_wp2
                go_roundw
                case rel => exact ⟨j + 1, by omega, by go_num, by rw [Hid, HE.out, HX2.out], HF.out⟩
                case measure => simp [intOf]; omega
              · have HX2 : Hid (RES = x) := by rw [Hid, HX.out, HE.out, HXX.out, if_pos hx]
                have hxb : (x == 0) = false := by simpa using hx
                go_wp2_with fail
                refine HQ.out.mono ?_
                rintro e w3 ⟨rfl, hf⟩
                have HF := Lib.hid (HW2.out.trans hf)
                clear hf
                go_wp2
                go_ret
                exact ⟨ret_int (by rw [HX2.out]), HF.out⟩
            · obtain rfl : j = ks.length := by omega
              have HXX : Hid (RES = 0) := by rw [Hid, HX.out, HE.out, List.drop_eq_nil_of_le (by simp)]; rfl
              go_wp2
              go_ret
              exact ⟨ret_int (by rw [HXX.out]), HW2.out⟩
theorem rwrong_all (N : Nat) : ∀ (m : M) (w : World), m.plain.size ≤ N → m.At w → Calls Tryd.prog 26 #[m.val] w fun e w' => e = .returned (.int .i64 m.plain.wrong) ∧ Fresh w w' := by
  induction N with
  | zero => intro m w hN; have := m.plain.size_pos; omega
  | succ N ih =>
    intro m w hN hat
    have hsz := size_inside m.plain
    rw [plain_inside] at hsz
    have hin : ∀ x ∈ m.inside, ∀ W, Fresh w W → Calls Tryd.prog 26 #[x.val] W fun e w' => e = .returned (.int .i64 x.plain.wrong) ∧ Fresh W w' := fun x hx W hf => by
      have := size_mem (List.mem_map_of_mem (f := M.plain) hx)
      exact ih x W (by omega) ((hat.inside x hx).move hf)
    rw [wrong_eq, plain_inside]
    obtain ⟨k, f, n, s, la, lc, l, ka, kc, ks⟩ := m
    obtain ⟨hs, hl, hk, ll, lk, hn, _⟩ := hat.parts
    have hown : (M.mk k f n s la lc l ka kc ks).plain.own = if k < 0 ∨ 5 < k then 15 else if k = 3 then textW s else if k = 5 then keysW (ks.map (·.1)) else 0 := by
      have : ((M.mk k f n s la lc l ka kc ks).plain.keys.map (·.1)) = ks.map (·.1) := plain_names _
      unfold V.own
      rw [this]; rfl
    rw [hown]
    by_cases h4 : k = 4
    · subst h4
      exact rwrong_list f n s la lc l ka ks.length kc w hl ll hin
    by_cases h5 : k = 5
    · subst h5
      have hi : (M.mk 5 f n s la lc l ka kc ks).inside = ks.map (·.2) := rfl
      rw [hi] at hin ⊢
      rw [List.map_map]
      exact rwrong_keys f n s la l.length lc ka kc ks w hk lk hn (fun x hx => hin x.2 (List.mem_map_of_mem (f := (·.2)) hx))
    · have hi : (M.mk k f n s la lc l ka kc ks).inside = [] := by simp [M.inside, M.kind, h4, h5]
      rw [hi]
      have := rwrong_other k f n s la l.length lc ka ks.length kc w hs h4 h5
      have e : (if (if k < 0 ∨ 5 < k then (15 : Int) else if k = 3 then textW s else if k = 5 then keysW (ks.map (·.1)) else 0) ≠ 0 then (if k < 0 ∨ 5 < k then (15 : Int) else if k = 3 then textW s else if k = 5 then keysW (ks.map (·.1)) else 0) else wrongL ([].map M.plain)) = if k < 0 ∨ 5 < k then 15 else if k = 3 then textW s else 0 := by
        rw [if_neg h5]
        generalize (if k < 0 ∨ 5 < k then (15 : Int) else if k = 3 then textW s else 0) = z
        by_cases hz : z = 0
        · subst hz; rfl
        · rw [if_pos hz]
      rw [e]
      exact this
theorem rcheck_any (m : M) (w : World) (hat : m.At w) (hs : m.plain.size ≤ 1000000) : Calls Tryd.prog 10 #[m.val] w fun e w' => e = .returned (.int .i64 m.plain.check) ∧ Fresh w w' := by
  have HQ : Hid (∀ W, Fresh w W → Calls Tryd.prog 12 #[m.val] W fun e w' => e = .returned (.int .i64 m.plain.depth) ∧ Fresh W w') := fun W hf => rdepth_any m W (hat.move hf) hs
  have HI : Hid (∀ W, Fresh w W → Calls Tryd.prog 26 #[m.val] W fun e w' => e = .returned (.int .i64 m.plain.wrong) ∧ Fresh W w') := fun W hf => rwrong_all m.plain.size m W (Nat.le_refl _) (hat.move hf)
  have HC : Hid (m.plain.check = if 32 < m.plain.depth then 9 else m.plain.wrong) := rfl
  have hdb : m.plain.depth ≤ 1000000 := Nat.le_trans m.plain.depth_size hs
  clear hat hs
  rw [HC.out]
  clear HC
  generalize m.plain.wrong = x at *
  generalize m.plain.depth = d at *
  obtain ⟨k, f, n, s, la, lc, l, ka, kc, ks⟩ := m
  dsimp only [M.val] at *
  generalize l.length = ln at *
  generalize ks.length = kn at *
  by_cases hd : 32 < d
  · rw [if_pos hd]
    go_enter Tryd.func10, Tryd.ntmps10
    go_wp2_with fail
    refine (HQ.out _ ((Fresh.refl w).alloc _)).mono ?_
    rintro e w1 ⟨rfl, hf⟩
    go_wp2
    go_ret
    exact ⟨rfl, ((Fresh.refl w).alloc _).trans hf⟩
  · rw [if_neg hd]
    go_enter Tryd.func10, Tryd.ntmps10
    go_wp2_with fail
    refine (HQ.out _ ((Fresh.refl w).alloc _)).mono ?_
    rintro e w1 ⟨rfl, hf⟩
    have HF1 := Lib.hid (((Fresh.refl w).alloc _).trans hf)
    obtain ⟨b0, b1, b2, b3, b4, b5⟩ := box6' (hf.at (at_new w _))
    clear hf
    go_wp2_with fail
    refine (HI.out _ HF1.out).mono ?_
    rintro e w2 ⟨rfl, hf2⟩
    go_wp2
    go_ret
    exact ⟨rfl, HF1.out.trans hf2⟩
end Go.Proofs.YtonakfkiidhebaaDoor
