/-
  PROVED: for every row of steps, text and number the given statement ValueAlike returns true, where the library's two UTF-8 tables read as the program's text lays them (the card ties that); no other condition.
-/
import Derived.Test.YtonakfkiidhebaaDoorChecks
import Derived.Test.YtonakfkiidhebaaDoorBuild
import Derived.BigGuardPart
import Derived.Test.YtonakfkiidhebaaDoorLift
namespace Go.Proofs.YtonakfkiidhebaaDoor.valueAlike
open Go.ChangeShapes Go.WideShapes Go.ChangeAt Go.RowKit Go.Shelf
open Go.ChangeMaps (open_string shut_string)
set_option linter.unusedVariables false
attribute [local go_sem ↓] Go.wp_at_zero Go.wp_at_succ

/-! ### what plays no part in a kind -/
theorem same_of (k : Int) (f f' : Bool) (n n' : Int) (s s' : ByteArray) (l : List V) (ks : List (ByteArray × V)) (h1 : k = 1 → f = f') (h2 : k = 2 → n = n') (h3 : k = 3 → s = s') : (V.mk k f n s l ks).same (V.mk k f' n' s' l ks) = true := by
  have e1 : k ≠ 1 ∨ f = f' := by by_cases h : k = 1; exact .inr (h1 h); exact .inl h
  have e2 : k ≠ 2 ∨ n = n' := by by_cases h : k = 2; exact .inr (h2 h); exact .inl h
  have e3 : k ≠ 3 ∨ s = s' := by by_cases h : k = 3; exact .inr (h3 h); exact .inl h
  simp [V.same, sameL_refl, sameK_refl, e1, e2, e3]
theorem depth_of (k : Int) (f f' : Bool) (n n' : Int) (s s' : ByteArray) (l : List V) (ks : List (ByteArray × V)) : (V.mk k f n s l ks).depth = (V.mk k f' n' s' l ks).depth := by
  simp [V.depth]
theorem check_of (k : Int) (f f' : Bool) (n n' : Int) (s s' : ByteArray) (l : List V) (ks : List (ByteArray × V)) (h3 : k = 3 → s = s') : (V.mk k f n s l ks).check = (V.mk k f' n' s' l ks).check := by
  have ho : (V.mk k f n s l ks).own = (V.mk k f' n' s' l ks).own := by
    by_cases h : k = 3
    · rw [h3 h]; rfl
    · show (if k < 0 ∨ 5 < k then (15 : Int) else if k = 3 then textW s else if k = 5 then keysW (ks.map (·.1)) else 0) = (if k < 0 ∨ 5 < k then (15 : Int) else if k = 3 then textW s' else if k = 5 then keysW (ks.map (·.1)) else 0)
      simp only [if_neg h]
  unfold V.check
  rw [depth_of k f f' n n' s s' l ks]
  simp only [V.wrong, ho]
/-- The two boxes that are left. -/
structure Two (w3 wc : World) (b5 b6 : Nat) (c5 c6 : Array Value) : Prop where
  fresh : Fresh w3 wc
  h5 : wc.heap[b5]? = some (.cells c5 29 (0, 0))
  h6 : wc.heap[b6]? = some (.cells c6 29 (0, 0))
theorem two_of (w : World) (c5 c c6 : Array Value) : Two w (((w.alloc (.cells c5 29)).alloc (.cells c 33)).alloc (.cells c6 29)) w.heap.size (w.heap.size + 1 + 1) c5 c6 := by
  refine ⟨(((Fresh.refl w).alloc _).alloc _).alloc _, at_alloc (at_alloc (at_new w _)), ?_⟩
  have := at_new ((w.alloc (.cells c5 29)).alloc (.cells c 33)) (.cells c6 29)
  rw [World.size_alloc, World.size_alloc] at this
  exact this
set_option maxRecDepth 100000 in
set_option maxHeartbeats 8000000 in
theorem alike_any (a : Option Addr) (len cap : Nat) (P : Nat → Pt) (text : ByteArray) (num : Int) (w : World) (hT : Tabs w) (h : PartsAt w a len P) (hm : len ≤ 9223372036854775807) :
    Calls Tryd.prog 5 #[.slice a len cap, .string text, .int .i64 num] w fun e w' => e = .returned (.bool true) ∧ Fresh w w' := by
  have HT := Lib.hid hT
  have H0 := Lib.hid h
  clear hT h
  go_enter Tryd.func5, Tryd.ntmps5
  go_wp2_with fail
  refine (small_any a len cap P _ H0.out hm).mono ?_
  rintro e w1 ⟨r0, rfl, hr0, hf1⟩
  have HF1 := Lib.hid hf1
  have HR0 := Lib.hid hr0
  clear hf1 hr0
  cases r0 with
  | false =>
    go_wp2_with fail
    refine (awake_any _ (HT.out.move HF1.out)).mono ?_
    rintro e w2 ⟨rfl, hf2⟩
    go_wp2
    go_ret
    exact ⟨rfl, HF1.out.trans hf2⟩
  | true =>
    by_cases ht : 5000 < text.size
    · have ht' : (5000 : Int) < (text.size : Int) := by omega
      go_wp2_with fail
      refine (awake_any _ (HT.out.move HF1.out)).mono ?_
      rintro e w2 ⟨rfl, hf2⟩
      go_wp2
      go_ret
      exact ⟨rfl, HF1.out.trans hf2⟩
    have ht' : ¬ (5000 : Int) < (text.size : Int) := by omega
    have hts : text.size ≤ 1000000 := by omega
    go_wp2_with fail
    refine (build_any a len cap P _ (H0.out.move HF1.out) (HR0.out (by trivial)).1 (HR0.out (by trivial)).2).mono ?_
    rintro e w3 ⟨⟨X, Y, rfl, hX, hY, hXY, hXs⟩, hf3⟩
    have HF3 := Lib.hid (HF1.out.trans hf3)
    have HX := Lib.hid hX
    have HXS := Lib.hid hXs
    clear hf3 hX hY hXY hXs
    obtain ⟨xk, xf, xn, xs, xla, xlc, xl, xka, xkc, xks⟩ := X
    obtain ⟨yk, yf, yn, ys, yla, ylc, yl, yka, ykc, yks⟩ := Y
    dsimp only [M.val]
    have HATX : Hid (∀ (f' : Bool) (n' : Int) (s' : ByteArray), s'.size ≤ 1000000 → ∀ W, Fresh w3 W → (M.mk xk f' n' s' xla xlc xl xka xkc xks).At W) := fun f' n' s' hs W hf => by
      obtain ⟨h1, h2, h3, h4, h5, h6, h7, h8⟩ := (HX.out.move hf).parts
      exact .mk hs h2 h3 h4 h5 h6 h7 h8
    have HSZ : Hid (∀ (f' : Bool) (n' : Int) (s' : ByteArray), (M.mk xk f' n' s' xla xlc xl xka xkc xks).plain.size ≤ 1000000) := fun f' n' s' => by
      have := HXS.out
      simp only [M.plain, V.size] at this ⊢
      omega
    have HSX : Hid (xs.size ≤ 1000000) := HX.out.parts.1
    have HSAME : Hid (∀ (f1 f2 : Bool) (n1 n2 : Int) (s1 s2 : ByteArray), (xk = 1 → f1 = f2) → (xk = 2 → n1 = n2) → (xk = 3 → s1 = s2) → (M.mk xk f1 n1 s1 xla xlc xl xka xkc xks).plain.same (M.mk xk f2 n2 s2 xla xlc xl xka xkc xks).plain = true) := fun f1 f2 n1 n2 s1 s2 h1 h2 h3 => by
      simp only [M.plain]
      exact same_of _ _ _ _ _ _ _ _ _ h1 h2 h3
    have HDEP : Hid (∀ (f1 f2 : Bool) (n1 n2 : Int) (s1 s2 : ByteArray), (M.mk xk f1 n1 s1 xla xlc xl xka xkc xks).plain.depth = (M.mk xk f2 n2 s2 xla xlc xl xka xkc xks).plain.depth) := fun f1 f2 n1 n2 s1 s2 => by
      simp only [M.plain]
      exact depth_of _ _ _ _ _ _ _ _ _
    have HCHK : Hid (∀ (f1 f2 : Bool) (n1 n2 : Int) (s1 s2 : ByteArray), (xk = 3 → s1 = s2) → (M.mk xk f1 n1 s1 xla xlc xl xka xkc xks).plain.check = (M.mk xk f2 n2 s2 xla xlc xl xka xkc xks).plain.check) := fun f1 f2 n1 n2 s1 s2 h3 => by
      simp only [M.plain]
      exact check_of _ _ _ _ _ _ _ _ _ h3
    have HVAL : Hid (∀ (f' : Bool) (n' : Int) (s' : ByteArray), (M.mk xk f' n' s' xla xlc xl xka xkc xks).val = mval xk f' n' s' xla xl.length xlc xka xks.length xkc) := fun _ _ _ => rfl
    clear HX HXS
    generalize xl.length = xln at *
    generalize xks.length = xkn at *
    generalize yl.length = yln at *
    generalize yks.length = ykn at *
    have HTS := Lib.hid hts
    have HREF : Hid (∀ f n s, (M.mk xk f n s xla xlc xl xka xkc xks).val = mval xk f n s xla xln xlc xka xkn xkc) := HVAL.out
    go_upto_if 27 with (fail)
    go_cut [7, 9] (fun a7 a9 wc => ∃ us : ByteArray, a7 = .pointer (some ⟨w3.heap.size, 0, none⟩) ∧ a9 = .pointer (some ⟨w3.heap.size + 1 + 1, 0, none⟩) ∧ Hid (us.size ≤ 1000000 ∧ (xk = 3 → xs = us)) ∧ wc = (((w3.alloc (.cells #[.int .i64 xk, .bool xf, .int .i64 xn, .string xs, .slice xla xln xlc, .slice xka xkn xkc] 29)).alloc (.cells #[.int .i64 yk, .bool yf, .int .i64 yn, .string ys, .slice yla yln ylc, .slice yka ykn ykc] 33)).alloc (.cells #[.int .i64 xk, .bool xf, .int .i64 xn, .string us, .slice xla xln xlc, .slice xka xkn xkc] 29)))
    case first =>
      by_cases cx : xk = 3
      · have ex : (xk != 3) = false := by simpa using cx
        go_wp2_with fail
        go_meet
        case rel => exact ⟨_, rfl, rfl, ⟨HSX.out, fun _ => rfl⟩, rfl⟩
      · have ex : (xk != 3) = true := by simpa using cx
        go_wp2_with fail
        go_meet
        case rel => exact ⟨_, rfl, rfl, ⟨HTS.out, fun h => absurd h cx⟩, rfl⟩
    case rest =>
      obtain ⟨us, rfl, rfl, HUS, rfl⟩ := hcut
      go_upto_if 32 with (fail)
      go_cut [7, 9] (fun a7 a9 wc => ∃ un : Int, a7 = .pointer (some ⟨w3.heap.size, 0, none⟩) ∧ a9 = .pointer (some ⟨w3.heap.size + 1 + 1, 0, none⟩) ∧ Hid (xk = 2 → xn = un) ∧ wc = (((w3.alloc (.cells #[.int .i64 xk, .bool xf, .int .i64 xn, .string xs, .slice xla xln xlc, .slice xka xkn xkc] 29)).alloc (.cells #[.int .i64 yk, .bool yf, .int .i64 yn, .string ys, .slice yla yln ylc, .slice yka ykn ykc] 33)).alloc (.cells #[.int .i64 xk, .bool xf, .int .i64 un, .string us, .slice xla xln xlc, .slice xka xkn xkc] 29)))
      case first =>
        by_cases cx : xk = 2
        · have ex : (xk != 2) = false := by simpa using cx
          go_wp2_with fail
          go_meet
          case rel => exact ⟨_, rfl, rfl, fun _ => rfl, rfl⟩
        · have ex : (xk != 2) = true := by simpa using cx
          go_wp2_with fail
          go_meet
          case rel => exact ⟨_, rfl, rfl, fun h => absurd h cx, rfl⟩
      case rest =>
        obtain ⟨un, rfl, rfl, HUN, rfl⟩ := hcut
        go_upto_if 37 with (fail)
        go_cut [7, 9] (fun a7 a9 wc => ∃ uf : Bool, a7 = .pointer (some ⟨w3.heap.size, 0, none⟩) ∧ a9 = .pointer (some ⟨w3.heap.size + 1 + 1, 0, none⟩) ∧ Hid (xk = 1 → xf = uf) ∧ wc = (((w3.alloc (.cells #[.int .i64 xk, .bool xf, .int .i64 xn, .string xs, .slice xla xln xlc, .slice xka xkn xkc] 29)).alloc (.cells #[.int .i64 yk, .bool yf, .int .i64 yn, .string ys, .slice yla yln ylc, .slice yka ykn ykc] 33)).alloc (.cells #[.int .i64 xk, .bool uf, .int .i64 un, .string us, .slice xla xln xlc, .slice xka xkn xkc] 29)))
        case first =>
          by_cases cx : xk = 1
          · have ex : (xk != 1) = false := by simpa using cx
            go_wp2_with fail
            go_meet
            case rel => exact ⟨_, rfl, rfl, fun _ => rfl, rfl⟩
          · have ex : (xk != 1) = true := by simpa using cx
            go_wp2_with fail
            go_meet
            case rel => exact ⟨_, rfl, rfl, fun h => absurd h cx, rfl⟩
        case rest =>
          obtain ⟨uf, rfl, rfl, HUF, rfl⟩ := hcut
          go_wp2_with fail
          have HU : Hid (us.size ≤ 1000000 ∧ (xk = 1 → xf = uf) ∧ (xk = 2 → xn = un) ∧ (xk = 3 → xs = us) ∧ Two w3 (((w3.alloc (.cells #[.int .i64 xk, .bool xf, .int .i64 xn, .string xs, .slice xla xln xlc, .slice xka xkn xkc] 29)).alloc (.cells #[.int .i64 yk, .bool yf, .int .i64 yn, .string ys, .slice yla yln ylc, .slice yka ykn ykc] 33)).alloc (.cells #[.int .i64 xk, .bool uf, .int .i64 un, .string us, .slice xla xln xlc, .slice xka xkn xkc] 29)) w3.heap.size (w3.heap.size + 1 + 1) #[.int .i64 xk, .bool xf, .int .i64 xn, .string xs, .slice xla xln xlc, .slice xka xkn xkc] #[.int .i64 xk, .bool uf, .int .i64 un, .string us, .slice xla xln xlc, .slice xka xkn xkc]) := ⟨HUS.out.1, HUF.out, HUN.out, HUS.out.2, two_of _ _ _ _⟩
          generalize (((w3.alloc (.cells #[.int .i64 xk, .bool xf, .int .i64 xn, .string xs, .slice xla xln xlc, .slice xka xkn xkc] 29)).alloc (.cells #[.int .i64 yk, .bool yf, .int .i64 yn, .string ys, .slice yla yln ylc, .slice yka ykn ykc] 33)).alloc (.cells #[.int .i64 xk, .bool uf, .int .i64 un, .string us, .slice xla xln xlc, .slice xka xkn xkc] 29)) = wc at *
          generalize w3.heap.size + 1 + 1 = b6 at *
          generalize hb5 : w3.heap.size = b5 at *
          clear hb5
          have FW : Hid (Fresh w wc.drew) := (HF3.out.trans HU.out.2.2.2.2.fresh).drew
          have F3 : Hid (Fresh w3 wc.drew) := HU.out.2.2.2.2.fresh.drew
          have HKP : Hid (∀ w', Fresh wc.drew w' → (w'.cell? ⟨b5, 0, none⟩ = some (.int .i64 xk) ∧ w'.cell? ⟨b5, 1, none⟩ = some (.bool xf) ∧ w'.cell? ⟨b5, 2, none⟩ = some (.int .i64 xn) ∧ w'.cell? ⟨b5, 3, none⟩ = some (.string xs) ∧ w'.cell? ⟨b5, 4, none⟩ = some (.slice xla xln xlc) ∧ w'.cell? ⟨b5, 5, none⟩ = some (.slice xka xkn xkc) ∧ w'.cell? ⟨b6, 0, none⟩ = some (.int .i64 xk) ∧ w'.cell? ⟨b6, 1, none⟩ = some (.bool uf) ∧ w'.cell? ⟨b6, 2, none⟩ = some (.int .i64 un) ∧ w'.cell? ⟨b6, 3, none⟩ = some (.string us) ∧ w'.cell? ⟨b6, 4, none⟩ = some (.slice xla xln xlc) ∧ w'.cell? ⟨b6, 5, none⟩ = some (.slice xka xkn xkc))) := fun w' hf => by
            obtain ⟨p0, p1, p2, p3, p4, p5⟩ := box6' (hf.at (show wc.drew.heap[b5]? = _ from HU.out.2.2.2.2.h5))
            obtain ⟨q0, q1, q2, q3, q4, q5⟩ := box6' (hf.at (show wc.drew.heap[b6]? = _ from HU.out.2.2.2.2.h6))
            exact ⟨p0, p1, p2, p3, p4, p5, q0, q1, q2, q3, q4, q5⟩
          have AX : Hid (∀ W, Fresh wc.drew W → (M.mk xk xf xn xs xla xlc xl xka xkc xks).At W) := fun W hf => HATX.out _ _ _ HSX.out W (F3.out.trans hf)
          have AU : Hid (∀ W, Fresh wc.drew W → (M.mk xk uf un us xla xlc xl xka xkc xks).At W) := fun W hf => HATX.out _ _ _ HU.out.1 W (F3.out.trans hf)
          have HC1 : Hid (∀ W, Fresh wc.drew W → Calls Tryd.prog 7 #[] W fun e w' => e = .returned (.bool true) ∧ Fresh W w') := fun W hf => awake_any W (HT.out.move (FW.out.trans hf))
          have HC2 : Hid (∀ W, Fresh wc.drew W → Calls Tryd.prog 13 #[mval xk xf xn xs xla xln xlc xka xkn xkc, mval xk uf un us xla xln xlc xka xkn xkc] W fun e w' => e = .returned (.bool true) ∧ Fresh W w') := fun W hf => by
            rw [← HREF.out, ← HREF.out, ← HSAME.out xf uf xn un xs us HU.out.2.1 HU.out.2.2.1 HU.out.2.2.2.1]
            exact same_any _ _ W (AX.out W hf) (AU.out W hf) (HSZ.out _ _ _)
          have HC3 : Hid (∀ W, Fresh wc.drew W → Calls Tryd.prog 13 #[mval xk uf un us xla xln xlc xka xkn xkc, mval xk xf xn xs xla xln xlc xka xkn xkc] W fun e w' => e = .returned (.bool true) ∧ Fresh W w') := fun W hf => by
            rw [← HREF.out, ← HREF.out, ← HSAME.out uf xf un xn us xs (fun h => (HU.out.2.1 h).symm) (fun h => (HU.out.2.2.1 h).symm) (fun h => (HU.out.2.2.2.1 h).symm)]
            exact same_any _ _ W (AU.out W hf) (AX.out W hf) (HSZ.out _ _ _)
          have HC4 : Hid (∀ W, Fresh wc.drew W → Calls Tryd.prog 9 #[mval xk xf xn xs xla xln xlc xka xkn xkc] W fun e w' => e = .returned (.int .i64 (M.mk xk xf xn xs xla xlc xl xka xkc xks).plain.check) ∧ Fresh W w') := fun W hf => by
            rw [← HREF.out]; exact check_any _ W (HT.out.move (FW.out.trans hf)) (AX.out W hf)
          have HC5 : Hid (∀ W, Fresh wc.drew W → Calls Tryd.prog 9 #[mval xk uf un us xla xln xlc xka xkn xkc] W fun e w' => e = .returned (.int .i64 (M.mk xk xf xn xs xla xlc xl xka xkc xks).plain.check) ∧ Fresh W w') := fun W hf => by
            rw [← HREF.out, HCHK.out xf uf xn un xs us HU.out.2.2.2.1]; exact check_any _ W (HT.out.move (FW.out.trans hf)) (AU.out W hf)
          have HC6 : Hid (∀ W, Fresh wc.drew W → Calls Tryd.prog 11 #[mval xk xf xn xs xla xln xlc xka xkn xkc] W fun e w' => e = .returned (.int .i64 (M.mk xk xf xn xs xla xlc xl xka xkc xks).plain.depth) ∧ Fresh W w') := fun W hf => by
            rw [← HREF.out]; exact depth_any _ W (AX.out W hf) (HSZ.out _ _ _)
          have HC7 : Hid (∀ W, Fresh wc.drew W → Calls Tryd.prog 11 #[mval xk uf un us xla xln xlc xka xkn xkc] W fun e w' => e = .returned (.int .i64 (M.mk xk xf xn xs xla xlc xl xka xkc xks).plain.depth) ∧ Fresh W w') := fun W hf => by
            rw [← HREF.out, HDEP.out xf uf xn un xs us]; exact depth_any _ W (AU.out W hf) (HSZ.out _ _ _)
          have HF0 : Hid (Fresh wc.drew wc.drew) := Fresh.refl _
          obtain ⟨p0, p1, p2, p3, p4, p5, q0, q1, q2, q3, q4, q5⟩ := HKP.out wc.drew (Fresh.refl _)
          clear HU F3 AX AU HATX HSZ HSX HSAME HDEP HCHK HVAL HREF HTS H0 HT
          generalize (M.mk xk xf xn xs xla xlc xl xka xkc xks).plain.check = cc at *
          generalize (M.mk xk xf xn xs xla xlc xl xka xkc xks).plain.depth = dd at *
          go_region_held3 (fun w' => (w'.cell? ⟨b5, 0, none⟩ = some (.int .i64 xk) ∧ w'.cell? ⟨b5, 1, none⟩ = some (.bool xf) ∧ w'.cell? ⟨b5, 2, none⟩ = some (.int .i64 xn) ∧ w'.cell? ⟨b5, 3, none⟩ = some (.string xs) ∧ w'.cell? ⟨b5, 4, none⟩ = some (.slice xla xln xlc) ∧ w'.cell? ⟨b5, 5, none⟩ = some (.slice xka xkn xkc) ∧ w'.cell? ⟨b6, 0, none⟩ = some (.int .i64 xk) ∧ w'.cell? ⟨b6, 1, none⟩ = some (.bool uf) ∧ w'.cell? ⟨b6, 2, none⟩ = some (.int .i64 un) ∧ w'.cell? ⟨b6, 3, none⟩ = some (.string us) ∧ w'.cell? ⟨b6, 4, none⟩ = some (.slice xla xln xlc) ∧ w'.cell? ⟨b6, 5, none⟩ = some (.slice xka xkn xkc))) (go_keep)
            (first
              | (go_at_call 7; (with_reducible refine (HC1.out _ HF0.out).mono ?_); rintro e W1 ⟨rfl, hf1⟩; have HF1 := Lib.hid (HF0.out.trans hf1); clear hf1; obtain ⟨p0_1, p1_1, p2_1, p3_1, p4_1, p5_1, q0_1, q1_1, q2_1, q3_1, q4_1, q5_1⟩ := HKP.out _ HF1.out)
              | (go_at_call 13; (with_reducible refine (HC2.out _ HF1.out).mono ?_); rintro e W2 ⟨rfl, hf2⟩; have HF2 := Lib.hid (HF1.out.trans hf2); clear hf2; obtain ⟨p0_2, p1_2, p2_2, p3_2, p4_2, p5_2, q0_2, q1_2, q2_2, q3_2, q4_2, q5_2⟩ := HKP.out _ HF2.out)
              | (go_at_call 13; (with_reducible refine (HC3.out _ HF2.out).mono ?_); rintro e W3 ⟨rfl, hf3⟩; have HF3 := Lib.hid (HF2.out.trans hf3); clear hf3; obtain ⟨p0_3, p1_3, p2_3, p3_3, p4_3, p5_3, q0_3, q1_3, q2_3, q3_3, q4_3, q5_3⟩ := HKP.out _ HF3.out)
              | (go_at_call 9; (with_reducible refine (HC4.out _ HF3.out).mono ?_); rintro e W4 ⟨rfl, hf4⟩; have HF4 := Lib.hid (HF3.out.trans hf4); clear hf4; obtain ⟨p0_4, p1_4, p2_4, p3_4, p4_4, p5_4, q0_4, q1_4, q2_4, q3_4, q4_4, q5_4⟩ := HKP.out _ HF4.out)
              | (go_at_call 9; (with_reducible refine (HC5.out _ HF4.out).mono ?_); rintro e W5 ⟨rfl, hf5⟩; have HF5 := Lib.hid (HF4.out.trans hf5); clear hf5; obtain ⟨p0_5, p1_5, p2_5, p3_5, p4_5, p5_5, q0_5, q1_5, q2_5, q3_5, q4_5, q5_5⟩ := HKP.out _ HF5.out)
              | (go_at_call 11; (with_reducible refine (HC6.out _ HF5.out).mono ?_); rintro e W6 ⟨rfl, hf6⟩; have HF6 := Lib.hid (HF5.out.trans hf6); clear hf6; obtain ⟨p0_6, p1_6, p2_6, p3_6, p4_6, p5_6, q0_6, q1_6, q2_6, q3_6, q4_6, q5_6⟩ := HKP.out _ HF6.out)
              | (go_at_call 11; (with_reducible refine (HC7.out _ HF6.out).mono ?_); rintro e W7 ⟨rfl, hf7⟩; have HF7 := Lib.hid (HF6.out.trans hf7); clear hf7; obtain ⟨p0_7, p1_7, p2_7, p3_7, p4_7, p5_7, q0_7, q1_7, q2_7, q3_7, q4_7, q5_7⟩ := HKP.out _ HF7.out)
              )
          go_wp2
          go_ret
          exact ⟨rfl, FW.out.trans HF7.out⟩

/-! ### the row -/
theorem laid_met (os : Os) (args : Array Value) : laidMet Tryd.prog Rows.valueAlikeRow.laid ((laidWorld os).forCall (fun _ _ => 0) ⟨#[], args, []⟩).memory :=
  (LaidIn.of_run (l := [("unicode/utf8.acceptRanges", Rows.laid_unicode_utf8_acceptRanges), ("unicode/utf8.first", Rows.laid_unicode_utf8_first)]) [1, 0] 8 (by kernel_rfl) (by kernel_rfl) (by kernel_rfl) (by kernel_rfl)).met
theorem witness_row (os : Os) {H : Type} (enc : TypeId × Value → H) :
    (OpenSpec.ofChange Rows.valueAlikeSpec).preRow enc Tryd.prog Tryd.f5 Rows.valueAlikeRow.domain false Rows.valueAlikeRow.laid ((laidWorld os).forCall (fun _ _ => 0) ⟨#[], #[.slice none 0 0, .string ⟨#[]⟩, .int .i64 0], []⟩).memory #[.slice none 0 0, .string ⟨#[]⟩, .int .i64 0] := by
  have hw : (DataW.whole enc Tryd.prog ((laidWorld os).forCall (fun _ _ => 0) ⟨#[], #[.slice none 0 0, .string ⟨#[]⟩, .int .i64 0], []⟩).memory Tryd.f5.params.toList (OpenSpec.ofChange Rows.valueAlikeSpec).vars false #[Value.slice none 0 0, Value.string ⟨#[]⟩, Value.int .i64 0].toList 8).map (fun x => (x.1, x.2.1)) =
      some ([.nil, .lit (.string []), .lit (.int .i64 0)], []) := by kernel_rfl
  obtain ⟨⟨x1, x2, x3⟩, hx, hx1⟩ := Option.map_eq_some_iff.1 hw
  simp only [Prod.mk.injEq] at hx1
  obtain ⟨rfl, rfl⟩ := hx1
  exact OpenSpec.preRow_of_cond 8 hx (by kernel_rfl) (fun k hk => by cases hk) (by kernel_rfl) (laid_met os _)
theorem utf8_tabs' {W : World} (hL : laidMet Tryd.prog Rows.valueAlikeRow.laid W) : Tabs W :=
  utf8Tabs_of_readsT u8types ⟨by kernel_rfl, by kernel_rfl, by kernel_rfl, by kernel_rfl, by kernel_rfl, by kernel_rfl, by kernel_rfl⟩
    (by rw [← first_eq]; exact Lib.laidMet.reads hL (.tail _ (.head _))) (by rw [← accept_eq]; exact Lib.laidMet.reads hL (.head _))
set_option maxRecDepth 100000 in
set_option maxHeartbeats 2000000 in
theorem lifted (os : Os) (started : os.Started) (H : Type) (enc : TypeId × Value → H) (F : Stop.Interp) :
    ReturnsInHanded {} Tryd.checked os 5 .any ((OpenSpec.ofChange Rows.valueAlikeSpec).preRow enc Tryd.prog Tryd.f5 Rows.valueAlikeRow.domain false Rows.valueAlikeRow.laid) (((OpenSpec.ofChange Rows.valueAlikeSpec).at F).post enc Tryd.prog Tryd.f5 false true false false) := by
  refine returnsInHanded_of_row (C := Tryd.checked) (s := OpenSpec.ofChange Rows.valueAlikeSpec) own started (by kernel_rfl) Tryd.func5
    (witness_row_atRef (enc := enc) (C := Tryd.checked) false (laidWorld os) #[.slice none 0 0, .string ⟨#[]⟩, .int .i64 0] rfl (by kernel_rfl) (by kernel_rfl) (by kernel_rfl) (witness_row os enc)) ?_
  intro W base args ds gs before hval0 hW _ _ hsz hL _ _
  have hval : ∀ (j : Nat) t v, Tryd.f5.params[j]? = some t → args[j]? = some v → Value.okWide Tryd.prog W .any base t v := hval0
  have hW' := hW
  obtain ⟨p, q, hA0, hV0, rfl, _, _⟩ := hW
  have hA : DataW.TrodAll enc Tryd.prog W 0 (fun _ => true) true Tryd.f5.params.toList args.toList ds p := hA0
  rw [Tryd.params5] at hA hval
  obtain ⟨v0, vs0, d0, ds0, p0, q0, hargs, rfl, rfl, h0, r0⟩ := trodAll_cons hA
  obtain ⟨v1, vs1, d1, ds1, p1, q1, rfl, rfl, rfl, h1, r1⟩ := trodAll_cons r0
  obtain ⟨v2, vs2, d2, ds2, p2, q2, rfl, rfl, rfl, h2, r2⟩ := trodAll_cons r1
  obtain ⟨rfl, rfl, rfl⟩ := trodAll_nil r2
  obtain rfl : args = #[v0, v1, v2] := by cases args; simp_all
  obtain ⟨rfl, rfl⟩ := trodVars_none hV0
  obtain ⟨a0, l0, c0, rfl⟩ := okWide_slice Tryd.underlying22 (hval 0 22 v0 rfl rfl)
  obtain ⟨a1, rfl, rfl, rfl, w1⟩ := open_string Tryd.underlying9 (hval 1 9 v1 rfl rfl) h1
  obtain ⟨a2, rfl, rfl, rfl, w2⟩ := open_int Tryd.underlying2 (hval 2 2 v2 rfl rfl) h2
  have k0 := h0
  have lt0 : ∀ x ∈ p0, x.block < W.heap.size := by obtain ⟨m, hm⟩ := k0; exact DataW.trod_lt m _ _ _ hm
  obtain ⟨f0, g0⟩ := h0
  obtain ⟨m0, P0, hP0⟩ := open_parts g0
  have wp0 : PartsAt W a0 l0 P0 := parts_at hP0 (fun n hn => sized_mem hsz (j := 0) rfl rfl hn)
  refine (alike_any a0 l0 c0 P0 a1 a2 W (utf8_tabs' hL) wp0 m0).mono ?_
  rintro e W' ⟨rfl, hg⟩
  have e1 : ((OpenSpec.ofChange Rows.valueAlikeSpec).at F).fn H ([d0, .lit (.string a1.data.toList), .lit (.int .i64 a2)] ++ []) = { results := [.lit (.bool true)], args := [d0, .lit (.string a1.data.toList), .lit (.int .i64 a2)] } := rfl
  refine ⟨_, rfl, _, _, _, [], p0 ++ ([] ++ ([] ++ [])), [], hW', ?_, ?_, ?_, hg.frame _, fun h => by cases h⟩
  · rw [e1]; exact trodAll_mk1 (shut_bool Tryd.underlying4 _)
  · rw [e1]; exact trodAll_cons_mk (Below.trod laidOut (by kernel_rfl) (of_decide_eq_true (by kernel_rfl)) k0 hg lt0) (trodAll_cons_mk (shut_string Tryd.underlying9 w1) (trodAll_cons_mk (shut_int Tryd.underlying2 w2) trodAll_mk0))
  · rw [e1]; rfl
theorem row_holds : Rows.ValueAlikeSaid :=
  OpenClaim.holds_of_cond 5 Tryd.f5 rfl rfl rfl rfl rfl rfl rfl ⟨rfl, rfl, rfl, rfl, rfl⟩ rfl rfl rfl rfl rfl (by kernel_rfl) Tryd.func5 (by kernel_rfl)
    (of_decide_eq_true (by kernel_rfl)) (by unfold Func.isWrapper; first | (rw [if_neg (of_decide_eq_false (by kernel_rfl))]; exact ⟨rfl, rfl⟩) | (rw [if_pos (by decide +kernel)]; kernel_rfl))
    (fun os started H enc _ F0 => by rw [OpenClaim.pre_eq_preRow]; exact lifted os started H enc F0)
theorem valuealike : Rows.ValueAlikeCardSaid :=
  Claim7.holds_tied_plain_at .later [] [.data, .pinned] true (true, "75e6a494037f7d1d9c08172abde673c531c9b9340a07bff059589dc8a9ceeebe") false
    row_holds (fun _ h => by cases h) (by kernel_rfl) (fun _ h => by cases h) valueAlike_row_tie rfl ⟨rfl, rfl⟩ (by kernel_rfl) rfl
    (fun f fn hf hfn => by
      obtain rfl : f = 5 := Option.some.inj ((show Tryd.prog.funcNamed "bosun/bosunlaw05.ValueAlike" = some 5 by kernel_rfl).symm.trans hf) |>.symm
      obtain rfl : fn = Tryd.f5 := (Option.some.inj (Tryd.func5.symm.trans hfn)).symm
      exact ⟨by kernel_rfl, fun j t ht => by
        rw [Tryd.params5] at ht
        have h3 : t = 22 ∨ t = 9 ∨ t = 2 := by
          rcases j with _ | _ | _ | j
          · exact .inl (by simpa using ht.symm)
          · exact .inr (.inl (by simpa using ht.symm))
          · exact .inr (.inr (by simpa using ht.symm))
          · simp at ht
        rcases h3 with rfl | rfl | rfl
        · exact (show Tryd.prog.wantsStandIn 22 = false by kernel_rfl)
        · exact (show Tryd.prog.wantsStandIn 9 = false by kernel_rfl)
        · exact (show Tryd.prog.wantsStandIn 2 = false by kernel_rfl)⟩)
    (by kernel_rfl)
end Go.Proofs.YtonakfkiidhebaaDoor.valueAlike
