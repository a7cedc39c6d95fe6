/-
  Package value: ownFault, fault, Check.
-/
import Derived.Test.YtonakfkiidhebaaDoorKeys
import Derived.Test.YtonakfkiidhebaaDoorDeeper
namespace Go.Proofs.YtonakfkiidhebaaDoor
open Go.ChangeShapes Go.WideShapes Go.ChangeAt Go.RowKit
variable {w : World}

set_option maxRecDepth 100000 in
set_option maxHeartbeats 1000000 in
theorem ownFault_any (m : M) (w : World) (hT : Tabs w) (hat : m.At w) : Calls Tryd.prog 37 #[m.val] w fun e w' => e = .returned (.int .i64 m.plain.own) ∧ Fresh w w' := by
  obtain ⟨k, f, n, s, la, lc, l, ka, kc, ks⟩ := m
  obtain ⟨hs, _, hk, _, lk, hn, _⟩ := hat.parts
  have hown : (M.mk k f n s la lc l ka kc ks).plain.own = if k < 0 ∨ 5 < k then 15 else if k = 3 then textW s else if k = 5 then keysW (ks.map (·.1)) else 0 := by
    have : ((M.mk k f n s la lc l ka kc ks).plain.keys.map (·.1)) = ks.map (·.1) := plain_names _
    unfold V.own
    rw [this]; rfl
  rw [hown]
  dsimp only [M.val]
  clear hat hown
  by_cases h3 : k = 3
  · subst h3
    rw [if_neg (by omega), if_pos rfl]
    have HQ : Hid (∀ W, Fresh w W → Calls Tryd.prog 42 #[.string s] W fun e w' => e = .returned (.int .i64 (textW s)) ∧ Fresh W w') := fun W hf => textFault_any s W hs (hT.move hf)
    generalize textW s = x at *
    generalize l.length = ln at *
    generalize ks.length = kn at *
    go_enter Tryd.func37, Tryd.ntmps37
    go_wp2_with fail
    refine (HQ.out _ ((Fresh.refl w).alloc _)).mono ?_
    rintro e w1 ⟨rfl, hf⟩
    go_wp2
    go_ret
    exact ⟨rfl, ((Fresh.refl w).alloc _).trans hf⟩
  by_cases h5 : k = 5
  · subst h5
    rw [if_neg (by omega), if_neg (by omega), if_pos rfl]
    have HQ : Hid (∀ W, Fresh w W → Calls Tryd.prog 43 #[.slice ka ks.length kc] W fun e w' => e = .returned (.int .i64 (keysW (ks.map (·.1)))) ∧ Fresh W w') := fun W hf => keysFault_any ks ka kc W (hT.move hf) (hk.move hf) lk hn
    generalize keysW (ks.map (·.1)) = x at *
    clear hk hn lk h3
    generalize l.length = ln at *
    generalize ks.length = kn at *
    go_enter Tryd.func37, Tryd.ntmps37
    go_wp2_with fail
    refine (HQ.out _ ((Fresh.refl w).alloc _)).mono ?_
    rintro e w1 ⟨rfl, hf⟩
    go_wp2
    go_ret
    exact ⟨rfl, ((Fresh.refl w).alloc _).trans hf⟩
  clear hk hn lk hs hT
  generalize l.length = ln at *
  generalize ks.length = kn at *
  by_cases h0 : k = 0
  · subst h0
    rw [if_neg (by omega), if_neg (by omega), if_neg (by omega)]
    clear h3 h5
    go_enter Tryd.func37, Tryd.ntmps37
    go_wp2
    go_ret
    exact ⟨rfl, (Fresh.refl w).alloc _⟩
  by_cases h1 : k = 1
  · subst h1
    rw [if_neg (by omega), if_neg (by omega), if_neg (by omega)]
    clear h3 h5 h0
    go_enter Tryd.func37, Tryd.ntmps37
    go_wp2
    go_ret
    exact ⟨rfl, (Fresh.refl w).alloc _⟩
  by_cases h2 : k = 2
  · subst h2
    rw [if_neg (by omega), if_neg (by omega), if_neg (by omega)]
    clear h3 h5 h0 h1
    go_enter Tryd.func37, Tryd.ntmps37
    go_wp2
    go_ret
    exact ⟨rfl, (Fresh.refl w).alloc _⟩
  by_cases h4 : k = 4
  · subst h4
    rw [if_neg (by omega), if_neg (by omega), if_neg (by omega)]
    clear h3 h5 h0 h1 h2
    go_enter Tryd.func37, Tryd.ntmps37
    go_wp2
    go_ret
    exact ⟨rfl, (Fresh.refl w).alloc _⟩
  · rw [if_pos (by omega)]
    have e0 : (k == 0) = false := by simpa using h0
    have e1 : (k == 1) = false := by simpa using h1
    have e2 : (k == 2) = false := by simpa using h2
    have e3 : (k == 3) = false := by simpa using h3
    have e4 : (k == 4) = false := by simpa using h4
    have e5 : (k == 5) = false := by simpa using h5
    clear h0 h1 h2 h3 h4 h5
    go_enter Tryd.func37, Tryd.ntmps37
    go_wp2
    go_ret
    exact ⟨rfl, (Fresh.refl w).alloc _⟩
set_option maxRecDepth 100000 in
set_option maxHeartbeats 1000000 in
theorem fault_step (m : M) (w : World) (hT : Tabs w) (hat : m.At w)
    (ih : ∀ x ∈ m.inside, ∀ W, Fresh w W → Calls Tryd.prog 25 #[x.val] W fun e w' => e = .returned (.int .i64 x.plain.wrong) ∧ Fresh W w') :
    Calls Tryd.prog 25 #[m.val] w fun e w' => e = .returned (.int .i64 m.plain.wrong) ∧ Fresh w w' := by
  have HQ : Hid (∀ W, Fresh w W → Calls Tryd.prog 37 #[m.val] W fun e w' => e = .returned (.int .i64 m.plain.own) ∧ Fresh W w') := fun W hf => ownFault_any m W (hT.move hf) (hat.move hf)
  have HI : Hid (∀ W, Fresh w W → Calls Tryd.prog 28 #[m.val] W (InsideIs m W)) := fun W hf => inside_any m W (hat.move hf)
  have HIH := Lib.hid ih
  have HWR : Hid (m.plain.wrong = if m.plain.own ≠ 0 then m.plain.own else wrongL (m.inside.map M.plain)) := by rw [Hid, wrong_eq, plain_inside]
  have hlen := hat.len
  rw [HWR.out]
  clear ih hat hT HWR
  generalize m.plain.own = ow at *
  unfold InsideIs at HI
  generalize m.inside = ins at *
  obtain ⟨k, f, n, s, la, lc, l, ka, kc, ks⟩ := m
  dsimp only [M.val] at *
  generalize l.length = ln at *
  generalize ks.length = kn at *
  by_cases how : ow = 0
  · subst how
    rw [if_neg (by simp)]
    go_enter Tryd.func25, Tryd.ntmps25
    go_wp2_with fail
    refine (HQ.out _ ((Fresh.refl w).alloc _)).mono ?_
    rintro e w1 ⟨rfl, hf⟩
    have HF1 := Lib.hid (((Fresh.refl w).alloc _).trans hf)
    obtain ⟨b0, b1, b2, b3, b4, b5⟩ := box6' (hf.at (at_new w _))
    clear hf
    go_wp2_with fail
    refine (HI.out _ HF1.out).mono ?_
    rintro e w2 ⟨a, c, rfl, hr, hf2, _⟩
    have HF2 := Lib.hid (HF1.out.trans hf2)
    have HR := Lib.hid hr
    clear hr hf2 b0 b1 b2 b3 b4 b5
    go_wp2
    go_loopw [15] (fun a15 wq => ∃ j : Nat, j ≤ ins.length ∧ a15 = .int .i64 j ∧ Hid (wrongL (ins.map M.plain) = wrongL ((ins.map M.plain).drop j)) ∧ Hid (Fresh w2 wq)) (fun a15 _ => ins.length - (intOf a15).toNat)
    case atStart => exact ⟨0, Nat.zero_le _, rfl, rfl, Fresh.refl _⟩
    case round =>
      obtain ⟨j, hj, rfl, HE, HW⟩ := hrel
      by_cases hlt : j < ins.length
      · obtain ⟨g, eg⟩ := row_some HR.out j hlt
        subst eg
        have hy := mrow_get (HR.out.move HW.out) j hlt
        have hd := wrongL_drop (ins.map M.plain) j (by simpa using hlt)
        rw [List.getElem_map] at hd
        have HX := Lib.hid hd
        have HQ2 : Hid (∀ W, Fresh wr W → Calls Tryd.prog 25 #[ins[j].val] W fun e w' => e = .returned (.int .i64 ins[j].plain.wrong) ∧ Fresh W w') := fun W hf => HIH.out _ (List.getElem_mem _) W ((HF2.out.trans HW.out).trans hf)
        clear hd
        generalize ins[j] = y at *
        generalize y.plain.wrong = x at *
        obtain ⟨yk, yf, yn, ys, yla, ylc, yl, yka, ykc, yks⟩ := y
        obtain ⟨d0, d1, d2, d3, d4, d5⟩ := hy
        dsimp only [M.val] at HQ2
        generalize yl.length = yln at *
        generalize yks.length = ykn at *
        by_cases hx : x = 0
        · subst hx
          have HX2 : Hid (wrongL ((ins.map M.plain).drop j) = wrongL ((ins.map M.plain).drop (j + 1))) := by rw [Hid, HX.out, if_neg (by simp)]
          go_wp2_with fail
          refine (HQ2.out _ ((Fresh.refl wr).alloc _)).mono ?_
          rintro e w3 ⟨rfl, hf⟩
          have HF := Lib.hid ((HW.out.alloc _).trans hf)
          clear hf
          go_wp2
          go_roundw
          case rel => exact ⟨j + 1, by omega, by go_num, by rw [Hid, HE.out, HX2.out], HF.out⟩
          case measure => simp [intOf]; omega
        · have HX2 : Hid (wrongL (ins.map M.plain) = x) := by rw [Hid, HE.out, HX.out, if_pos hx]
          have hxb : (x == 0) = false := by simpa using hx
          go_wp2_with fail
          refine (HQ2.out _ ((Fresh.refl wr).alloc _)).mono ?_
          rintro e w3 ⟨rfl, hf⟩
          have HF := Lib.hid ((HW.out.alloc _).trans hf)
          clear hf
          go_wp2
          go_ret
          exact ⟨ret_int (by rw [HX2.out]), HF2.out.trans HF.out⟩
      · obtain rfl : j = ins.length := by omega
        have HX : Hid (wrongL (ins.map M.plain) = 0) := by rw [Hid, HE.out, List.drop_eq_nil_of_le (by simp)]; rfl
        go_wp2
        go_ret
        exact ⟨ret_int (by rw [HX.out]), HF2.out.trans HW.out⟩
  · rw [if_pos how]
    have hb : (ow == 0) = false := by simpa using how
    go_enter Tryd.func25, Tryd.ntmps25
    go_wp2_with fail
    refine (HQ.out _ ((Fresh.refl w).alloc _)).mono ?_
    rintro e w1 ⟨rfl, hf⟩
    go_wp2
    go_ret
    exact ⟨rfl, ((Fresh.refl w).alloc _).trans hf⟩
theorem fault_all (N : Nat) : ∀ (m : M) (w : World), m.plain.size ≤ N → Tabs w → m.At w → Calls Tryd.prog 25 #[m.val] w fun e w' => e = .returned (.int .i64 m.plain.wrong) ∧ Fresh w w' := by
  induction N with
  | zero => intro m w hN; have := m.plain.size_pos; omega
  | succ N ih =>
    intro m w hN hT hat
    have hsz := size_inside m.plain
    rw [plain_inside] at hsz
    refine fault_step m w hT hat (fun x hx W hf => ?_)
    have := size_mem (List.mem_map_of_mem (f := M.plain) hx)
    exact ih x W (by omega) (hT.move hf) ((hat.inside x hx).move hf)
theorem check_any (m : M) (w : World) (hT : Tabs w) (hat : m.At w) : Calls Tryd.prog 9 #[m.val] w fun e w' => e = .returned (.int .i64 m.plain.check) ∧ Fresh w w' := by
  have HQ : Hid (∀ W, Fresh w W → Calls Tryd.prog 24 #[m.val, .int .i64 32] W fun e w' => e = .returned (.bool (decide (32 < m.plain.depth))) ∧ Fresh W w') := fun W hf => deeper_any 32 m W (by omega) (hat.move hf)
  have HI : Hid (∀ W, Fresh w W → Calls Tryd.prog 25 #[m.val] W fun e w' => e = .returned (.int .i64 m.plain.wrong) ∧ Fresh W w') := fun W hf => fault_all m.plain.size m W (Nat.le_refl _) (hT.move hf) (hat.move hf)
  have HC : Hid (m.plain.check = if 32 < m.plain.depth then 9 else m.plain.wrong) := rfl
  clear hT hat
  rw [HC.out]
  clear HC
  generalize m.plain.wrong = x at *
  by_cases hd : 32 < m.plain.depth
  · rw [if_pos hd]
    rw [decide_eq_true hd] at HQ
    clear hd
    obtain ⟨k, f, n, s, la, lc, l, ka, kc, ks⟩ := m
    dsimp only [M.val] at *
    generalize l.length = ln at *
    generalize ks.length = kn at *
    go_enter Tryd.func9, Tryd.ntmps9
    go_wp2_with fail
    refine (HQ.out _ ((Fresh.refl w).alloc _)).mono ?_
    rintro e w1 ⟨rfl, hf⟩
    go_wp2
    go_ret
    exact ⟨rfl, ((Fresh.refl w).alloc _).trans hf⟩
  · rw [if_neg hd]
    rw [decide_eq_false hd] at HQ
    clear hd
    obtain ⟨k, f, n, s, la, lc, l, ka, kc, ks⟩ := m
    dsimp only [M.val] at *
    generalize l.length = ln at *
    generalize ks.length = kn at *
    go_enter Tryd.func9, Tryd.ntmps9
    go_wp2_with fail
    refine (HQ.out _ ((Fresh.refl w).alloc _)).mono ?_
    rintro e w1 ⟨rfl, hf⟩
    have HF1 := Lib.hid (((Fresh.refl w).alloc _).trans hf)
    obtain ⟨b0, b1, b2, b3, b4, b5⟩ := box6' (hf.at (at_new w _))
    clear hf
    go_wp2_with fail
    refine (HI.out _ HF1.out).mono ?_
    rintro e w2 ⟨rfl, hf2⟩
    go_wp2
    go_ret
    exact ⟨rfl, HF1.out.trans hf2⟩
end Go.Proofs.YtonakfkiidhebaaDoor
