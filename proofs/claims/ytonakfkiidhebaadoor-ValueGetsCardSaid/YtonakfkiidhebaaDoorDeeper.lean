/-
  Package value: deeperThan, with the library's ContainsFunc and IndexFunc.
-/
import Derived.Test.YtonakfkiidhebaaDoorRdepth
namespace Go.Proofs.YtonakfkiidhebaaDoor
open Go.ChangeShapes Go.WideShapes Go.ChangeAt Go.RowKit
variable {w : World}

def IndexIs (p : M → Bool) (l : List M) (w : World) (e : Ending) (w' : World) : Prop := ∃ i : Int, e = .returned (.int .i64 i) ∧ (0 ≤ i ∧ l.any p = true ∨ i = -1 ∧ l.any p = false) ∧ Fresh w w'
set_option maxRecDepth 100000 in
set_option maxHeartbeats 1000000 in
theorem index_any (p : M → Bool) (ptr : Value) (l : List M) (la : Option Addr) (lc : Nat) (w : World) (hl : RowAt w la (mcells l)) (ll : l.length ≤ 1000000)
    (hp : ∀ x ∈ l, ∀ W, Fresh w W → Calls Tryd.prog 36 #[x.val, ptr] W fun e w' => e = .returned (.bool (p x)) ∧ Fresh W w') :
    Calls Tryd.prog 41 #[.slice la l.length lc, .func (.func 36) #[] #[ptr]] w (IndexIs p l w) := by
  have HR := Lib.hid hl
  have HP := Lib.hid hp
  clear hl hp
  go_enter Tryd.func41, Tryd.ntmps41
  go_wp2
  go_loopw [8] (fun a8 wr => ∃ j : Nat, j ≤ l.length ∧ a8 = .int .i64 j ∧ Hid ((l.take j).any p = false) ∧ Hid (Fresh w wr)) (fun a8 _ => l.length - (intOf a8).toNat)
  case atStart => exact ⟨0, Nat.zero_le _, rfl, rfl, Fresh.refl w⟩
  case round =>
    obtain ⟨j, hj, rfl, HA, HW⟩ := hrel
    by_cases hlt : j < l.length
    · obtain ⟨g, eg⟩ := row_some HR.out j hlt
      subst eg
      have hy := mrow_get (HR.out.move HW.out) j hlt
      have HT : Hid (l.take (j + 1) = l.take j ++ [l[j]]) := List.take_succ_eq_append_getElem hlt
      have HM : Hid (l[j] ∈ l) := List.getElem_mem _
      have HQ : Hid (Calls Tryd.prog 36 #[l[j].val, ptr] wr fun e w' => e = .returned (.bool (p l[j])) ∧ Fresh wr w') := HP.out _ (List.getElem_mem _) wr HW.out
      generalize l[j] = y at *
      have HB : Hid (p y = true → l.any p = true) := fun h => List.any_eq_true.2 ⟨y, HM.out, h⟩
      have HC : Hid (p y = false → (l.take (j + 1)).any p = false) := fun h => by
        rw [HT.out, List.any_append, HA.out]; simp [h]
      generalize p y = b at *
      obtain ⟨yk, yf, yn, ys, yla, ylc, yl, yka, ykc, yks⟩ := y
      obtain ⟨d0, d1, d2, d3, d4, d5⟩ := hy
      dsimp only [M.val] at HQ
      generalize yl.length = yln at *
      generalize yks.length = ykn at *
      cases b with
      | true =>
        go_wp2_with fail
        refine HQ.out.mono ?_
        rintro e w1 ⟨rfl, hf⟩
        have HF := Lib.hid (HW.out.trans hf)
        clear hf
        go_wp2
        go_ret
        exact ⟨j, rfl, .inl ⟨Int.natCast_nonneg j, HB.out (by trivial)⟩, HF.out⟩
      | false =>
        go_wp2_with fail
        refine HQ.out.mono ?_
        rintro e w1 ⟨rfl, hf⟩
        have HF := Lib.hid (HW.out.trans hf)
        clear hf
        go_wp2
        go_roundw
        case rel => exact ⟨j + 1, by omega, by go_num, HC.out (by trivial), HF.out⟩
        case measure => simp [intOf]; omega
    · obtain rfl : j = l.length := by omega
      have HE : Hid (l.any p = false) := by have := HA.out; rw [List.take_length] at this; exact this
      go_wp2
      go_ret
      exact ⟨-1, rfl, .inr ⟨rfl, HE.out⟩, HW.out⟩
theorem contains_any (p : M → Bool) (ptr : Value) (l : List M) (la : Option Addr) (lc : Nat) (w : World) (hl : RowAt w la (mcells l)) (ll : l.length ≤ 1000000)
    (hp : ∀ x ∈ l, ∀ W, Fresh w W → Calls Tryd.prog 36 #[x.val, ptr] W fun e w' => e = .returned (.bool (p x)) ∧ Fresh W w') :
    Calls Tryd.prog 35 #[.slice la l.length lc, .func (.func 36) #[] #[ptr]] w fun e w' => e = .returned (.bool (l.any p)) ∧ Fresh w w' := by
  have HQ := Lib.hid (index_any p ptr l la lc w hl ll hp)
  clear hl hp ll
  generalize hln : l.length = ln at *
  clear hln
  unfold IndexIs at HQ
  generalize l.any p = b at *
  go_enter Tryd.func35, Tryd.ntmps35
  go_wp2_with fail
  refine HQ.out.mono ?_
  rintro e w1 ⟨i, rfl, ⟨h0, rfl⟩ | ⟨rfl, rfl⟩, hf⟩
  · go_wp2
    go_ret
    exact ⟨rfl, hf⟩
  · go_wp2
    go_ret
    exact ⟨rfl, hf⟩
/-- The closure: it asks deeperThan of one less. -/
theorem closure_any (m : M) (b n : Nat) (bl : Bool) (w : World) (hn : n ≤ 1000) (hb : w.cell? ⟨b, 0, none⟩ = some (.int .i64 ((n + 1 : Nat) : Int)))
    (hq : ∀ W, Fresh w W → Calls Tryd.prog 24 #[m.val, .int .i64 n] W fun e w' => e = .returned (.bool bl) ∧ Fresh W w') :
    Calls Tryd.prog 36 #[m.val, .pointer (some ⟨b, 0, none⟩)] w fun e w' => e = .returned (.bool bl) ∧ Fresh w w' := by
  have HQ := Lib.hid hq
  have hbl := World.block_lt_of_cell? w _ hb
  dsimp only at hbl
  clear hq
  obtain ⟨k, f, nn, s, la, lc, l, ka, kc, ks⟩ := m
  dsimp only [M.val] at *
  generalize l.length = ln at *
  generalize ks.length = kn at *
  go_enter Tryd.func36, Tryd.ntmps36
  go_wp2_with fail
  refine (HQ.out _ ((Fresh.refl w).alloc _)).mono ?_
  rintro e w1 ⟨rfl, hf⟩
  go_wp2
  go_ret
  exact ⟨rfl, ((Fresh.refl w).alloc _).trans hf⟩
theorem deeper_not (m : M) (n : Int) (w : World) (hh : m.plain.holds = false) : Calls Tryd.prog 24 #[m.val, .int .i64 n] w fun e w' => e = .returned (.bool false) ∧ Fresh w w' := by
  have HQ : Hid (∀ W, Calls Tryd.prog 27 #[m.val] W fun e w' => e = .returned (.bool false) ∧ Fresh W w') := fun W => by rw [← hh]; exact holds_any m W
  clear hh
  obtain ⟨k, f, nn, s, la, lc, l, ka, kc, ks⟩ := m
  dsimp only [M.val] at *
  generalize l.length = ln at *
  generalize ks.length = kn at *
  go_enter Tryd.func24, Tryd.ntmps24
  go_wp2_with fail
  refine (HQ.out _).mono ?_
  rintro e w1 ⟨rfl, hf⟩
  go_wp2
  go_ret
  exact ⟨rfl, (((Fresh.refl w).alloc _).alloc _).trans hf⟩
theorem deeper_zero (m : M) (w : World) (hh : m.plain.holds = true) : Calls Tryd.prog 24 #[m.val, .int .i64 0] w fun e w' => e = .returned (.bool true) ∧ Fresh w w' := by
  have HQ : Hid (∀ W, Calls Tryd.prog 27 #[m.val] W fun e w' => e = .returned (.bool true) ∧ Fresh W w') := fun W => by rw [← hh]; exact holds_any m W
  clear hh
  obtain ⟨k, f, nn, s, la, lc, l, ka, kc, ks⟩ := m
  dsimp only [M.val] at *
  generalize l.length = ln at *
  generalize ks.length = kn at *
  go_enter Tryd.func24, Tryd.ntmps24
  go_wp2_with fail
  refine (HQ.out _).mono ?_
  rintro e w1 ⟨rfl, hf⟩
  have hc : w1.cell? ⟨w.heap.size + 1, 0, none⟩ = some (.int .i64 0) := hf.cell (cell_of_at (by have := at_new (w.alloc (.cells #[.int .i64 k, .bool f, .int .i64 nn, .string s, .slice la ln lc, .slice ka kn kc] 29)) (.cells #[.int .i64 0] 3); rw [World.size_alloc] at this; exact this) rfl)
  go_wp2
  go_ret
  exact ⟨rfl, (((Fresh.refl w).alloc _).alloc _).trans hf⟩
set_option maxRecDepth 100000 in
set_option maxHeartbeats 1000000 in
theorem deeper_succ (m : M) (n : Nat) (w : World) (hat : m.At w) (hn : n ≤ 1000) (hh : m.plain.holds = true)
    (ih : ∀ x ∈ m.inside, ∀ W, Fresh w W → Calls Tryd.prog 24 #[x.val, .int .i64 n] W fun e w' => e = .returned (.bool (decide (n < x.plain.depth))) ∧ Fresh W w') :
    Calls Tryd.prog 24 #[m.val, .int .i64 ((n + 1 : Nat) : Int)] w fun e w' => e = .returned (.bool (m.inside.any fun x => decide (n < x.plain.depth))) ∧ Fresh w w' := by
  have HQ : Hid (∀ W, Calls Tryd.prog 27 #[m.val] W fun e w' => e = .returned (.bool true) ∧ Fresh W w') := fun W => by rw [← hh]; exact holds_any m W
  have HI : Hid (∀ W, Fresh w W → Calls Tryd.prog 28 #[m.val] W (InsideIs m W)) := fun W hf => inside_any m W (hat.move hf)
  have HC : Hid (∀ (W : World) (a : Option Addr) (c b : Nat), Fresh w W → RowAt W a (mcells m.inside) → W.cell? ⟨b, 0, none⟩ = some (.int .i64 ((n + 1 : Nat) : Int)) → Calls Tryd.prog 35 #[.slice a m.inside.length c, .func (.func 36) #[] #[.pointer (some ⟨b, 0, none⟩)]] W fun e w' => e = .returned (.bool (m.inside.any fun x => decide (n < x.plain.depth))) ∧ Fresh W w') :=
    fun W a c b hf hr hb => contains_any _ _ _ a c W hr hat.len (fun x hx W' hf' => closure_any x b n _ W' hn (hf'.cell hb) (fun W2 h2 => ih x hx W2 ((hf.trans hf').trans h2)))
  clear hh hat ih
  generalize (m.inside.any fun x => decide (n < x.plain.depth)) = bb at *
  unfold InsideIs at HI
  generalize m.inside = ins at *
  obtain ⟨k, f, nn, s, la, lc, l, ka, kc, ks⟩ := m
  dsimp only [M.val] at *
  generalize l.length = ln at *
  generalize ks.length = kn at *
  go_enter Tryd.func24, Tryd.ntmps24
  go_wp2_with fail
  refine (HQ.out _).mono ?_
  rintro e w1 ⟨rfl, hf⟩
  have hc : w1.cell? ⟨w.heap.size + 1, 0, none⟩ = some (.int .i64 ((n + 1 : Nat) : Int)) := hf.cell (cell_of_at (by have := at_new (w.alloc (.cells #[.int .i64 k, .bool f, .int .i64 nn, .string s, .slice la ln lc, .slice ka kn kc] 29)) (.cells #[.int .i64 ((n + 1 : Nat) : Int)] 3); rw [World.size_alloc] at this; exact this) rfl)
  have hbx : w1.heap[w.heap.size]? = some (.cells #[.int .i64 k, .bool f, .int .i64 nn, .string s, .slice la ln lc, .slice ka kn kc] 29) := hf.at (at_alloc (at_new w _))
  obtain ⟨b0, b1, b2, b3, b4, b5⟩ := box6' hbx
  have HF1 := Lib.hid ((((Fresh.refl w).alloc _).alloc _).trans hf)
  clear hf hbx
  go_wp2_with fail
  refine (HI.out _ HF1.out).mono ?_
  rintro e w2 ⟨a, c, rfl, hr, hf2, _⟩
  have HF2 := Lib.hid (HF1.out.trans hf2)
  have HC2 := Lib.hid (HC.out w2 a c (w.heap.size + 1) HF2.out hr (hf2.cell hc))
  clear hr hf2 hc b0 b1 b2 b3 b4 b5
  go_wp2_with fail
  refine HC2.out.mono ?_
  rintro e w3 ⟨rfl, hf3⟩
  go_wp2
  go_ret
  exact ⟨rfl, HF2.out.trans hf3⟩
theorem deeper_any (n : Nat) : ∀ (m : M) (w : World), n ≤ 1000 → m.At w → Calls Tryd.prog 24 #[m.val, .int .i64 n] w fun e w' => e = .returned (.bool (decide (n < m.plain.depth))) ∧ Fresh w w' := by
  induction n with
  | zero =>
    intro m w _ hat
    cases hh : m.plain.holds with
    | false => rw [m.plain.depth_not hh]; exact deeper_not m _ w hh
    | true =>
      rw [m.plain.depth_holds hh, decide_eq_true (by omega)]
      exact deeper_zero m w hh
  | succ n ih =>
    intro m w hn hat
    cases hh : m.plain.holds with
    | false => rw [m.plain.depth_not hh]; exact deeper_not m _ w hh
    | true =>
      have e : decide (n + 1 < m.plain.depth) = (m.inside.any fun x => decide (n < x.plain.depth)) := by
        rw [m.plain.depth_holds hh, Bool.eq_iff_iff, decide_eq_true_iff, List.any_eq_true, plain_inside]
        constructor
        · intro h
          obtain ⟨v, hv, hd⟩ := (depthL_lt _ n).1 (show n < depthL (m.inside.map M.plain) by omega)
          obtain ⟨x, hx, rfl⟩ := List.mem_map.1 hv
          exact ⟨x, hx, decide_eq_true hd⟩
        · rintro ⟨x, hx, hd⟩
          have := (depthL_lt (m.inside.map M.plain) n).2 ⟨_, List.mem_map_of_mem (f := M.plain) hx, of_decide_eq_true hd⟩
          omega
      rw [e]
      exact deeper_succ m n w hat (by omega) hh (fun x hx W hf => ih x W (by omega) ((hat.inside x hx).move hf))
end Go.Proofs.YtonakfkiidhebaaDoor
