/-
  Package value: deeperThan, with the library's ContainsFunc and IndexFunc.
  Package value: Get, and the document's.
  The document's Same.
-/
import Derived.Test.YthhdadfnkdjmkaaGreatDoorCat05
import Derived.Test.YthhdadfnkdjmkaaGreatDoorCat13
import Derived.RegionTactic
import Derived.Deep.RegionHeld3
import Derived.Deep.DrawnRows
namespace Go.Proofs.YthhdadfnkdjmkaaGreatDoor.v
open Go.ChangeShapes Go.WideShapes Go.ChangeAt Go.RowKit
variable {w : World}

def IndexIs (p : M → Bool) (l : List M) (w : World) (e : Ending) (w' : World) : Prop := ∃ i : Int, e = .returned (.int .i64 i) ∧ (0 ≤ i ∧ l.any p = true ∨ i = -1 ∧ l.any p = false) ∧ Fresh w w'
set_option maxRecDepth 100000 in
set_option maxHeartbeats 1000000 in
theorem index_any (p : M → Bool) (ptr : Value) (l : List M) (la : Option Addr) (lc : Nat) (w : World) (hl : RowAt w la (mcells l)) (ll : l.length ≤ 1000000)
    (hp : ∀ x ∈ l, ∀ W, Fresh w W → Calls Tryz.prog 94 #[x.val, ptr] W fun e w' => e = .returned (.bool (p x)) ∧ Fresh W w') :
    Calls Tryz.prog 121 #[.slice la l.length lc, .func (.func 94) #[] #[ptr]] w (IndexIs p l w) := by
  have HR := Lib.hid hl
  have HP := Lib.hid hp
  clear hl hp
  go_enter Tryz.func121, Tryz.ntmps121
  go_wp2
  go_loopw [8] (fun a8 wr => ∃ j : Nat, j ≤ l.length ∧ a8 = .int .i64 j ∧ Hid ((l.take j).any p = false) ∧ Hid (Fresh w wr)) (fun a8 _ => l.length - (intOf a8).toNat)
  case atStart => exact ⟨0, Nat.zero_le _, rfl, rfl, Fresh.refl w⟩
  case round =>
    obtain ⟨j, hj, rfl, HA, HW⟩ := hrel
    by_cases hlt : j < l.length
    · obtain ⟨g, eg⟩ := row_some HR.out j hlt
      subst eg
      have hy := mrow_get (HR.out.move HW.out) j hlt
      have HT : Hid (l.take (j + 1) = l.take j ++ [l[j]]) := List.take_succ_eq_append_getElem hlt
      have HM : Hid (l[j] ∈ l) := List.getElem_mem _
      have HQ : Hid (Calls Tryz.prog 94 #[l[j].val, ptr] wr fun e w' => e = .returned (.bool (p l[j])) ∧ Fresh wr w') := HP.out _ (List.getElem_mem _) wr HW.out
      generalize l[j] = y at *
      have HB : Hid (p y = true → l.any p = true) := fun h => List.any_eq_true.2 ⟨y, HM.out, h⟩
      have HC : Hid (p y = false → (l.take (j + 1)).any p = false) := fun h => by
        rw [HT.out, List.any_append, HA.out]; simp [h]
      generalize p y = b at *
      obtain ⟨yk, yf, yn, ys, yla, ylc, yl, yka, ykc, yks⟩ := y
      obtain ⟨d0, d1, d2, d3, d4, d5⟩ := hy
      dsimp only [M.val] at HQ
      generalize yl.length = yln at *
      generalize yks.length = ykn at *
      cases b with
      | true =>
        go_wp2_with fail
        refine HQ.out.mono ?_
        rintro e w1 ⟨rfl, hf⟩
        have HF := Lib.hid (HW.out.trans hf)
        clear hf
        go_wp2
        go_ret
        exact ⟨j, rfl, .inl ⟨Int.natCast_nonneg j, HB.out (by trivial)⟩, HF.out⟩
      | false =>
        go_wp2_with fail
        refine HQ.out.mono ?_
        rintro e w1 ⟨rfl, hf⟩
        have HF := Lib.hid (HW.out.trans hf)
        clear hf
        go_wp2
        go_roundw
        case rel => exact ⟨j + 1, by omega, by go_num, HC.out (by trivial), HF.out⟩
        case measure => simp [intOf]; omega
    · obtain rfl : j = l.length := by omega
      have HE : Hid (l.any p = false) := by have := HA.out; rw [List.take_length] at this; exact this
      go_wp2
      go_ret
      exact ⟨-1, rfl, .inr ⟨rfl, HE.out⟩, HW.out⟩
theorem contains_any (p : M → Bool) (ptr : Value) (l : List M) (la : Option Addr) (lc : Nat) (w : World) (hl : RowAt w la (mcells l)) (ll : l.length ≤ 1000000)
    (hp : ∀ x ∈ l, ∀ W, Fresh w W → Calls Tryz.prog 94 #[x.val, ptr] W fun e w' => e = .returned (.bool (p x)) ∧ Fresh W w') :
    Calls Tryz.prog 93 #[.slice la l.length lc, .func (.func 94) #[] #[ptr]] w fun e w' => e = .returned (.bool (l.any p)) ∧ Fresh w w' := by
  have HQ := Lib.hid (index_any p ptr l la lc w hl ll hp)
  clear hl hp ll
  generalize hln : l.length = ln at *
  clear hln
  unfold IndexIs at HQ
  generalize l.any p = b at *
  go_enter Tryz.func93, Tryz.ntmps93
  go_wp2_with fail
  refine HQ.out.mono ?_
  rintro e w1 ⟨i, rfl, ⟨h0, rfl⟩ | ⟨rfl, rfl⟩, hf⟩
  · go_wp2
    go_ret
    exact ⟨rfl, hf⟩
  · go_wp2
    go_ret
    exact ⟨rfl, hf⟩
/-- The closure: it asks deeperThan of one less. -/
theorem closure_any (m : M) (b n : Nat) (bl : Bool) (w : World) (hn : n ≤ 1000) (hb : w.cell? ⟨b, 0, none⟩ = some (.int .i64 ((n + 1 : Nat) : Int)))
    (hq : ∀ W, Fresh w W → Calls Tryz.prog 68 #[m.val, .int .i64 n] W fun e w' => e = .returned (.bool bl) ∧ Fresh W w') :
    Calls Tryz.prog 94 #[m.val, .pointer (some ⟨b, 0, none⟩)] w fun e w' => e = .returned (.bool bl) ∧ Fresh w w' := by
  have HQ := Lib.hid hq
  have hbl := World.block_lt_of_cell? w _ hb
  dsimp only at hbl
  clear hq
  obtain ⟨k, f, nn, s, la, lc, l, ka, kc, ks⟩ := m
  dsimp only [M.val] at *
  generalize l.length = ln at *
  generalize ks.length = kn at *
  go_enter Tryz.func94, Tryz.ntmps94
  go_wp2_with fail
  refine (HQ.out _ ((Fresh.refl w).alloc _)).mono ?_
  rintro e w1 ⟨rfl, hf⟩
  go_wp2
  go_ret
  exact ⟨rfl, ((Fresh.refl w).alloc _).trans hf⟩
theorem deeper_not (m : M) (n : Int) (w : World) (hh : m.plain.holds = false) : Calls Tryz.prog 68 #[m.val, .int .i64 n] w fun e w' => e = .returned (.bool false) ∧ Fresh w w' := by
  have HQ : Hid (∀ W, Calls Tryz.prog 41 #[m.val] W fun e w' => e = .returned (.bool false) ∧ Fresh W w') := fun W => by rw [← hh]; exact holds_any m W
  clear hh
  obtain ⟨k, f, nn, s, la, lc, l, ka, kc, ks⟩ := m
  dsimp only [M.val] at *
  generalize l.length = ln at *
  generalize ks.length = kn at *
  go_enter Tryz.func68, Tryz.ntmps68
  go_wp2_with fail
  refine (HQ.out _).mono ?_
  rintro e w1 ⟨rfl, hf⟩
  go_wp2
  go_ret
  exact ⟨rfl, (((Fresh.refl w).alloc _).alloc _).trans hf⟩
theorem deeper_zero (m : M) (w : World) (hh : m.plain.holds = true) : Calls Tryz.prog 68 #[m.val, .int .i64 0] w fun e w' => e = .returned (.bool true) ∧ Fresh w w' := by
  have HQ : Hid (∀ W, Calls Tryz.prog 41 #[m.val] W fun e w' => e = .returned (.bool true) ∧ Fresh W w') := fun W => by rw [← hh]; exact holds_any m W
  clear hh
  obtain ⟨k, f, nn, s, la, lc, l, ka, kc, ks⟩ := m
  dsimp only [M.val] at *
  generalize l.length = ln at *
  generalize ks.length = kn at *
  go_enter Tryz.func68, Tryz.ntmps68
  go_wp2_with fail
  refine (HQ.out _).mono ?_
  rintro e w1 ⟨rfl, hf⟩
  have hc : w1.cell? ⟨w.heap.size + 1, 0, none⟩ = some (.int .i64 0) := hf.cell (cell_of_at (by have := at_new (w.alloc (.cells #[.int .i64 k, .bool f, .int .i64 nn, .string s, .slice la ln lc, .slice ka kn kc] 27)) (.cells #[.int .i64 0] 3); rw [World.size_alloc] at this; exact this) rfl)
  go_wp2
  go_ret
  exact ⟨rfl, (((Fresh.refl w).alloc _).alloc _).trans hf⟩
set_option maxRecDepth 100000 in
set_option maxHeartbeats 1000000 in
theorem deeper_succ (m : M) (n : Nat) (w : World) (hat : m.At w) (hn : n ≤ 1000) (hh : m.plain.holds = true)
    (ih : ∀ x ∈ m.inside, ∀ W, Fresh w W → Calls Tryz.prog 68 #[x.val, .int .i64 n] W fun e w' => e = .returned (.bool (decide (n < x.plain.depth))) ∧ Fresh W w') :
    Calls Tryz.prog 68 #[m.val, .int .i64 ((n + 1 : Nat) : Int)] w fun e w' => e = .returned (.bool (m.inside.any fun x => decide (n < x.plain.depth))) ∧ Fresh w w' := by
  have HQ : Hid (∀ W, Calls Tryz.prog 41 #[m.val] W fun e w' => e = .returned (.bool true) ∧ Fresh W w') := fun W => by rw [← hh]; exact holds_any m W
  have HI : Hid (∀ W, Fresh w W → Calls Tryz.prog 39 #[m.val] W (InsideIs m W)) := fun W hf => inside_any m W (hat.move hf)
  have HC : Hid (∀ (W : World) (a : Option Addr) (c b : Nat), Fresh w W → RowAt W a (mcells m.inside) → W.cell? ⟨b, 0, none⟩ = some (.int .i64 ((n + 1 : Nat) : Int)) → Calls Tryz.prog 93 #[.slice a m.inside.length c, .func (.func 94) #[] #[.pointer (some ⟨b, 0, none⟩)]] W fun e w' => e = .returned (.bool (m.inside.any fun x => decide (n < x.plain.depth))) ∧ Fresh W w') :=
    fun W a c b hf hr hb => contains_any _ _ _ a c W hr hat.len (fun x hx W' hf' => closure_any x b n _ W' hn (hf'.cell hb) (fun W2 h2 => ih x hx W2 ((hf.trans hf').trans h2)))
  clear hh hat ih
  generalize (m.inside.any fun x => decide (n < x.plain.depth)) = bb at *
  unfold InsideIs at HI
  generalize m.inside = ins at *
  obtain ⟨k, f, nn, s, la, lc, l, ka, kc, ks⟩ := m
  dsimp only [M.val] at *
  generalize l.length = ln at *
  generalize ks.length = kn at *
  go_enter Tryz.func68, Tryz.ntmps68
  go_wp2_with fail
  refine (HQ.out _).mono ?_
  rintro e w1 ⟨rfl, hf⟩
  have hc : w1.cell? ⟨w.heap.size + 1, 0, none⟩ = some (.int .i64 ((n + 1 : Nat) : Int)) := hf.cell (cell_of_at (by have := at_new (w.alloc (.cells #[.int .i64 k, .bool f, .int .i64 nn, .string s, .slice la ln lc, .slice ka kn kc] 27)) (.cells #[.int .i64 ((n + 1 : Nat) : Int)] 3); rw [World.size_alloc] at this; exact this) rfl)
  have hbx : w1.heap[w.heap.size]? = some (.cells #[.int .i64 k, .bool f, .int .i64 nn, .string s, .slice la ln lc, .slice ka kn kc] 27) := hf.at (at_alloc (at_new w _))
  obtain ⟨b0, b1, b2, b3, b4, b5⟩ := box6' hbx
  have HF1 := Lib.hid ((((Fresh.refl w).alloc _).alloc _).trans hf)
  clear hf hbx
  go_wp2_with fail
  refine (HI.out _ HF1.out).mono ?_
  rintro e w2 ⟨a, c, rfl, hr, hf2, _⟩
  have HF2 := Lib.hid (HF1.out.trans hf2)
  have HC2 := Lib.hid (HC.out w2 a c (w.heap.size + 1) HF2.out hr (hf2.cell hc))
  clear hr hf2 hc b0 b1 b2 b3 b4 b5
  go_wp2_with fail
  refine HC2.out.mono ?_
  rintro e w3 ⟨rfl, hf3⟩
  go_wp2
  go_ret
  exact ⟨rfl, HF2.out.trans hf3⟩
theorem deeper_any (n : Nat) : ∀ (m : M) (w : World), n ≤ 1000 → m.At w → Calls Tryz.prog 68 #[m.val, .int .i64 n] w fun e w' => e = .returned (.bool (decide (n < m.plain.depth))) ∧ Fresh w w' := by
  induction n with
  | zero =>
    intro m w _ hat
    cases hh : m.plain.holds with
    | false => rw [m.plain.depth_not hh]; exact deeper_not m _ w hh
    | true =>
      rw [m.plain.depth_holds hh, decide_eq_true (by omega)]
      exact deeper_zero m w hh
  | succ n ih =>
    intro m w hn hat
    cases hh : m.plain.holds with
    | false => rw [m.plain.depth_not hh]; exact deeper_not m _ w hh
    | true =>
      have e : decide (n + 1 < m.plain.depth) = (m.inside.any fun x => decide (n < x.plain.depth)) := by
        rw [m.plain.depth_holds hh, Bool.eq_iff_iff, decide_eq_true_iff, List.any_eq_true, plain_inside]
        constructor
        · intro h
          obtain ⟨v, hv, hd⟩ := (depthL_lt _ n).1 (show n < depthL (m.inside.map M.plain) by omega)
          obtain ⟨x, hx, rfl⟩ := List.mem_map.1 hv
          exact ⟨x, hx, decide_eq_true hd⟩
        · rintro ⟨x, hx, hd⟩
          have := (depthL_lt (m.inside.map M.plain) n).2 ⟨_, List.mem_map_of_mem (f := M.plain) hx, of_decide_eq_true hd⟩
          omega
      rw [e]
      exact deeper_succ m n w hat (by omega) hh (fun x hx W hf => ih x W (by omega) ((hat.inside x hx).move hf))
end Go.Proofs.YthhdadfnkdjmkaaGreatDoor.v
namespace Go.Proofs.YthhdadfnkdjmkaaGreatDoor.v
open Go.ChangeShapes Go.WideShapes Go.ChangeAt Go.RowKit
attribute [local go_sem ↓] Go.wp_at_zero Go.wp_at_succ
def V0 : V := .mk 0 false 0 ⟨#[]⟩ [] []
def M0 : M := .mk 0 false 0 ⟨#[]⟩ none 0 [] none 0 []
theorem m0_at (w : World) : M0.At w := .mk (by decide) (.inl ⟨rfl, rfl⟩) (.inl ⟨rfl, rfl⟩) (by simp) (by simp) (fun _ h => by cases h) (fun _ h => by cases h) (fun _ h => by cases h)
theorem m0_plain : M0.plain = V0 := by simp [M0, V0, M.plain, plainL, plainK]
/-- What Get gives. -/
def V.gets (v : V) (key : ByteArray) : V × Bool := if v.kind = 5 then (match v.keys.find? (fun p => decide (p.1 = key)) with | some p => (p.2, true) | none => (V0, false)) else (V0, false)
theorem gets_no {k : Int} {f : Bool} {n : Int} {s : ByteArray} {l : List V} {ks : List (ByteArray × V)} {key : ByteArray} (h : k ≠ 5) : (V.mk k f n s l ks).gets key = (V0, false) := by
  unfold V.gets; rw [if_neg (by simpa [V.kind] using h)]
theorem find_map (ks : List (ByteArray × M)) (key : ByteArray) : (ks.map fun p => (p.1, p.2.plain)).find? (fun p => decide (p.1 = key)) = (ks.find? (fun p => decide (p.1 = key))).map fun p => (p.1, p.2.plain) := by
  rw [List.find?_map]; rfl
theorem gets_none {f : Bool} {n : Int} {s : ByteArray} {l : List V} {ks : List (ByteArray × M)} {key : ByteArray} (h : ks.find? (fun p => decide (p.1 = key)) = none) : (V.mk 5 f n s l (ks.map fun p => (p.1, p.2.plain))).gets key = (V0, false) := by
  unfold V.gets; simp only [V.kind, V.keys, if_true, find_map, h]; rfl
theorem gets_some {f : Bool} {n : Int} {s : ByteArray} {l : List V} {ks : List (ByteArray × M)} {key : ByteArray} {p : ByteArray × M} (h : ks.find? (fun p => decide (p.1 = key)) = some p) : (V.mk 5 f n s l (ks.map fun p => (p.1, p.2.plain))).gets key = (p.2.plain, true) := by
  unfold V.gets; simp only [V.kind, V.keys, if_true, find_map, h]; rfl
theorem find_at {ks : List (ByteArray × M)} {key : ByteArray} {j : Nat} (hj : j < ks.length) (h0 : (ks.take j).find? (fun p => decide (p.1 = key)) = none) (h : ks[j].1 = key) : ks.find? (fun p => decide (p.1 = key)) = some ks[j] := by
  have e : ks = ks.take j ++ ks[j] :: ks.drop (j + 1) := by rw [List.getElem_cons_drop, List.take_append_drop]
  have h2 : (ks.take j ++ ks[j] :: ks.drop (j + 1)).find? (fun p => decide (p.1 = key)) = some ks[j] := by
    rw [List.find?_append, h0, List.find?_cons]
    simp [h]
  rw [← e] at h2; exact h2
theorem find_on {ks : List (ByteArray × M)} {key : ByteArray} {j : Nat} (hj : j < ks.length) (h0 : (ks.take j).find? (fun p => decide (p.1 = key)) = none) (h : ¬ ks[j].1 = key) : (ks.take (j + 1)).find? (fun p => decide (p.1 = key)) = none := by
  rw [List.take_succ_eq_append_getElem hj, List.find?_append, h0]
  simp [h]
theorem key_eq (key : ByteArray) (b : Nat) (yk : Int) (yf : Bool) (yn : Int) (s ys : ByteArray) (yla yka : Option Addr) (yln ylc ykn ykc : Nat) (w : World) (hb : w.cell? ⟨b, 0, none⟩ = some (.string key)) :
    Calls Tryz.prog 37 #[.agg #[.string s, .int .i64 yk, .bool yf, .int .i64 yn, .string ys, .slice yla yln ylc, .slice yka ykn ykc], .pointer (some ⟨b, 0, none⟩)] w fun e w' => e = .returned (.bool (decide (s = key))) ∧ Fresh w w' := by
  have hb2 := ((Fresh.refl w).alloc (.cells #[.string s, .int .i64 yk, .bool yf, .int .i64 yn, .string ys, .slice yla yln ylc, .slice yka ykn ykc] 54)).cell hb
  have hne : b ≠ w.heap.size := by have := World.block_lt_of_cell? w ⟨b, 0, none⟩ hb; dsimp only at this; omega
  clear hb
  go_enter Tryz.func37, Tryz.ntmps37
  go_wp2
  go_ret
  exact ⟨by rw [toList_beq]; rfl, (Fresh.refl w).alloc _⟩
def FoundIs (key : ByteArray) (ks : List (ByteArray × M)) (w : World) (e : Ending) (w' : World) : Prop := ∃ i : Int, e = .returned (.int .i64 i) ∧ ((∃ (j : Nat) (h : j < ks.length), i = j ∧ ks.find? (fun p => decide (p.1 = key)) = some ks[j]) ∨ i = -1 ∧ ks.find? (fun p => decide (p.1 = key)) = none) ∧ Fresh w w'
set_option maxRecDepth 100000 in
set_option maxHeartbeats 1000000 in
theorem found_any (key : ByteArray) (b : Nat) (ks : List (ByteArray × M)) (la : Option Addr) (lc : Nat) (w : World) (hl : RowAt w la (pcells ks)) (ll : ks.length ≤ 1000000) (hb : w.cell? ⟨b, 0, none⟩ = some (.string key)) :
    Calls Tryz.prog 36 #[.slice la ks.length lc, .func (.func 37) #[] #[.pointer (some ⟨b, 0, none⟩)]] w (FoundIs key ks w) := by
  have HR := Lib.hid hl
  have HKB := Lib.hid hb
  clear hl hb
  have HLL : Hid (ks.length = ks.length) := rfl
  go_enter Tryz.func36, Tryz.ntmps36
  go_wp2
  go_loopw [8] (fun a8 wr => ∃ j : Nat, j ≤ ks.length ∧ a8 = .int .i64 j ∧ Hid ((ks.take j).find? (fun p => decide (p.1 = key)) = none) ∧ Hid (Fresh w wr)) (fun a8 _ => ks.length - (intOf a8).toNat)
  case atStart => exact ⟨0, Nat.zero_le _, rfl, rfl, Fresh.refl w⟩
  case round =>
    obtain ⟨j, hj, rfl, HA, HW⟩ := hrel
    by_cases hlt : j < ks.length
    · obtain ⟨g, eg⟩ := prow_some HR.out j hlt
      subst eg
      have hy := prow_get (HR.out.move HW.out) j hlt
      have HB : Hid (ks[j].1 = key → ks.find? (fun p => decide (p.1 = key)) = some ks[j]) := find_at hlt HA.out
      have HC : Hid (¬ ks[j].1 = key → (ks.take (j + 1)).find? (fun p => decide (p.1 = key)) = none) := find_on hlt HA.out
      have hk2 : ks[j].1 = ks[j].1 := rfl
      generalize hpp : ks[j] = p at *
      have HPP := Lib.hid hpp
      clear hpp
      obtain ⟨s, y⟩ := p
      obtain ⟨yk, yf, yn, ys, yla, ylc, yl, yka, ykc, yks⟩ := y
      dsimp only at hy HB HC
      obtain ⟨dk, d0, d1, d2, d3, d4, d5⟩ := hy
      have HQ : Hid (Calls Tryz.prog 37 #[.agg #[.string s, .int .i64 yk, .bool yf, .int .i64 yn, .string ys, .slice yla yl.length ylc, .slice yka yks.length ykc], .pointer (some ⟨b, 0, none⟩)] wr fun e w' => e = .returned (.bool (decide (s = key))) ∧ Fresh wr w') := key_eq key b yk yf yn s ys yla yka _ ylc _ ykc wr (HW.out.cell HKB.out)
      generalize yl.length = yln at *
      generalize yks.length = ykn at *
      by_cases hs : s = key
      · rw [decide_eq_true hs] at HQ
        have HE := HB.out hs
        have HE2 := Lib.hid HE
        clear HE hs hk2
        go_wp2_with fail
        refine HQ.out.mono ?_
        rintro e w1 ⟨rfl, hf⟩
        have HF := Lib.hid (HW.out.trans hf)
        clear hf
        go_wp2
        go_ret
        exact ⟨j, rfl, .inl ⟨j, hlt, rfl, by rw [HPP.out]; exact HE2.out⟩, HF.out⟩
      · rw [decide_eq_false hs] at HQ
        have HE := HC.out hs
        have HE2 := Lib.hid HE
        clear HE hs hk2
        go_wp2_with fail
        refine HQ.out.mono ?_
        rintro e w1 ⟨rfl, hf⟩
        have HF := Lib.hid (HW.out.trans hf)
        clear hf
        go_wp2
        go_roundw
        case rel => exact ⟨j + 1, by omega, by go_num, HE2.out, HF.out⟩
        case measure => simp [intOf]; omega
    · obtain rfl : j = ks.length := by omega
      have HE : Hid (ks.find? (fun p => decide (p.1 = key)) = none) := by have := HA.out; rw [List.take_length] at this; exact this
      go_wp2
      go_ret
      exact ⟨-1, rfl, .inr ⟨rfl, HE.out⟩, HW.out⟩
/-- What Get gives, as a value in memory. -/
def GotIs (v : V) (key : ByteArray) (w : World) (e : Ending) (w' : World) : Prop := (∃ (x : M) (ok : Bool), e = .returned (.tuple #[x.val, .bool ok]) ∧ x.At w' ∧ (x.plain, ok) = v.gets key) ∧ Fresh w w'
set_option maxRecDepth 100000 in
set_option maxHeartbeats 1000000 in
theorem get_any (m : M) (key : ByteArray) (w : World) (hat : m.At w) : Calls Tryz.prog 14 #[m.val, .string key] w (GotIs m.plain key w) := by
  obtain ⟨k, f, n, s, la, lc, l, ka, kc, ks⟩ := m
  have HAT := Lib.hid hat.parts
  clear hat
  dsimp only [M.val, M.plain]
  rw [plainL_eq, plainK_eq]
  generalize l.length = ln at *
  by_cases hk : k = 5
  · subst hk
    have HQ : Hid (∀ (b : Nat) (W : World), Fresh w W → W.cell? ⟨b, 0, none⟩ = some (.string key) → Calls Tryz.prog 36 #[.slice ka ks.length kc, .func (.func 37) #[] #[.pointer (some ⟨b, 0, none⟩)]] W (FoundIs key ks W)) := fun b W hf hb => found_any key b ks ka kc W (HAT.out.2.2.1.move hf) HAT.out.2.2.2.2.1 hb
    generalize hkn : ks.length = kn at HQ
    have HKN := Lib.hid hkn
    clear hkn
    go_enter Tryz.func14, Tryz.ntmps14
    go_wp2_with fail
    refine (HQ.out _ _ (((Fresh.refl w).alloc _).alloc _ |>.alloc _) ?_).mono ?_
    · have := at_new (w.alloc (.cells #[.int .i64 5, .bool f, .int .i64 n, .string s, .slice la ln lc, .slice ka kn kc] 27)) (.cells #[.string key] 9)
      rw [World.size_alloc] at this
      exact cell_of_at (at_alloc this) rfl
    rintro e w1 ⟨i, rfl, hfi, hf⟩
    have HFI := Lib.hid hfi
    have HF := Lib.hid ((((Fresh.refl w).alloc _).alloc _ |>.alloc _).trans hf)
    obtain ⟨b0, b1, b2, b3, b4, b5⟩ := box6' (hf.at (at_alloc (at_alloc (at_new w (.cells #[.int .i64 5, .bool f, .int .i64 n, .string s, .slice la ln lc, .slice ka kn kc] 27)))))
    have hb := hf.at (at_new ((w.alloc (.cells #[.int .i64 5, .bool f, .int .i64 n, .string s, .slice la ln lc, .slice ka kn kc] 27)).alloc (.cells #[.string key] 9)) (.cells #[.int .i64 0, .bool false, .int .i64 0, .string ⟨#[]⟩, .slice none 0 0, .slice none 0 0] 27))
    rw [World.size_alloc, World.size_alloc] at hb
    obtain ⟨c0, c1, c2, c3, c4, c5⟩ := box6' hb
    obtain ⟨z0, z1, z2, z3, z4, z5⟩ : w1.frozen? ⟨w.heap.size + 1 + 1, 0, none⟩ = false ∧ w1.frozen? ⟨w.heap.size + 1 + 1, 1, none⟩ = false ∧ w1.frozen? ⟨w.heap.size + 1 + 1, 2, none⟩ = false ∧ w1.frozen? ⟨w.heap.size + 1 + 1, 3, none⟩ = false ∧ w1.frozen? ⟨w.heap.size + 1 + 1, 4, none⟩ = false ∧ w1.frozen? ⟨w.heap.size + 1 + 1, 5, none⟩ = false := by simp [World.frozen?, hb]
    clear hf hb hfi
    rcases HFI.out with ⟨j, hj, rfl, he⟩ | ⟨rfl, he⟩
    · have HE := Lib.hid he
      obtain ⟨g, eg⟩ := prow_some HAT.out.2.2.1 j hj
      subst eg
      have hy := prow_get (HAT.out.2.2.1.move HF.out) j hj
      have HYA : Hid (ks[j].2.At w) := HAT.out.2.2.2.2.2.2.2 _ (List.getElem_mem _)
      have i1 : (j : Int) < (kn : Int) := by have := HKN.out; omega
      have i2 : ¬ (j : Int) < 0 := by omega
      have i3 : (0 : Int) ≤ (j : Int) := by omega
      clear he HFI
      generalize ks[j] = p at *
      obtain ⟨s', y⟩ := p
      obtain ⟨yk, yf, yn, ys, yla, ylc, yl, yka, ykc, yks⟩ := y
      dsimp only at hy HYA
      obtain ⟨dk, d0, d1, d2, d3, d4, d5⟩ := hy
      have HYV : Hid ((M.mk yk yf yn ys yla ylc yl yka ykc yks).val = .agg #[.int .i64 yk, .bool yf, .int .i64 yn, .string ys, .slice yla yl.length ylc, .slice yka yks.length ykc]) := rfl
      generalize yl.length = yln at *
      generalize yks.length = ykn at *
      go_wp2
      refine bodyPost_ret (v := .tuple #[.agg #[.int .i64 yk, .bool yf, .int .i64 yn, .string ys, .slice yla yln ylc, .slice yka ykn ykc], .bool true]) (by simp [results, Tryz.results14, go_sem, *]) rfl ⟨⟨M.mk yk yf yn ys yla ylc yl yka ykc yks, true, by rw [HYV.out], ?_, (gets_some HE.out).symm⟩, ?_⟩
      · refine HYA.out.move ?_
        exact Fresh.setCells (by omega) [.int .i64 yk, .bool yf, .int .i64 yn, .string ys, .slice yla yln ylc, .slice yka ykn ykc] 0 HF.out
      · exact Fresh.setCells (by omega) [.int .i64 yk, .bool yf, .int .i64 yn, .string ys, .slice yla yln ylc, .slice yka ykn ykc] 0 HF.out
    · have HE := Lib.hid he
      clear he HFI
      go_wp2
      refine bodyPost_ret (v := .tuple #[M0.val, .bool false]) (by simp [results, Tryz.results14, go_sem, M0, M.val, *]) rfl ⟨⟨M0, false, rfl, m0_at _, by rw [m0_plain]; exact (gets_none HE.out).symm⟩, ?_⟩
      exact Fresh.setCells (by omega) [.int .i64 0, .bool false, .int .i64 0, .string ⟨#[]⟩, .slice none 0 0, .slice none 0 0] 0 HF.out
  · have e5 : (k != 5) = true := by simpa using hk
    have HK := Lib.hid hk
    clear hk
    generalize ks.length = kn at *
    go_enter Tryz.func14, Tryz.ntmps14
    go_wp2
    refine bodyPost_ret (v := .tuple #[M0.val, .bool false]) (by simp [results, Tryz.results14, go_sem, M0, M.val, *]) rfl ⟨⟨M0, false, rfl, m0_at _, by rw [m0_plain]; exact (gets_no HK.out).symm⟩, ?_⟩
    exact (((Fresh.refl w).alloc _).alloc _).alloc _
end Go.Proofs.YthhdadfnkdjmkaaGreatDoor.v
namespace Go.Proofs.YthhdadfnkdjmkaaGreatDoor.v
open Go.ChangeShapes Go.WideShapes Go.ChangeAt Go.RowKit
attribute [local go_sem ↓] Go.wp_at_zero Go.wp_at_succ
variable {w : World}

theorem box6at {w0 w : World} (f : Fresh w0 w) {b : Nat} {c0 c1 c2 c3 c4 c5 : Value} {T : TypeId} {z : Nat × Nat} (h : w0.heap[b]? = some (.cells #[c0, c1, c2, c3, c4, c5] T z)) :
    w.cell? ⟨b, 0, none⟩ = some c0 ∧ w.cell? ⟨b, 1, none⟩ = some c1 ∧ w.cell? ⟨b, 2, none⟩ = some c2 ∧ w.cell? ⟨b, 3, none⟩ = some c3 ∧ w.cell? ⟨b, 4, none⟩ = some c4 ∧ w.cell? ⟨b, 5, none⟩ = some c5 := box6' (f.at h)
set_option maxRecDepth 100000 in
set_option maxHeartbeats 1000000 in
theorem rsame_plain (k k' : Int) (f f' : Bool) (n n' : Int) (s s' : ByteArray) (la la' : Option Addr) (ln lc ln' lc' : Nat) (ka ka' : Option Addr) (kn kc kn' kc' : Nat) (b : Bool) (w : World) (h4 : k ≠ 4) (h5 : k ≠ 5)
    (hb : b = decide (k = k' ∧ (k ≠ 1 ∨ f = f') ∧ (k ≠ 2 ∨ n = n') ∧ (k ≠ 3 ∨ s = s'))) :
    Calls Tryz.prog 9 #[mval k f n s la ln lc ka kn kc, mval k' f' n' s' la' ln' lc' ka' kn' kc'] w fun e w' => e = .returned (.bool b) ∧ Fresh w w' := by
  have e4 : (k == 4) = false := by simpa using h4
  have e5 : (k == 5) = false := by simpa using h5
  by_cases hk : k = k'
  · subst hk
    by_cases h1 : k = 1
    · subst h1
      have HB : Hid (b = decide (f = f')) := by rw [Hid, hb]; simp
      clear hb h4 h5 e4 e5
      cases f with
      | false =>
        cases f' with
        | false =>
          rw [HB.out]
          go_enter Tryz.func9, Tryz.ntmps9
          go_wp2
          go_ret
          exact ⟨rfl, ((Fresh.refl w).alloc _).alloc _⟩
        | true =>
          rw [HB.out]
          go_enter Tryz.func9, Tryz.ntmps9
          go_wp2
          go_ret
          exact ⟨rfl, ((Fresh.refl w).alloc _).alloc _⟩
      | true =>
        cases f' with
        | false =>
          rw [HB.out]
          go_enter Tryz.func9, Tryz.ntmps9
          go_wp2
          go_ret
          exact ⟨rfl, ((Fresh.refl w).alloc _).alloc _⟩
        | true =>
          rw [HB.out]
          go_enter Tryz.func9, Tryz.ntmps9
          go_wp2
          go_ret
          exact ⟨rfl, ((Fresh.refl w).alloc _).alloc _⟩
    have e1 : (k == 1) = false := by simpa using h1
    by_cases h2 : k = 2
    · subst h2
      by_cases hn : n = n'
      · subst hn
        have HB : Hid (b = true) := by rw [Hid, hb]; simp
        rw [HB.out]
        clear hb h4 h5 e4 e5 h1 e1
        go_enter Tryz.func9, Tryz.ntmps9
        go_wp2
        go_ret
        exact ⟨rfl, ((Fresh.refl w).alloc _).alloc _⟩
      · have HB : Hid (b = false) := by rw [Hid, hb]; simp [hn]
        rw [HB.out]
        have en : (n == n') = false := by simpa using hn
        have en2 : (n != n') = true := by simp [hn]
        clear hb h4 h5 e4 e5 h1 e1 hn
        go_enter Tryz.func9, Tryz.ntmps9
        go_wp2
        go_ret
        exact ⟨rfl, ((Fresh.refl w).alloc _).alloc _⟩
    have e2 : (k == 2) = false := by simpa using h2
    by_cases h3 : k = 3
    · subst h3
      by_cases hn : s = s'
      · subst hn
        have HB : Hid (b = true) := by rw [Hid, hb]; simp
        rw [HB.out]
        clear hb h4 h5 e4 e5 h1 e1 h2 e2
        go_enter Tryz.func9, Tryz.ntmps9
        go_wp2
        go_ret
        exact ⟨rfl, ((Fresh.refl w).alloc _).alloc _⟩
      · have HB : Hid (b = false) := by rw [Hid, hb]; simp [hn]
        rw [HB.out]
        have en : (s.toList == s'.toList) = false := by rw [toList_beq, decide_eq_false hn]
        have en2 : (!(s.toList == s'.toList)) = true := by rw [en]; rfl
        have en3 : (s.toList != s'.toList) = true := by rw [bne, en]; rfl
        clear hb h4 h5 e4 e5 h1 e1 h2 e2 hn
        go_enter Tryz.func9, Tryz.ntmps9
        go_wp2
        go_ret
        exact ⟨rfl, ((Fresh.refl w).alloc _).alloc _⟩
    · have HB : Hid (b = true) := by rw [Hid, hb]; simp [h1, h2, h3]
      rw [HB.out]
      have e3 : (k == 3) = false := by simpa using h3
      clear hb h4 h5 h1 h2 h3
      go_enter Tryz.func9, Tryz.ntmps9
      go_wp2
      go_ret
      exact ⟨rfl, ((Fresh.refl w).alloc _).alloc _⟩
  · have HB : Hid (b = false) := by rw [Hid, hb]; simp [hk]
    rw [HB.out]
    have hkb : (k == k') = false := by simpa using hk
    have hkb2 : (k != k') = true := by simp [hk]
    clear hb hk h4 h5
    go_enter Tryz.func9, Tryz.ntmps9
    go_wp2
    go_ret
    exact ⟨rfl, ((Fresh.refl w).alloc _).alloc _⟩
theorem rsame_parted (k k' : Int) (f f' : Bool) (n n' : Int) (s s' : ByteArray) (la la' : Option Addr) (ln lc ln' lc' : Nat) (ka ka' : Option Addr) (kn kc kn' kc' : Nat) (w : World) (hk : k ≠ k') :
    Calls Tryz.prog 9 #[mval k f n s la ln lc ka kn kc, mval k' f' n' s' la' ln' lc' ka' kn' kc'] w fun e w' => e = .returned (.bool false) ∧ Fresh w w' := by
  have hkb : (k == k') = false := by simpa using hk
  have hkb2 : (k != k') = true := by simp [hk]
  clear hk
  go_enter Tryz.func9, Tryz.ntmps9
  go_wp2
  go_ret
  exact ⟨rfl, ((Fresh.refl w).alloc _).alloc _⟩
theorem sameL_drop (l m : List V) (k : Nat) (hl : k < l.length) (hm : k < m.length) : sameL (l.drop k) (m.drop k) = (l[k].same m[k] && sameL (l.drop (k + 1)) (m.drop (k + 1))) := by
  rw [List.drop_eq_getElem_cons hl, List.drop_eq_getElem_cons hm, sameL]
theorem sameL_parted : ∀ {l m : List V}, l.length ≠ m.length → sameL l m = false
  | [], [], h => absurd rfl h
  | _ :: l, _ :: m, h => by
    rw [sameL, sameL_parted (l := l) (m := m) (by simpa using h), Bool.and_false]
  | [], _ :: _, _ => rfl
  | _ :: _, [], _ => rfl
theorem rsame_list_len (f f' : Bool) (n n' : Int) (s s' : ByteArray) (la la' : Option Addr) (ln lc ln' lc' : Nat) (ka ka' : Option Addr) (kn kc kn' kc' : Nat) (w : World) (hne : ln ≠ ln') :
    Calls Tryz.prog 9 #[mval 4 f n s la ln lc ka kn kc, mval 4 f' n' s' la' ln' lc' ka' kn' kc'] w fun e w' => e = .returned (.bool false) ∧ Fresh w w' := by
  have hkb : ((ln : Int) == (ln' : Int)) = false := beq_eq_false_iff_ne.2 (by omega)
  have hkb2 : (ln == ln') = false := by simpa using hne
  clear hne
  go_enter Tryz.func9, Tryz.ntmps9
  go_wp2
  go_ret
  exact ⟨rfl, ((Fresh.refl w).alloc _).alloc _⟩
theorem rsame_keys_len (f f' : Bool) (n n' : Int) (s s' : ByteArray) (la la' : Option Addr) (ln lc ln' lc' : Nat) (ka ka' : Option Addr) (kn kc kn' kc' : Nat) (w : World) (hne : kn ≠ kn') :
    Calls Tryz.prog 9 #[mval 5 f n s la ln lc ka kn kc, mval 5 f' n' s' la' ln' lc' ka' kn' kc'] w fun e w' => e = .returned (.bool false) ∧ Fresh w w' := by
  have hkb : ((kn : Int) == (kn' : Int)) = false := beq_eq_false_iff_ne.2 (by omega)
  have hkb2 : (kn == kn') = false := by simpa using hne
  clear hne
  go_enter Tryz.func9, Tryz.ntmps9
  go_wp2
  go_ret
  exact ⟨rfl, ((Fresh.refl w).alloc _).alloc _⟩
end Go.Proofs.YthhdadfnkdjmkaaGreatDoor.v
