/-
  A pod made of another, by package upgrade: Three's and old's functions. (printed by genclos.py.txt)
-/
import Derived.Test.YtldncgelghcjeaaGreatDoorUpd02
import Derived.Test.YtldncgelghcjeaaGreatDoorCat03
import Derived.Deep.Cut
set_option linter.unusedSimpArgs false
set_option linter.unusedVariables false
namespace Go.Proofs.YtldncgelghcjeaaGreatDoor.K
open Go.ChangeShapes Go.WideShapes Go.ChangeAt Go.RowKit
set_option maxRecDepth 100000

theorem mixed3u : Tryz.prog.follows .mixedOrders = true := by kernel_rfl
/-- What stands while such a function runs: what came in, its result's box, what it took along. -/
structure UB (y b : Nat) (C : Array Value) (ty : TypeId) (Z : Array Value) (tz : TypeId) (fv : Value) (w0 W : World) : Prop where
  fr : Fresh w0 W
  bx : W.heap[y]? = some (.cells C ty)
  rz : W.heap[y + 1]? = some (.cells Z tz)
  cb : W.cell? ⟨b, 0, none⟩ = some fv
theorem UB.fresh {y b : Nat} {C : Array Value} {ty : TypeId} {Z : Array Value} {tz : TypeId} {fv : Value} {w0 W W' : World} (h : UB y b C ty Z tz fv w0 W) (f : Fresh W W') : UB y b C ty Z tz fv w0 W' := ⟨h.fr.trans f, f.at h.bx, f.at h.rz, f.cell h.cb⟩
def TI (n : Nat) (B : World → Prop) (Q : Option Addr → Nat → World → Prop) (v1 v2 : Option Addr → Nat → Value) (st : Option Addr → Nat → World → World) : List Value → World → Prop
  | [], W => B W
  | [y0], W => ∃ o cp, y0 = .slice o n cp ∧ Q o cp W ∧ B W
  | [y0, y1], W => ∃ o cp, y0 = .slice o n cp ∧ Q o cp W ∧ B W ∧ y1 = v1 o cp
  | [_, _, y2], W => ∃ o cp, Q o cp W ∧ B W ∧ y2 = v2 o cp
  | [_, _, _, _], W => ∃ o cp W2, Q o cp W2 ∧ B W2 ∧ W = st o cp W2
  | _, _ => False
def OI (n : Nat) (B : World → Prop) (Q : Option Addr → Nat → World → Prop) (v1 : Option Addr → Nat → Value) (st : Option Addr → Nat → World → World) : List Value → World → Prop
  | [], W => B W
  | [y0], W => ∃ o cp, y0 = .slice o n cp ∧ Q o cp W ∧ B W
  | [_, y1], W => ∃ o cp, Q o cp W ∧ B W ∧ y1 = v1 o cp
  | [_, _, _], W => ∃ o cp W2, Q o cp W2 ∧ B W2 ∧ W = st o cp W2
  | _, _ => False
section
variable {n : Nat} {B : World → Prop} {Q : Option Addr → Nat → World → Prop} {v1 v2 : Option Addr → Nat → Value} {st : Option Addr → Nat → World → World} {W : World}
theorem TI.b : ∀ {h : List Value}, TI n B Q v1 v2 st h W → h.length ≤ 3 → B W
  | [], h, _ => h
  | [_], h, _ => by obtain ⟨o, cp, _, _, hB⟩ := h; exact hB
  | [_, _], h, _ => by obtain ⟨o, cp, _, _, hB, _⟩ := h; exact hB
  | [_, _, _], h, _ => by obtain ⟨o, cp, _, hB, _⟩ := h; exact hB
  | _ :: _ :: _ :: _ :: _, _, hl => by simp at hl
theorem OI.b : ∀ {h : List Value}, OI n B Q v1 st h W → h.length ≤ 2 → B W
  | [], h, _ => h
  | [_], h, _ => by obtain ⟨o, cp, _, _, hB⟩ := h; exact hB
  | [_, _], h, _ => by obtain ⟨o, cp, _, hB, _⟩ := h; exact hB
  | _ :: _ :: _ :: _, _, hl => by simp at hl
end
abbrev set7 (w : World) (z : Nat) (u0 u1 u2 u3 u4 u5 u6 : Value) : World := ((((((w.setCell ⟨z, 0, none⟩ u0).setCell ⟨z, 1, none⟩ u1).setCell ⟨z, 2, none⟩ u2).setCell ⟨z, 3, none⟩ u3).setCell ⟨z, 4, none⟩ u4).setCell ⟨z, 5, none⟩ u5).setCell ⟨z, 6, none⟩ u6
abbrev set6 (w : World) (z : Nat) (u0 u1 u2 u3 u4 u5 : Value) : World := (((((w.setCell ⟨z, 0, none⟩ u0).setCell ⟨z, 1, none⟩ u1).setCell ⟨z, 2, none⟩ u2).setCell ⟨z, 3, none⟩ u3).setCell ⟨z, 4, none⟩ u4).setCell ⟨z, 5, none⟩ u5
theorem set7_put {w : World} {z t : Nat} {u0 u1 u2 u3 u4 u5 u6 c0 c1 c2 c3 c4 c5 c6 : Value} (h : w.heap[z]? = some (.cells #[c0, c1, c2, c3, c4, c5, c6] t)) : (set7 w z u0 u1 u2 u3 u4 u5 u6).heap[z]? = some (.cells #[u0, u1, u2, u3, u4, u5, u6] t) := by
  have h0 := at_set h 0 u0
  simp only [List.setIfInBounds_toArray, List.set_cons_zero, List.set_cons_succ] at h0
  have h1 := at_set h0 1 u1
  simp only [List.setIfInBounds_toArray, List.set_cons_zero, List.set_cons_succ] at h1
  have h2 := at_set h1 2 u2
  simp only [List.setIfInBounds_toArray, List.set_cons_zero, List.set_cons_succ] at h2
  have h3 := at_set h2 3 u3
  simp only [List.setIfInBounds_toArray, List.set_cons_zero, List.set_cons_succ] at h3
  have h4 := at_set h3 4 u4
  simp only [List.setIfInBounds_toArray, List.set_cons_zero, List.set_cons_succ] at h4
  have h5 := at_set h4 5 u5
  simp only [List.setIfInBounds_toArray, List.set_cons_zero, List.set_cons_succ] at h5
  have h6 := at_set h5 6 u6
  simp only [List.setIfInBounds_toArray, List.set_cons_zero, List.set_cons_succ] at h6
  exact h6
theorem set6_put {w : World} {z t : Nat} {u0 u1 u2 u3 u4 u5 c0 c1 c2 c3 c4 c5 : Value} (h : w.heap[z]? = some (.cells #[c0, c1, c2, c3, c4, c5] t)) : (set6 w z u0 u1 u2 u3 u4 u5).heap[z]? = some (.cells #[u0, u1, u2, u3, u4, u5] t) := by
  have h0 := at_set h 0 u0
  simp only [List.setIfInBounds_toArray, List.set_cons_zero, List.set_cons_succ] at h0
  have h1 := at_set h0 1 u1
  simp only [List.setIfInBounds_toArray, List.set_cons_zero, List.set_cons_succ] at h1
  have h2 := at_set h1 2 u2
  simp only [List.setIfInBounds_toArray, List.set_cons_zero, List.set_cons_succ] at h2
  have h3 := at_set h2 3 u3
  simp only [List.setIfInBounds_toArray, List.set_cons_zero, List.set_cons_succ] at h3
  have h4 := at_set h3 4 u4
  simp only [List.setIfInBounds_toArray, List.set_cons_zero, List.set_cons_succ] at h4
  have h5 := at_set h4 5 u5
  simp only [List.setIfInBounds_toArray, List.set_cons_zero, List.set_cons_succ] at h5
  exact h5
theorem set7_fr {w0 w : World} {z : Nat} {u0 u1 u2 u3 u4 u5 u6 : Value} (h : Fresh w0 w) (hz : w0.heap.size ≤ z) : Fresh w0 (set7 w z u0 u1 u2 u3 u4 u5 u6) :=
  ((((((h.setCell (p := ⟨z, 0, none⟩) hz u0).setCell (p := ⟨z, 1, none⟩) hz u1).setCell (p := ⟨z, 2, none⟩) hz u2).setCell (p := ⟨z, 3, none⟩) hz u3).setCell (p := ⟨z, 4, none⟩) hz u4).setCell (p := ⟨z, 5, none⟩) hz u5).setCell (p := ⟨z, 6, none⟩) hz u6
theorem set6_fr {w0 w : World} {z : Nat} {u0 u1 u2 u3 u4 u5 : Value} (h : Fresh w0 w) (hz : w0.heap.size ≤ z) : Fresh w0 (set6 w z u0 u1 u2 u3 u4 u5) :=
  (((((h.setCell (p := ⟨z, 0, none⟩) hz u0).setCell (p := ⟨z, 1, none⟩) hz u1).setCell (p := ⟨z, 2, none⟩) hz u2).setCell (p := ⟨z, 3, none⟩) hz u3).setCell (p := ⟨z, 4, none⟩) hz u4).setCell (p := ⟨z, 5, none⟩) hz u5
theorem set7_own {w : World} {z B e k n : Nat} {v : Value} {xs : List Value} {u0 u1 u2 u3 u4 u5 u6 : Value} (h : w.ownsRow B e k v n xs) (hz : z < B) : (set7 w z u0 u1 u2 u3 u4 u5 u6).ownsRow B e k v n xs :=
  own_set (p := ⟨z, 6, none⟩) (own_set (p := ⟨z, 5, none⟩) (own_set (p := ⟨z, 4, none⟩) (own_set (p := ⟨z, 3, none⟩) (own_set (p := ⟨z, 2, none⟩) (own_set (p := ⟨z, 1, none⟩) (own_set (p := ⟨z, 0, none⟩) h hz _) hz _) hz _) hz _) hz _) hz _) hz _
theorem set6_own {w : World} {z B e k n : Nat} {v : Value} {xs : List Value} {u0 u1 u2 u3 u4 u5 : Value} (h : w.ownsRow B e k v n xs) (hz : z < B) : (set6 w z u0 u1 u2 u3 u4 u5).ownsRow B e k v n xs :=
  own_set (p := ⟨z, 5, none⟩) (own_set (p := ⟨z, 4, none⟩) (own_set (p := ⟨z, 3, none⟩) (own_set (p := ⟨z, 2, none⟩) (own_set (p := ⟨z, 1, none⟩) (own_set (p := ⟨z, 0, none⟩) h hz _) hz _) hz _) hz _) hz _) hz _
set_option maxHeartbeats 8000000 in
theorem three2_any (m : M2) (b : Nat) (w : World) (h : m.In w) (hl : m.p.cs.length ≤ 4000000) (hn : m.p.Num) (hb : w.cell? ⟨b, 0, none⟩ = some (.func (.func 73) #[] #[])) :
    Calls Tryz.prog 75 #[m.val, .pointer (some ⟨b, 0, none⟩)] w fun e w' => ∃ x : M3, e = .returned x.fl ∧ x.p = up2 m.p ∧ x.OwnC w.heap.size w' ∧ Fresh w w' := by
  obtain ⟨⟨f, n, s, r, g, cs⟩, ad, c⟩ := m
  obtain ⟨hn0, hn1, hn2, hn3⟩ := hn
  dsimp only at hn0 hn1 hn2 hn3
  have hw1 : IntKind.i64.wrap r = r := by simp [IntKind.wrap, IntKind.signed, IntKind.bits]; omega
  have hw2 : IntKind.i64.wrap g = g := by simp [IntKind.wrap, IntKind.signed, IntKind.bits]; omega
  dsimp only [M2.val] at *
  have HX := Lib.hid (two_boxes w (.cells #[.string f, .string n, .string s, .int .u8 r, .int .u16 g, .slice ad cs.length c] 158) (.cells #[.string ⟨#[]⟩, .string ⟨#[]⟩, .string ⟨#[]⟩, .int .i64 0, .int .i64 0, .bool false, .slice none 0 0] 93))
  have HE : Hid (∀ W, Fresh w W → Calls Tryz.prog 76 #[.slice ad cs.length c, .func (.func 73) #[] #[]] W fun e w' => ∃ o cp, e = .returned (.slice o cs.length cp) ∧ w'.ownsRow W.heap.size 126 7 (.slice o cs.length cp) cs.length (ccells (cs.map cmOf)) ∧ Fresh W w') := fun W fr => eachC_any ad cs c W (h.1.move fr) hl
  have hbl : b < w.heap.size := World.block_lt_of_cell? w _ hb
  have HB0 := Lib.hid hb
  clear h hb
  go_enter Tryz.func75, Tryz.ntmps75
  go_upto_region 1 with (fail)
  generalize (w.alloc (.cells #[.string f, .string n, .string s, .int .u8 r, .int .u16 g, .slice ad cs.length c] 158)).alloc (.cells #[.string ⟨#[]⟩, .string ⟨#[]⟩, .string ⟨#[]⟩, .int .i64 0, .int .i64 0, .bool false, .slice none 0 0] 93) = W0 at *
  obtain ⟨hx1, hx2, hx3, hx4⟩ := HX.out
  obtain ⟨y, hy⟩ : ∃ y, y = w.heap.size := ⟨_, rfl⟩
  have HYW := Lib.hid hy
  have HB : Hid (UB y b #[.string f, .string n, .string s, .int .u8 r, .int .u16 g, .slice ad cs.length c] 158 #[.string ⟨#[]⟩, .string ⟨#[]⟩, .string ⟨#[]⟩, .int .i64 0, .int .i64 0, .bool false, .slice none 0 0] 93 (.func (.func 73) #[] #[]) w W0.drew) := by
    rw [← hy] at hx1 hx2
    exact (UB.mk hx3 hx1 hx2 (hx3.cell HB0.out)).fresh ((Fresh.refl W0).drew)
  have HS0 : Hid (y + 2 ≤ W0.drew.heap.size) := by
    rw [hy]; exact Nat.le_trans (Nat.le_of_eq hx4.symm) ((Fresh.refl W0).drew).size
  rw [← hy] at hbl ⊢
  clear hy hx1 hx2 hx3 hx4 HX HB0
  rename_i KK hKK
  refine chain_region [15, 16, 17, 18] [some (Value.pointer (some ⟨y, 0, none⟩)), some (Value.string f), some (Value.pointer (some ⟨y, 1, none⟩)), some (Value.string n), some (Value.pointer (some ⟨y, 2, none⟩)), some (Value.string s), some (Value.pointer (some ⟨y, 3, none⟩)), some (Value.int .u8 r), some (Value.int .i64 r), some (Value.pointer (some ⟨y, 4, none⟩)), some (Value.int .u16 g), some (Value.int .i64 g), some (Value.pointer (some ⟨y, 5, none⟩)), some (Value.slice ad cs.length c), some (Value.func (.func 73) #[] #[]), none, none, none, none] (TI cs.length (fun W => UB y b #[.string f, .string n, .string s, .int .u8 r, .int .u16 g, .slice ad cs.length c] 158 #[.string ⟨#[]⟩, .string ⟨#[]⟩, .string ⟨#[]⟩, .int .i64 0, .int .i64 0, .bool false, .slice none 0 0] 93 (.func (.func 73) #[] #[]) w W ∧ y + 2 ≤ W.heap.size) (fun o cp W => W.ownsRow (y + 2) 126 7 (.slice o cs.length cp) cs.length (ccells (cs.map cmOf))) (fun o cp => .agg #[.string n, .string s, .int .i64 r, .int .i64 g, .bool false, .slice o cs.length cp]) (fun o cp => .agg #[.string f, .string n, .string s, .int .i64 r, .int .i64 g, .bool false, .slice o cs.length cp]) (fun o cp W => set7 W (y + 1) (.string f) (.string n) (.string s) (.int .i64 r) (.int .i64 g) (.bool false) (.slice o cs.length cp))) mixed3u (n := 22) rfl (by decide +kernel) (ms := [true, true, true, true, true, true, true, true, true, true, true, true, true, true, true, false, false, false, false]) rfl (by decide +kernel) (⟨HB.out, HS0.out⟩) ⟨?_, ?_, ?_, ?_, ?_, ?_, ?_, ?_, ?_, ?_, ?_, ?_, ?_, ?_, ?_, ?_, ?_, ?_, ?_, trivial⟩ ?_
  · intro h a W hI hlo hhi hpos hvw hvr hst
    have g2 := ev_get (show a.eval (.tmp 2) = Value.pointer (some ⟨y, 0, none⟩) from hst 2 (by decide +kernel))
    show (execOp a.eval _).run _ W = .ok (.value (Value.pointer (some ⟨y, 0, none⟩))) W
    simp [execOp, g2, go_sem]
  · intro h a W hI hlo hhi hpos hvw hvr hst
    have g4 := ev_get (show a.eval (.tmp 4) = Value.pointer (some ⟨y, 0, none⟩) from hvr 0 4 _ (by decide +kernel) rfl rfl)
    have q := (TI.b hI (Nat.le_trans (hhi 2 17 rfl (by decide +kernel)) (by decide))).1
    have cq0 : World.cell? _ ⟨y, 0, none⟩ = some (.string f) := cell_of_at q.bx rfl
    show (execOp a.eval _).run _ W = .ok (.value (Value.string f)) W
    simp [execOp, g4, go_sem, cq0]
  · intro h a W hI hlo hhi hpos hvw hvr hst
    have g2 := ev_get (show a.eval (.tmp 2) = Value.pointer (some ⟨y, 0, none⟩) from hst 2 (by decide +kernel))
    show (execOp a.eval _).run _ W = .ok (.value (Value.pointer (some ⟨y, 1, none⟩))) W
    simp [execOp, g2, go_sem]
  · intro h a W hI hlo hhi hpos hvw hvr hst
    have g6 := ev_get (show a.eval (.tmp 6) = Value.pointer (some ⟨y, 1, none⟩) from hvr 2 6 _ (by decide +kernel) rfl rfl)
    have q := (TI.b hI (Nat.le_trans (hhi 1 16 rfl (by decide +kernel)) (by decide))).1
    have cq0 : World.cell? _ ⟨y, 1, none⟩ = some (.string n) := cell_of_at q.bx rfl
    show (execOp a.eval _).run _ W = .ok (.value (Value.string n)) W
    simp [execOp, g6, go_sem, cq0]
  · intro h a W hI hlo hhi hpos hvw hvr hst
    have g2 := ev_get (show a.eval (.tmp 2) = Value.pointer (some ⟨y, 0, none⟩) from hst 2 (by decide +kernel))
    show (execOp a.eval _).run _ W = .ok (.value (Value.pointer (some ⟨y, 2, none⟩))) W
    simp [execOp, g2, go_sem]
  · intro h a W hI hlo hhi hpos hvw hvr hst
    have g8 := ev_get (show a.eval (.tmp 8) = Value.pointer (some ⟨y, 2, none⟩) from hvr 4 8 _ (by decide +kernel) rfl rfl)
    have q := (TI.b hI (Nat.le_trans (hhi 1 16 rfl (by decide +kernel)) (by decide))).1
    have cq0 : World.cell? _ ⟨y, 2, none⟩ = some (.string s) := cell_of_at q.bx rfl
    show (execOp a.eval _).run _ W = .ok (.value (Value.string s)) W
    simp [execOp, g8, go_sem, cq0]
  · intro h a W hI hlo hhi hpos hvw hvr hst
    have g2 := ev_get (show a.eval (.tmp 2) = Value.pointer (some ⟨y, 0, none⟩) from hst 2 (by decide +kernel))
    show (execOp a.eval _).run _ W = .ok (.value (Value.pointer (some ⟨y, 3, none⟩))) W
    simp [execOp, g2, go_sem]
  · intro h a W hI hlo hhi hpos hvw hvr hst
    have g10 := ev_get (show a.eval (.tmp 10) = Value.pointer (some ⟨y, 3, none⟩) from hvr 6 10 _ (by decide +kernel) rfl rfl)
    have q := (TI.b hI (Nat.le_trans (hhi 1 16 rfl (by decide +kernel)) (by decide))).1
    have cq0 : World.cell? _ ⟨y, 3, none⟩ = some (.int .u8 r) := cell_of_at q.bx rfl
    show (execOp a.eval _).run _ W = .ok (.value (Value.int .u8 r)) W
    simp [execOp, g10, go_sem, cq0]
  · intro h a W hI hlo hhi hpos hvw hvr hst
    have g11 := ev_get (show a.eval (.tmp 11) = Value.int .u8 r from hvr 7 11 _ (by decide +kernel) rfl rfl)
    show (execOp a.eval _).run _ W = .ok (.value (Value.int .i64 r)) W
    simp [execOp, g11, go_sem, hw1]
  · intro h a W hI hlo hhi hpos hvw hvr hst
    have g2 := ev_get (show a.eval (.tmp 2) = Value.pointer (some ⟨y, 0, none⟩) from hst 2 (by decide +kernel))
    show (execOp a.eval _).run _ W = .ok (.value (Value.pointer (some ⟨y, 4, none⟩))) W
    simp [execOp, g2, go_sem]
  · intro h a W hI hlo hhi hpos hvw hvr hst
    have g13 := ev_get (show a.eval (.tmp 13) = Value.pointer (some ⟨y, 4, none⟩) from hvr 9 13 _ (by decide +kernel) rfl rfl)
    have q := (TI.b hI (Nat.le_trans (hhi 1 16 rfl (by decide +kernel)) (by decide))).1
    have cq0 : World.cell? _ ⟨y, 4, none⟩ = some (.int .u16 g) := cell_of_at q.bx rfl
    show (execOp a.eval _).run _ W = .ok (.value (Value.int .u16 g)) W
    simp [execOp, g13, go_sem, cq0]
  · intro h a W hI hlo hhi hpos hvw hvr hst
    have g14 := ev_get (show a.eval (.tmp 14) = Value.int .u16 g from hvr 10 14 _ (by decide +kernel) rfl rfl)
    show (execOp a.eval _).run _ W = .ok (.value (Value.int .i64 g)) W
    simp [execOp, g14, go_sem, hw2]
  · intro h a W hI hlo hhi hpos hvw hvr hst
    have g2 := ev_get (show a.eval (.tmp 2) = Value.pointer (some ⟨y, 0, none⟩) from hst 2 (by decide +kernel))
    show (execOp a.eval _).run _ W = .ok (.value (Value.pointer (some ⟨y, 5, none⟩))) W
    simp [execOp, g2, go_sem]
  · intro h a W hI hlo hhi hpos hvw hvr hst
    have g16 := ev_get (show a.eval (.tmp 16) = Value.pointer (some ⟨y, 5, none⟩) from hvr 12 16 _ (by decide +kernel) rfl rfl)
    have q := (TI.b hI (Nat.le_trans (hhi 0 15 rfl (by decide +kernel)) (by decide))).1
    have cq0 : World.cell? _ ⟨y, 5, none⟩ = some (.slice ad cs.length c) := cell_of_at q.bx rfl
    show (execOp a.eval _).run _ W = .ok (.value (Value.slice ad cs.length c)) W
    simp [execOp, g16, go_sem, cq0]
  · intro h a W hI hlo hhi hpos hvw hvr hst
    have g1 := ev_get (show a.eval (.tmp 1) = Value.pointer (some ⟨b, 0, none⟩) from hst 1 (by decide +kernel))
    have q := (TI.b hI (Nat.le_trans (hhi 0 15 rfl (by decide +kernel)) (by decide))).1
    have cq0 := q.cb
    show (execOp a.eval _).run _ W = .ok (.value (Value.func (.func 73) #[] #[])) W
    simp [execOp, g1, go_sem, cq0]
  · intro h a W hI hlo hhi hpos hvw hvr hst
    obtain rfl := lst0 (hpos 0 rfl)
    have g17 := ev_get (show a.eval (.tmp 17) = Value.slice ad cs.length c from hvr 13 17 _ (by decide +kernel) rfl rfl)
    have g18 := ev_get (show a.eval (.tmp 18) = Value.func (.func 73) #[] #[] from hvr 14 18 _ (by decide +kernel) rfl rfl)
    have hB : UB y b #[.string f, .string n, .string s, .int .u8 r, .int .u16 g, .slice ad cs.length c] 158 #[.string ⟨#[]⟩, .string ⟨#[]⟩, .string ⟨#[]⟩, .int .i64 0, .int .i64 0, .bool false, .slice none 0 0] 93 (.func (.func 73) #[] #[]) w W ∧ y + 2 ≤ W.heap.size := hI
    refine .inr (.inr ⟨76, #[.slice ad cs.length c, .func (.func 73) #[] #[]], by simp [execOp, g17, g18, go_sem], (HE.out W hB.1.fr).mono ?_⟩)
    rintro e V ⟨o, cp, rfl, ho, hf⟩
    exact ⟨_, rfl, o, cp, rfl, World.ownsRow.mono ho hB.2, hB.1.fresh hf, Nat.le_trans hB.2 hf.size⟩
  · intro h a W hI hlo hhi hpos hvw hvr hst
    obtain ⟨y0, rfl⟩ := lst1 (hpos 1 rfl)
    have g7 := ev_get (show a.eval (.tmp 7) = Value.string n from hvr 3 7 _ (by decide +kernel) rfl rfl)
    have g9 := ev_get (show a.eval (.tmp 9) = Value.string s from hvr 5 9 _ (by decide +kernel) rfl rfl)
    have g12 := ev_get (show a.eval (.tmp 12) = Value.int .i64 r from hvr 8 12 _ (by decide +kernel) rfl rfl)
    have g15 := ev_get (show a.eval (.tmp 15) = Value.int .i64 g from hvr 11 15 _ (by decide +kernel) rfl rfl)
    have g19 := ev_get (hvw 0 15 19 y0 rfl rfl rfl)
    obtain ⟨o, cp, rfl, ho, hB⟩ : ∃ o cp, y0 = .slice o cs.length cp ∧ W.ownsRow (y + 2) 126 7 (.slice o cs.length cp) cs.length (ccells (cs.map cmOf)) ∧ UB y b #[.string f, .string n, .string s, .int .u8 r, .int .u16 g, .slice ad cs.length c] 158 #[.string ⟨#[]⟩, .string ⟨#[]⟩, .string ⟨#[]⟩, .int .i64 0, .int .i64 0, .bool false, .slice none 0 0] 93 (.func (.func 73) #[] #[]) w W ∧ y + 2 ≤ W.heap.size := hI
    exact .inl ⟨.agg #[.string n, .string s, .int .i64 r, .int .i64 g, .bool false, .slice o cs.length cp], W, by simp [execOp, g7, g9, g12, g15, g19, go_sem], o, cp, rfl, ho, hB, rfl⟩
  · intro h a W hI hlo hhi hpos hvw hvr hst
    obtain ⟨y0, y1, rfl⟩ := lst2 (hpos 2 rfl)
    have g5 := ev_get (show a.eval (.tmp 5) = Value.string f from hvr 1 5 _ (by decide +kernel) rfl rfl)
    have g20 := ev_get (hvw 1 16 20 y1 rfl rfl rfl)
    obtain ⟨o, cp, rfl, ho, hB, rfl⟩ : ∃ o cp, y0 = .slice o cs.length cp ∧ W.ownsRow (y + 2) 126 7 (.slice o cs.length cp) cs.length (ccells (cs.map cmOf)) ∧ (UB y b #[.string f, .string n, .string s, .int .u8 r, .int .u16 g, .slice ad cs.length c] 158 #[.string ⟨#[]⟩, .string ⟨#[]⟩, .string ⟨#[]⟩, .int .i64 0, .int .i64 0, .bool false, .slice none 0 0] 93 (.func (.func 73) #[] #[]) w W ∧ y + 2 ≤ W.heap.size) ∧ y1 = .agg #[.string n, .string s, .int .i64 r, .int .i64 g, .bool false, .slice o cs.length cp] := hI
    exact .inl ⟨.agg #[.string f, .string n, .string s, .int .i64 r, .int .i64 g, .bool false, .slice o cs.length cp], W, by simp [execOp, g5, g20, go_sem], o, cp, ho, hB, rfl⟩
  · intro h a W hI hlo hhi hpos hvw hvr hst
    obtain ⟨y0, y1, y2, rfl⟩ := lst3 (hpos 3 rfl)
    have g3 := ev_get (show a.eval (.tmp 3) = Value.pointer (some ⟨y + 1, 0, none⟩) from hst 3 (by decide +kernel))
    have g21 := ev_get (hvw 2 17 21 y2 rfl rfl rfl)
    obtain ⟨o, cp, ho, hB, rfl⟩ : ∃ o cp, W.ownsRow (y + 2) 126 7 (.slice o cs.length cp) cs.length (ccells (cs.map cmOf)) ∧ (UB y b #[.string f, .string n, .string s, .int .u8 r, .int .u16 g, .slice ad cs.length c] 158 #[.string ⟨#[]⟩, .string ⟨#[]⟩, .string ⟨#[]⟩, .int .i64 0, .int .i64 0, .bool false, .slice none 0 0] 93 (.func (.func 73) #[] #[]) w W ∧ y + 2 ≤ W.heap.size) ∧ y2 = .agg #[.string f, .string n, .string s, .int .i64 r, .int .i64 g, .bool false, .slice o cs.length cp] := hI
    have z0 := cell_of_at hB.1.rz (i := 0) rfl
    have f0 := frozen_of_at hB.1.rz 0
    have z1 := cell_of_at hB.1.rz (i := 1) rfl
    have f1 := frozen_of_at hB.1.rz 1
    have z2 := cell_of_at hB.1.rz (i := 2) rfl
    have f2 := frozen_of_at hB.1.rz 2
    have z3 := cell_of_at hB.1.rz (i := 3) rfl
    have f3 := frozen_of_at hB.1.rz 3
    have z4 := cell_of_at hB.1.rz (i := 4) rfl
    have f4 := frozen_of_at hB.1.rz 4
    have z5 := cell_of_at hB.1.rz (i := 5) rfl
    have f5 := frozen_of_at hB.1.rz 5
    have z6 := cell_of_at hB.1.rz (i := 6) rfl
    have f6 := frozen_of_at hB.1.rz 6
    exact .inr (.inl ⟨_, rfl, by simp [execOp, g3, g21, go_sem, z0, f0, z1, f1, z2, f2, z3, f3, z4, f4, z5, f5, z6, f6], o, cp, W, ho, hB, rfl⟩)
  intro h a W hh hl
  obtain ⟨y0, y1, y2, y3, rfl⟩ := lst4 hl
  obtain ⟨o, cp, W2, ho, hB, rfl⟩ : ∃ (o : Option Addr) (cp : Nat) (W2 : World), W2.ownsRow (y + 2) 126 7 (.slice o cs.length cp) cs.length (ccells (cs.map cmOf)) ∧ (UB y b #[.string f, .string n, .string s, .int .u8 r, .int .u16 g, .slice ad cs.length c] 158 #[.string ⟨#[]⟩, .string ⟨#[]⟩, .string ⟨#[]⟩, .int .i64 0, .int .i64 0, .bool false, .slice none 0 0] 93 (.func (.func 73) #[] #[]) w W2 ∧ y + 2 ≤ W2.heap.size) ∧ W = set7 W2 (y + 1) (.string f) (.string n) (.string s) (.int .i64 r) (.int .i64 g) (.bool false) (.slice o cs.length cp) := hh.inv
  have ha := act_lit (n := 22) (by rw [hh.size]; rfl) hh.defers
  have k3 : a.eval (.tmp 3) = Value.pointer (some ⟨y + 1, 0, none⟩) := hh.keep 3 (by decide +kernel)
  simp only [List.range, List.range.loop, List.map_cons, List.map_nil, k3] at ha
  clear k3
  generalize a.eval (.tmp 0) = v0 at ha
  generalize a.eval (.tmp 1) = v1 at ha
  generalize a.eval (.tmp 2) = v2 at ha
  generalize a.eval (.tmp 4) = v4 at ha
  generalize a.eval (.tmp 5) = v5 at ha
  generalize a.eval (.tmp 6) = v6 at ha
  generalize a.eval (.tmp 7) = v7 at ha
  generalize a.eval (.tmp 8) = v8 at ha
  generalize a.eval (.tmp 9) = v9 at ha
  generalize a.eval (.tmp 10) = v10 at ha
  generalize a.eval (.tmp 11) = v11 at ha
  generalize a.eval (.tmp 12) = v12 at ha
  generalize a.eval (.tmp 13) = v13 at ha
  generalize a.eval (.tmp 14) = v14 at ha
  generalize a.eval (.tmp 15) = v15 at ha
  generalize a.eval (.tmp 16) = v16 at ha
  generalize a.eval (.tmp 17) = v17 at ha
  generalize a.eval (.tmp 18) = v18 at ha
  generalize a.eval (.tmp 19) = v19 at ha
  generalize a.eval (.tmp 20) = v20 at ha
  generalize a.eval (.tmp 21) = v21 at ha
  clear hh
  subst ha
  refine hKK _ _ ?_
  have hp := set7_put (u0 := .string f) (u1 := .string n) (u2 := .string s) (u3 := .int .i64 r) (u4 := .int .i64 g) (u5 := .bool false) (u6 := .slice o cs.length cp) hB.1.rz
  have r0 := cell_of_at hp (i := 0) rfl
  have r1 := cell_of_at hp (i := 1) rfl
  have r2 := cell_of_at hp (i := 2) rfl
  have r3 := cell_of_at hp (i := 3) rfl
  have r4 := cell_of_at hp (i := 4) rfl
  have r5 := cell_of_at hp (i := 5) rfl
  have r6 := cell_of_at hp (i := 6) rfl
  clear hp
  go_wp2
  refine bodyPost_ret (v := .agg #[.string f, .string n, .string s, .int .i64 r, .int .i64 g, .bool false, .slice o cs.length cp]) (by simp [results, Tryz.results75, go_sem, *]) rfl ⟨⟨f, ⟨n, s, r, g, false, o, cp, cs.map cmOf⟩⟩, ?_, ?_, ⟨?_, ?_⟩, ?_⟩
  · simp [M3.fl]
  · simp [M3.p, PM.pd, up2, Function.comp_def, cmOf]
  · have := set7_own (z := y + 1) (u0 := .string f) (u1 := .string n) (u2 := .string s) (u3 := .int .i64 r) (u4 := .int .i64 g) (u5 := .bool false) (u6 := .slice o cs.length cp) ho (by omega)
    rw [List.length_map]
    exact World.ownsRow.mono this (by have := HYW.out; omega)
  · intro m hm
    obtain ⟨c, _, rfl⟩ := List.mem_map.1 hm
    exact ⟨c, rfl⟩
  · exact set7_fr hB.1.fr (by have := HYW.out; omega)
set_option maxHeartbeats 8000000 in
theorem old2_any (m : M3) (b : Nat) (w : World) (h : m.m.At w) (hl : m.m.cs.length ≤ 4000000) (hb : w.cell? ⟨b, 0, none⟩ = some (.func (.func 106) #[] #[])) :
    Calls Tryz.prog 108 #[m.fl, .pointer (some ⟨b, 0, none⟩)] w fun e w' => ∃ x : M2, e = .returned x.val ∧ x.p = dn m.p ∧ x.OwnC w.heap.size w' ∧ Fresh w w' := by
  obtain ⟨f, ⟨n, s, r, g, ho, ad, c, cs⟩⟩ := m
  have hw1 : IntKind.u8.wrap r = r % 256 := by simp [IntKind.wrap, IntKind.signed, IntKind.bits]
  have hw2 : IntKind.u16.wrap g = g % 65536 := by simp [IntKind.wrap, IntKind.signed, IntKind.bits]
  dsimp only [M3.fl] at *
  have HX := Lib.hid (two_boxes w (.cells #[.string f, .string n, .string s, .int .i64 r, .int .i64 g, .bool ho, .slice ad cs.length c] 93) (.cells #[.string ⟨#[]⟩, .string ⟨#[]⟩, .string ⟨#[]⟩, .int .u8 0, .int .u16 0, .slice none 0 0] 158))
  have HE : Hid (∀ W, Fresh w W → Calls Tryz.prog 109 #[.slice ad cs.length c, .func (.func 106) #[] #[]] W fun e w' => ∃ o cp, e = .returned (.slice o cs.length cp) ∧ w'.ownsRow W.heap.size 160 2 (.slice o cs.length cp) cs.length (c2s (cs.map dnM)) ∧ Fresh W w') := fun W fr => eachD_any ad cs c W (h.row.move fr) hl
  have hbl : b < w.heap.size := World.block_lt_of_cell? w _ hb
  have HB0 := Lib.hid hb
  clear h hb
  go_enter Tryz.func108, Tryz.ntmps108
  go_upto_region 1 with (fail)
  generalize (w.alloc (.cells #[.string f, .string n, .string s, .int .i64 r, .int .i64 g, .bool ho, .slice ad cs.length c] 93)).alloc (.cells #[.string ⟨#[]⟩, .string ⟨#[]⟩, .string ⟨#[]⟩, .int .u8 0, .int .u16 0, .slice none 0 0] 158) = W0 at *
  obtain ⟨hx1, hx2, hx3, hx4⟩ := HX.out
  obtain ⟨y, hy⟩ : ∃ y, y = w.heap.size := ⟨_, rfl⟩
  have HYW := Lib.hid hy
  have HB : Hid (UB y b #[.string f, .string n, .string s, .int .i64 r, .int .i64 g, .bool ho, .slice ad cs.length c] 93 #[.string ⟨#[]⟩, .string ⟨#[]⟩, .string ⟨#[]⟩, .int .u8 0, .int .u16 0, .slice none 0 0] 158 (.func (.func 106) #[] #[]) w W0.drew) := by
    rw [← hy] at hx1 hx2
    exact (UB.mk hx3 hx1 hx2 (hx3.cell HB0.out)).fresh ((Fresh.refl W0).drew)
  have HS0 : Hid (y + 2 ≤ W0.drew.heap.size) := by
    rw [hy]; exact Nat.le_trans (Nat.le_of_eq hx4.symm) ((Fresh.refl W0).drew).size
  rw [← hy] at hbl ⊢
  clear hy hx1 hx2 hx3 hx4 HX HB0
  rename_i KK hKK
  refine chain_region [20, 21, 22] [some (Value.pointer (some ⟨y, 0, none⟩)), some (Value.string f), some (Value.pointer (some ⟨y, 1, none⟩)), some (Value.pointer (some ⟨y, 1, none⟩)), some (Value.string n), some (Value.pointer (some ⟨y, 1, none⟩)), some (Value.pointer (some ⟨y, 2, none⟩)), some (Value.string s), some (Value.pointer (some ⟨y, 1, none⟩)), some (Value.pointer (some ⟨y, 3, none⟩)), some (Value.int .i64 r), some (Value.int .u8 (r % 256)), some (Value.pointer (some ⟨y, 1, none⟩)), some (Value.pointer (some ⟨y, 4, none⟩)), some (Value.int .i64 g), some (Value.int .u16 (g % 65536)), some (Value.pointer (some ⟨y, 1, none⟩)), some (Value.pointer (some ⟨y, 6, none⟩)), some (Value.slice ad cs.length c), some (Value.func (.func 106) #[] #[]), none, none, none] (OI cs.length (fun W => UB y b #[.string f, .string n, .string s, .int .i64 r, .int .i64 g, .bool ho, .slice ad cs.length c] 93 #[.string ⟨#[]⟩, .string ⟨#[]⟩, .string ⟨#[]⟩, .int .u8 0, .int .u16 0, .slice none 0 0] 158 (.func (.func 106) #[] #[]) w W ∧ y + 2 ≤ W.heap.size) (fun o cp W => W.ownsRow (y + 2) 160 2 (.slice o cs.length cp) cs.length (c2s (cs.map dnM))) (fun o cp => .agg #[.string f, .string n, .string s, .int .u8 (r % 256), .int .u16 (g % 65536), .slice o cs.length cp]) (fun o cp W => set6 W (y + 1) (.string f) (.string n) (.string s) (.int .u8 (r % 256)) (.int .u16 (g % 65536)) (.slice o cs.length cp))) mixed3u (n := 26) rfl (by decide +kernel) (ms := [true, true, true, true, true, true, true, true, true, true, true, true, true, true, true, true, true, true, true, true, false, false, false]) rfl (by decide +kernel) (⟨HB.out, HS0.out⟩) ⟨?_, ?_, ?_, ?_, ?_, ?_, ?_, ?_, ?_, ?_, ?_, ?_, ?_, ?_, ?_, ?_, ?_, ?_, ?_, ?_, ?_, ?_, ?_, trivial⟩ ?_
  · intro h a W hI hlo hhi hpos hvw hvr hst
    have g2 := ev_get (show a.eval (.tmp 2) = Value.pointer (some ⟨y, 0, none⟩) from hst 2 (by decide +kernel))
    show (execOp a.eval _).run _ W = .ok (.value (Value.pointer (some ⟨y, 0, none⟩))) W
    simp [execOp, g2, go_sem]
  · intro h a W hI hlo hhi hpos hvw hvr hst
    have g4 := ev_get (show a.eval (.tmp 4) = Value.pointer (some ⟨y, 0, none⟩) from hvr 0 4 _ (by decide +kernel) rfl rfl)
    have q := (OI.b hI (Nat.le_trans (hhi 1 21 rfl (by decide +kernel)) (by decide))).1
    have cq0 : World.cell? _ ⟨y, 0, none⟩ = some (.string f) := cell_of_at q.bx rfl
    show (execOp a.eval _).run _ W = .ok (.value (Value.string f)) W
    simp [execOp, g4, go_sem, cq0]
  · intro h a W hI hlo hhi hpos hvw hvr hst
    have g2 := ev_get (show a.eval (.tmp 2) = Value.pointer (some ⟨y, 0, none⟩) from hst 2 (by decide +kernel))
    show (execOp a.eval _).run _ W = .ok (.value (Value.pointer (some ⟨y, 1, none⟩))) W
    simp [execOp, g2, go_sem]
  · intro h a W hI hlo hhi hpos hvw hvr hst
    have g6 := ev_get (show a.eval (.tmp 6) = Value.pointer (some ⟨y, 1, none⟩) from hvr 2 6 _ (by decide +kernel) rfl rfl)
    show (execOp a.eval _).run _ W = .ok (.value (Value.pointer (some ⟨y, 1, none⟩))) W
    simp [execOp, g6, go_sem]
  · intro h a W hI hlo hhi hpos hvw hvr hst
    have g7 := ev_get (show a.eval (.tmp 7) = Value.pointer (some ⟨y, 1, none⟩) from hvr 3 7 _ (by decide +kernel) rfl rfl)
    have q := (OI.b hI (Nat.le_trans (hhi 1 21 rfl (by decide +kernel)) (by decide))).1
    have cq0 : World.cell? _ ⟨y, 1, none⟩ = some (.string n) := cell_of_at q.bx rfl
    show (execOp a.eval _).run _ W = .ok (.value (Value.string n)) W
    simp [execOp, g7, go_sem, cq0]
  · intro h a W hI hlo hhi hpos hvw hvr hst
    have g2 := ev_get (show a.eval (.tmp 2) = Value.pointer (some ⟨y, 0, none⟩) from hst 2 (by decide +kernel))
    show (execOp a.eval _).run _ W = .ok (.value (Value.pointer (some ⟨y, 1, none⟩))) W
    simp [execOp, g2, go_sem]
  · intro h a W hI hlo hhi hpos hvw hvr hst
    have g9 := ev_get (show a.eval (.tmp 9) = Value.pointer (some ⟨y, 1, none⟩) from hvr 5 9 _ (by decide +kernel) rfl rfl)
    show (execOp a.eval _).run _ W = .ok (.value (Value.pointer (some ⟨y, 2, none⟩))) W
    simp [execOp, g9, go_sem]
  · intro h a W hI hlo hhi hpos hvw hvr hst
    have g10 := ev_get (show a.eval (.tmp 10) = Value.pointer (some ⟨y, 2, none⟩) from hvr 6 10 _ (by decide +kernel) rfl rfl)
    have q := (OI.b hI (Nat.le_trans (hhi 1 21 rfl (by decide +kernel)) (by decide))).1
    have cq0 : World.cell? _ ⟨y, 2, none⟩ = some (.string s) := cell_of_at q.bx rfl
    show (execOp a.eval _).run _ W = .ok (.value (Value.string s)) W
    simp [execOp, g10, go_sem, cq0]
  · intro h a W hI hlo hhi hpos hvw hvr hst
    have g2 := ev_get (show a.eval (.tmp 2) = Value.pointer (some ⟨y, 0, none⟩) from hst 2 (by decide +kernel))
    show (execOp a.eval _).run _ W = .ok (.value (Value.pointer (some ⟨y, 1, none⟩))) W
    simp [execOp, g2, go_sem]
  · intro h a W hI hlo hhi hpos hvw hvr hst
    have g12 := ev_get (show a.eval (.tmp 12) = Value.pointer (some ⟨y, 1, none⟩) from hvr 8 12 _ (by decide +kernel) rfl rfl)
    show (execOp a.eval _).run _ W = .ok (.value (Value.pointer (some ⟨y, 3, none⟩))) W
    simp [execOp, g12, go_sem]
  · intro h a W hI hlo hhi hpos hvw hvr hst
    have g13 := ev_get (show a.eval (.tmp 13) = Value.pointer (some ⟨y, 3, none⟩) from hvr 9 13 _ (by decide +kernel) rfl rfl)
    have q := (OI.b hI (Nat.le_trans (hhi 1 21 rfl (by decide +kernel)) (by decide))).1
    have cq0 : World.cell? _ ⟨y, 3, none⟩ = some (.int .i64 r) := cell_of_at q.bx rfl
    show (execOp a.eval _).run _ W = .ok (.value (Value.int .i64 r)) W
    simp [execOp, g13, go_sem, cq0]
  · intro h a W hI hlo hhi hpos hvw hvr hst
    have g14 := ev_get (show a.eval (.tmp 14) = Value.int .i64 r from hvr 10 14 _ (by decide +kernel) rfl rfl)
    show (execOp a.eval _).run _ W = .ok (.value (Value.int .u8 (r % 256))) W
    simp [execOp, g14, go_sem, hw1]
  · intro h a W hI hlo hhi hpos hvw hvr hst
    have g2 := ev_get (show a.eval (.tmp 2) = Value.pointer (some ⟨y, 0, none⟩) from hst 2 (by decide +kernel))
    show (execOp a.eval _).run _ W = .ok (.value (Value.pointer (some ⟨y, 1, none⟩))) W
    simp [execOp, g2, go_sem]
  · intro h a W hI hlo hhi hpos hvw hvr hst
    have g16 := ev_get (show a.eval (.tmp 16) = Value.pointer (some ⟨y, 1, none⟩) from hvr 12 16 _ (by decide +kernel) rfl rfl)
    show (execOp a.eval _).run _ W = .ok (.value (Value.pointer (some ⟨y, 4, none⟩))) W
    simp [execOp, g16, go_sem]
  · intro h a W hI hlo hhi hpos hvw hvr hst
    have g17 := ev_get (show a.eval (.tmp 17) = Value.pointer (some ⟨y, 4, none⟩) from hvr 13 17 _ (by decide +kernel) rfl rfl)
    have q := (OI.b hI (Nat.le_trans (hhi 1 21 rfl (by decide +kernel)) (by decide))).1
    have cq0 : World.cell? _ ⟨y, 4, none⟩ = some (.int .i64 g) := cell_of_at q.bx rfl
    show (execOp a.eval _).run _ W = .ok (.value (Value.int .i64 g)) W
    simp [execOp, g17, go_sem, cq0]
  · intro h a W hI hlo hhi hpos hvw hvr hst
    have g18 := ev_get (show a.eval (.tmp 18) = Value.int .i64 g from hvr 14 18 _ (by decide +kernel) rfl rfl)
    show (execOp a.eval _).run _ W = .ok (.value (Value.int .u16 (g % 65536))) W
    simp [execOp, g18, go_sem, hw2]
  · intro h a W hI hlo hhi hpos hvw hvr hst
    have g2 := ev_get (show a.eval (.tmp 2) = Value.pointer (some ⟨y, 0, none⟩) from hst 2 (by decide +kernel))
    show (execOp a.eval _).run _ W = .ok (.value (Value.pointer (some ⟨y, 1, none⟩))) W
    simp [execOp, g2, go_sem]
  · intro h a W hI hlo hhi hpos hvw hvr hst
    have g20 := ev_get (show a.eval (.tmp 20) = Value.pointer (some ⟨y, 1, none⟩) from hvr 16 20 _ (by decide +kernel) rfl rfl)
    show (execOp a.eval _).run _ W = .ok (.value (Value.pointer (some ⟨y, 6, none⟩))) W
    simp [execOp, g20, go_sem]
  · intro h a W hI hlo hhi hpos hvw hvr hst
    have g21 := ev_get (show a.eval (.tmp 21) = Value.pointer (some ⟨y, 6, none⟩) from hvr 17 21 _ (by decide +kernel) rfl rfl)
    have q := (OI.b hI (Nat.le_trans (hhi 0 20 rfl (by decide +kernel)) (by decide))).1
    have cq0 : World.cell? _ ⟨y, 6, none⟩ = some (.slice ad cs.length c) := cell_of_at q.bx rfl
    show (execOp a.eval _).run _ W = .ok (.value (Value.slice ad cs.length c)) W
    simp [execOp, g21, go_sem, cq0]
  · intro h a W hI hlo hhi hpos hvw hvr hst
    have g1 := ev_get (show a.eval (.tmp 1) = Value.pointer (some ⟨b, 0, none⟩) from hst 1 (by decide +kernel))
    have q := (OI.b hI (Nat.le_trans (hhi 0 20 rfl (by decide +kernel)) (by decide))).1
    have cq0 := q.cb
    show (execOp a.eval _).run _ W = .ok (.value (Value.func (.func 106) #[] #[])) W
    simp [execOp, g1, go_sem, cq0]
  · intro h a W hI hlo hhi hpos hvw hvr hst
    obtain rfl := lst0 (hpos 0 rfl)
    have g22 := ev_get (show a.eval (.tmp 22) = Value.slice ad cs.length c from hvr 18 22 _ (by decide +kernel) rfl rfl)
    have g23 := ev_get (show a.eval (.tmp 23) = Value.func (.func 106) #[] #[] from hvr 19 23 _ (by decide +kernel) rfl rfl)
    have hB : UB y b #[.string f, .string n, .string s, .int .i64 r, .int .i64 g, .bool ho, .slice ad cs.length c] 93 #[.string ⟨#[]⟩, .string ⟨#[]⟩, .string ⟨#[]⟩, .int .u8 0, .int .u16 0, .slice none 0 0] 158 (.func (.func 106) #[] #[]) w W ∧ y + 2 ≤ W.heap.size := hI
    refine .inr (.inr ⟨109, #[.slice ad cs.length c, .func (.func 106) #[] #[]], by simp [execOp, g22, g23, go_sem], (HE.out W hB.1.fr).mono ?_⟩)
    rintro e V ⟨o, cp, rfl, hw, hf⟩
    exact ⟨_, rfl, o, cp, rfl, World.ownsRow.mono hw hB.2, hB.1.fresh hf, Nat.le_trans hB.2 hf.size⟩
  · intro h a W hI hlo hhi hpos hvw hvr hst
    obtain ⟨y0, rfl⟩ := lst1 (hpos 1 rfl)
    have g5 := ev_get (show a.eval (.tmp 5) = Value.string f from hvr 1 5 _ (by decide +kernel) rfl rfl)
    have g8 := ev_get (show a.eval (.tmp 8) = Value.string n from hvr 4 8 _ (by decide +kernel) rfl rfl)
    have g11 := ev_get (show a.eval (.tmp 11) = Value.string s from hvr 7 11 _ (by decide +kernel) rfl rfl)
    have g15 := ev_get (show a.eval (.tmp 15) = Value.int .u8 (r % 256) from hvr 11 15 _ (by decide +kernel) rfl rfl)
    have g19 := ev_get (show a.eval (.tmp 19) = Value.int .u16 (g % 65536) from hvr 15 19 _ (by decide +kernel) rfl rfl)
    have g24 := ev_get (hvw 0 20 24 y0 rfl rfl rfl)
    obtain ⟨o, cp, rfl, hw, hB⟩ : ∃ o cp, y0 = .slice o cs.length cp ∧ W.ownsRow (y + 2) 160 2 (.slice o cs.length cp) cs.length (c2s (cs.map dnM)) ∧ UB y b #[.string f, .string n, .string s, .int .i64 r, .int .i64 g, .bool ho, .slice ad cs.length c] 93 #[.string ⟨#[]⟩, .string ⟨#[]⟩, .string ⟨#[]⟩, .int .u8 0, .int .u16 0, .slice none 0 0] 158 (.func (.func 106) #[] #[]) w W ∧ y + 2 ≤ W.heap.size := hI
    exact .inl ⟨.agg #[.string f, .string n, .string s, .int .u8 (r % 256), .int .u16 (g % 65536), .slice o cs.length cp], W, by simp [execOp, g5, g8, g11, g15, g19, g24, go_sem], o, cp, hw, hB, rfl⟩
  · intro h a W hI hlo hhi hpos hvw hvr hst
    obtain ⟨y0, y1, rfl⟩ := lst2 (hpos 2 rfl)
    have g3 := ev_get (show a.eval (.tmp 3) = Value.pointer (some ⟨y + 1, 0, none⟩) from hst 3 (by decide +kernel))
    have g25 := ev_get (hvw 1 21 25 y1 rfl rfl rfl)
    obtain ⟨o, cp, hw, hB, rfl⟩ : ∃ o cp, W.ownsRow (y + 2) 160 2 (.slice o cs.length cp) cs.length (c2s (cs.map dnM)) ∧ (UB y b #[.string f, .string n, .string s, .int .i64 r, .int .i64 g, .bool ho, .slice ad cs.length c] 93 #[.string ⟨#[]⟩, .string ⟨#[]⟩, .string ⟨#[]⟩, .int .u8 0, .int .u16 0, .slice none 0 0] 158 (.func (.func 106) #[] #[]) w W ∧ y + 2 ≤ W.heap.size) ∧ y1 = .agg #[.string f, .string n, .string s, .int .u8 (r % 256), .int .u16 (g % 65536), .slice o cs.length cp] := hI
    have z0 := cell_of_at hB.1.rz (i := 0) rfl
    have f0 := frozen_of_at hB.1.rz 0
    have z1 := cell_of_at hB.1.rz (i := 1) rfl
    have f1 := frozen_of_at hB.1.rz 1
    have z2 := cell_of_at hB.1.rz (i := 2) rfl
    have f2 := frozen_of_at hB.1.rz 2
    have z3 := cell_of_at hB.1.rz (i := 3) rfl
    have f3 := frozen_of_at hB.1.rz 3
    have z4 := cell_of_at hB.1.rz (i := 4) rfl
    have f4 := frozen_of_at hB.1.rz 4
    have z5 := cell_of_at hB.1.rz (i := 5) rfl
    have f5 := frozen_of_at hB.1.rz 5
    exact .inr (.inl ⟨_, rfl, by simp [execOp, g3, g25, go_sem, z0, f0, z1, f1, z2, f2, z3, f3, z4, f4, z5, f5], o, cp, W, hw, hB, rfl⟩)
  intro h a W hh hl
  obtain ⟨y0, y1, y2, rfl⟩ := lst3 hl
  obtain ⟨o, cp, W2, hw, hB, rfl⟩ : ∃ (o : Option Addr) (cp : Nat) (W2 : World), W2.ownsRow (y + 2) 160 2 (.slice o cs.length cp) cs.length (c2s (cs.map dnM)) ∧ (UB y b #[.string f, .string n, .string s, .int .i64 r, .int .i64 g, .bool ho, .slice ad cs.length c] 93 #[.string ⟨#[]⟩, .string ⟨#[]⟩, .string ⟨#[]⟩, .int .u8 0, .int .u16 0, .slice none 0 0] 158 (.func (.func 106) #[] #[]) w W2 ∧ y + 2 ≤ W2.heap.size) ∧ W = set6 W2 (y + 1) (.string f) (.string n) (.string s) (.int .u8 (r % 256)) (.int .u16 (g % 65536)) (.slice o cs.length cp) := hh.inv
  have ha := act_lit (n := 26) (by rw [hh.size]; rfl) hh.defers
  have k3 : a.eval (.tmp 3) = Value.pointer (some ⟨y + 1, 0, none⟩) := hh.keep 3 (by decide +kernel)
  simp only [List.range, List.range.loop, List.map_cons, List.map_nil, k3] at ha
  clear k3
  generalize a.eval (.tmp 0) = v0 at ha
  generalize a.eval (.tmp 1) = v1 at ha
  generalize a.eval (.tmp 2) = v2 at ha
  generalize a.eval (.tmp 4) = v4 at ha
  generalize a.eval (.tmp 5) = v5 at ha
  generalize a.eval (.tmp 6) = v6 at ha
  generalize a.eval (.tmp 7) = v7 at ha
  generalize a.eval (.tmp 8) = v8 at ha
  generalize a.eval (.tmp 9) = v9 at ha
  generalize a.eval (.tmp 10) = v10 at ha
  generalize a.eval (.tmp 11) = v11 at ha
  generalize a.eval (.tmp 12) = v12 at ha
  generalize a.eval (.tmp 13) = v13 at ha
  generalize a.eval (.tmp 14) = v14 at ha
  generalize a.eval (.tmp 15) = v15 at ha
  generalize a.eval (.tmp 16) = v16 at ha
  generalize a.eval (.tmp 17) = v17 at ha
  generalize a.eval (.tmp 18) = v18 at ha
  generalize a.eval (.tmp 19) = v19 at ha
  generalize a.eval (.tmp 20) = v20 at ha
  generalize a.eval (.tmp 21) = v21 at ha
  generalize a.eval (.tmp 22) = v22 at ha
  generalize a.eval (.tmp 23) = v23 at ha
  generalize a.eval (.tmp 24) = v24 at ha
  generalize a.eval (.tmp 25) = v25 at ha
  clear hh
  subst ha
  refine hKK _ _ ?_
  have hp := set6_put (u0 := .string f) (u1 := .string n) (u2 := .string s) (u3 := .int .u8 (r % 256)) (u4 := .int .u16 (g % 65536)) (u5 := .slice o cs.length cp) hB.1.rz
  have r0 := cell_of_at hp (i := 0) rfl
  have r1 := cell_of_at hp (i := 1) rfl
  have r2 := cell_of_at hp (i := 2) rfl
  have r3 := cell_of_at hp (i := 3) rfl
  have r4 := cell_of_at hp (i := 4) rfl
  have r5 := cell_of_at hp (i := 5) rfl
  clear hp
  go_wp2
  refine bodyPost_ret (v := .agg #[.string f, .string n, .string s, .int .u8 (r % 256), .int .u16 (g % 65536), .slice o cs.length cp]) (by simp [results, Tryz.results108, go_sem, *]) rfl ⟨⟨⟨f, n, s, r % 256, g % 65536, cs.map dnM⟩, o, cp⟩, ?_, ?_, ?_, ?_⟩
  · simp [M2.val]
  · simp [M3.p, PM.pd, dn, Function.comp_def, dnM]
  · have := set6_own (z := y + 1) (u0 := .string f) (u1 := .string n) (u2 := .string s) (u3 := .int .u8 (r % 256)) (u4 := .int .u16 (g % 65536)) (u5 := .slice o cs.length cp) hw (by omega)
    rw [M2.OwnC, List.length_map]
    exact World.ownsRow.mono this (by have := HYW.out; omega)
  · exact set6_fr hB.1.fr (by have := HYW.out; omega)
end Go.Proofs.YtldncgelghcjeaaGreatDoor.K
