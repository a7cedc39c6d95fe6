/-
  Package yaml's reader: the next row of a block.
  Boxes of results: a value's six cells, a row's four, an entry's three.
  Package yaml: names of values; what a text is made of.
  Package value: holds, inside.
-/
import Derived.Test.YthhdadfnkdjmkaaGreatDoorCat02
import Derived.Laws.MakeOwn
import Derived.Laws.OwnMore
namespace Go.Proofs.YthhdadfnkdjmkaaGreatDoor.y
open Go.ChangeShapes Go.WideShapes Go.ChangeAt Go.RowKit
attribute [local go_sem ↓] Go.wp_at_zero Go.wp_at_succ
variable {w : World}

def placeV (ar : Int) (ind ins : Nat) (d : Bool) : Value := .agg #[.int .i64 ar, .int .i64 (ind : Int), .int .i64 (ins : Int), .bool d]
theorem size_place (w : World) (ar : Int) (ind ins : Nat) (d : Bool) : (w.alloc (.cells #[.int .i64 ar, .int .i64 (ind : Int), .int .i64 (ins : Int), .bool d] 135)).heap.size = w.heap.size + 1 := World.size_alloc _ _

theorem more_none (b : Nat) (R : List Rw) (line : Nat) (ar : Int) (ind ins : Nat) (d : Bool) (w : World) (h : Rdr w b R line) (hR : Fine R) (hb : hasB ar R = false) :
    Calls Tryz.prog 113 #[.pointer (some ⟨b, 0, none⟩), placeV ar ind ins d] w fun e w' => e = .returned (.tuple #[.agg #[.int .i64 0, .int .i64 0, .bool false, .string ⟨#[]⟩], .bool false]) ∧ Fresh w w' := by
  have H := Lib.hid h
  have HB : Hid (∀ W : World, Rdr W b R line → Calls Tryz.prog 52 #[.pointer (some ⟨b, 0, none⟩), .int .i64 ar] W fun e w' => e = .returned (.bool false) ∧ W = w') := fun W hW => by
    have := hasBehind_any b R line ar W hW hR
    rw [hb] at this
    exact this
  clear h hb
  unfold placeV
  go_enter Tryz.func113, Tryz.ntmps113
  go_wp2_with (go_at_call 52; refine (HB.out _ (H.out.move (((Fresh.refl _).alloc _).alloc _))).mono ?_; rintro e w1 ⟨rfl, rfl⟩)
  refine bodyPost_ret (v := .tuple #[.agg #[.int .i64 0, .int .i64 0, .bool false, .string ⟨#[]⟩], .bool false]) (by simp [results, Tryz.results113, go_sem]) rfl ⟨rfl, ?_⟩
  exact ((Fresh.refl _).alloc _).alloc _
theorem more_ok (b : Nat) (r : Rw) (T : List Rw) (line : Nat) (ar : Int) (ins : Nat) (w : World) (h : Rdr w b (r :: T) line) (hR : Fine (r :: T)) (hb : hasB ar (r :: T) = true) :
    Calls Tryz.prog 113 #[.pointer (some ⟨b, 0, none⟩), placeV ar r.indent ins r.dash] w fun e w' => e = .returned (.tuple #[rowV r, .bool true]) ∧ Rdr w' b T r.line ∧ Wr (· = b) w w' := by
  have H := Lib.hid h
  have HB : Hid (∀ W : World, Rdr W b (r :: T) line → Calls Tryz.prog 52 #[.pointer (some ⟨b, 0, none⟩), .int .i64 ar] W fun e w' => e = .returned (.bool true) ∧ W = w') := fun W hW => by
    have := hasBehind_any b (r :: T) line ar W hW hR
    rw [hb] at this
    exact this
  have HN : Hid (∀ W : World, Rdr W b (r :: T) line → Calls Tryz.prog 53 #[.pointer (some ⟨b, 0, none⟩)] W fun e w' => e = .returned (rowV r) ∧ Rdr w' b T r.line ∧ Wr (· = b) W w') := fun W hW => next_any b r T line W hW hR
  have HLT := Lib.hid h.lt
  clear h hb hR
  have HP := Lib.hid (v.at_alloc (o := .cells #[.int .i64 ar, .int .i64 (r.indent : Int), .int .i64 (ins : Int), .bool r.dash] 135 (0, 0)) (p := .cells #[.int .i64 0, .int .i64 0, .bool false, .string ⟨#[]⟩] 90 (0, 0)) (v.at_new w (.cells #[.int .i64 ar, .int .i64 (r.indent : Int), .int .i64 (ins : Int), .bool r.dash] 135 (0, 0))))
  have HP2 : Hid (((w.alloc (.cells #[.int .i64 ar, .int .i64 (r.indent : Int), .int .i64 (ins : Int), .bool r.dash] 135 (0, 0))).alloc (.cells #[.int .i64 0, .int .i64 0, .bool false, .string ⟨#[]⟩] 90 (0, 0))).heap[w.heap.size + 1]? = some (.cells #[.int .i64 0, .int .i64 0, .bool false, .string ⟨#[]⟩] 90 (0, 0))) := by
    have := v.at_new (w.alloc (.cells #[.int .i64 ar, .int .i64 (r.indent : Int), .int .i64 (ins : Int), .bool r.dash] 135 (0, 0))) (.cells #[.int .i64 0, .int .i64 0, .bool false, .string ⟨#[]⟩] 90 (0, 0))
    rwa [World.size_alloc] at this
  have HF := Lib.hid (((Fresh.refl w).alloc (.cells #[.int .i64 ar, .int .i64 (r.indent : Int), .int .i64 (ins : Int), .bool r.dash] 135 (0, 0))).alloc (.cells #[.int .i64 0, .int .i64 0, .bool false, .string ⟨#[]⟩] 90 (0, 0)))
  have h1 := H.out.move HF.out
  have H1 := Lib.hid h1
  clear h1
  unfold placeV
  go_enter Tryz.func113, Tryz.ntmps113
  go_wp2_with fail
  generalize (w.alloc (.cells #[.int .i64 ar, .int .i64 (r.indent : Int), .int .i64 (ins : Int), .bool r.dash] 135 (0, 0))).alloc (.cells #[.int .i64 0, .int .i64 0, .bool false, .string ⟨#[]⟩] 90 (0, 0)) = w0 at *
  generalize hsz : w.heap.size = sz at *
  have HSZ := Lib.hid hsz
  clear hsz
  refine (HB.out _ H1.out).mono ?_
  rintro e w1 ⟨rfl, rfl⟩
  clear HB
  go_wp2_with fail
  refine (HN.out _ H1.out).mono ?_
  rintro e w1 ⟨rfl, hr1, hg1⟩
  have n1 : sz ≠ b := by have := HLT.out; omega
  have n2 : sz + 1 ≠ b := by have := HLT.out; omega
  have k1 := hg1.at n1 HP.out
  have k2 := hg1.at n2 HP2.out
  have HS : Hid (sz + 1 < w1.heap.size) := v.lt_of_at k2
  have p1 : w1.cell? ⟨sz, 1, none⟩ = some (.int .i64 (r.indent : Int)) := cell_of_at k1 rfl
  have p3 : w1.cell? ⟨sz, 3, none⟩ = some (.bool r.dash) := cell_of_at k1 rfl
  have q0 : w1.cell? ⟨sz + 1, 0, none⟩ = some (.int .i64 0) := cell_of_at k2 rfl
  have q1 : w1.cell? ⟨sz + 1, 1, none⟩ = some (.int .i64 0) := cell_of_at k2 rfl
  have q2 : w1.cell? ⟨sz + 1, 2, none⟩ = some (.bool false) := cell_of_at k2 rfl
  have q3 : w1.cell? ⟨sz + 1, 3, none⟩ = some (.string ⟨#[]⟩) := cell_of_at k2 rfl
  have f0 : ∀ i, w1.frozen? ⟨sz + 1, i, none⟩ = false := fun i => by simp [World.frozen?, k2]
  have HG1 := Lib.hid hg1
  have HR1 := Lib.hid hr1
  have s1 := v.lt_of_at k1
  have s2 := v.lt_of_at k2
  unfold rowV
  have f00 := f0 0
  have f01 := f0 1
  have f02 := f0 2
  have f03 := f0 3
  clear k1 k2 hg1 hr1 HN H1 f0
  go_wp2
  have hl := HLT.out
  have hz := HSZ.out
  have hs := HS.out
  refine bodyPost_ret (v := .tuple #[rowV r, .bool true]) (by simp [results, Tryz.results113, go_sem, rowV, *]) rfl ⟨rfl, ?_, ?_⟩
  · clear hz
    exact HR1.out.keep (p := fun k => k = sz + 1 ∨ w1.heap.size ≤ k) ((((((Wr.refl (fun k => k = sz + 1 ∨ w1.heap.size ≤ k) w1).set (.inl (.inl rfl)) _).set (.inl (.inl rfl)) _).set (.inl (.inl rfl)) _).set (.inl (.inl rfl)) _).alloc _) (fun k hk e => by rcases e with e | e <;> omega)
  · exact (((((((Wr.of_fresh HF.out).trans HG1.out).set (.inr (by omega)) _).set (.inr (by omega)) _).set (.inr (by omega)) _).set (.inr (by omega)) _).alloc _)
theorem more_bad (b : Nat) (r : Rw) (T : List Rw) (line : Nat) (ar : Int) (ind ins : Nat) (d : Bool) (w : World) (h : Rdr w b (r :: T) line) (hR : Fine (r :: T)) (hb : hasB ar (r :: T) = true) (hx : r.indent ≠ ind ∨ (r.indent = ind ∧ r.dash ≠ d)) :
    Calls Tryz.prog 113 #[.pointer (some ⟨b, 0, none⟩), placeV ar ind ins d] w fun e w' => Panics r.line 6 e ∧ Wr (fun k => k = b) w w' := by
  have H := Lib.hid h
  have HB : Hid (∀ W : World, Rdr W b (r :: T) line → Calls Tryz.prog 52 #[.pointer (some ⟨b, 0, none⟩), .int .i64 ar] W fun e w' => e = .returned (.bool true) ∧ W = w') := fun W hW => by
    have := hasBehind_any b (r :: T) line ar W hW hR
    rw [hb] at this
    exact this
  have HN : Hid (∀ W : World, Rdr W b (r :: T) line → Calls Tryz.prog 53 #[.pointer (some ⟨b, 0, none⟩)] W fun e w' => e = .returned (rowV r) ∧ Rdr w' b T r.line ∧ Wr (· = b) W w') := fun W hW => next_any b r T line W hW hR
  have HLT := Lib.hid h.lt
  have HW : Hid (∀ W : World, Rdr W b T r.line → Calls Tryz.prog 54 #[.pointer (some ⟨b, 0, none⟩), .int .i64 6] W fun e w' => e = .returned (misV r.line 6) ∧ Fresh W w') := fun W hW => wrong_any b T r.line 6 W hW
  have HX := Lib.hid hx
  clear hx
  clear h hb hR
  have HP := Lib.hid (v.at_alloc (o := .cells #[.int .i64 ar, .int .i64 (ind : Int), .int .i64 (ins : Int), .bool d] 135 (0, 0)) (p := .cells #[.int .i64 0, .int .i64 0, .bool false, .string ⟨#[]⟩] 90 (0, 0)) (v.at_new w (.cells #[.int .i64 ar, .int .i64 (ind : Int), .int .i64 (ins : Int), .bool d] 135 (0, 0))))
  have HP2 : Hid (((w.alloc (.cells #[.int .i64 ar, .int .i64 (ind : Int), .int .i64 (ins : Int), .bool d] 135 (0, 0))).alloc (.cells #[.int .i64 0, .int .i64 0, .bool false, .string ⟨#[]⟩] 90 (0, 0))).heap[w.heap.size + 1]? = some (.cells #[.int .i64 0, .int .i64 0, .bool false, .string ⟨#[]⟩] 90 (0, 0))) := by
    have := v.at_new (w.alloc (.cells #[.int .i64 ar, .int .i64 (ind : Int), .int .i64 (ins : Int), .bool d] 135 (0, 0))) (.cells #[.int .i64 0, .int .i64 0, .bool false, .string ⟨#[]⟩] 90 (0, 0))
    rwa [World.size_alloc] at this
  have HF := Lib.hid (((Fresh.refl w).alloc (.cells #[.int .i64 ar, .int .i64 (ind : Int), .int .i64 (ins : Int), .bool d] 135 (0, 0))).alloc (.cells #[.int .i64 0, .int .i64 0, .bool false, .string ⟨#[]⟩] 90 (0, 0)))
  have h1 := H.out.move HF.out
  have H1 := Lib.hid h1
  clear h1
  unfold placeV
  go_enter Tryz.func113, Tryz.ntmps113
  go_wp2_with fail
  generalize (w.alloc (.cells #[.int .i64 ar, .int .i64 (ind : Int), .int .i64 (ins : Int), .bool d] 135 (0, 0))).alloc (.cells #[.int .i64 0, .int .i64 0, .bool false, .string ⟨#[]⟩] 90 (0, 0)) = w0 at *
  generalize hsz : w.heap.size = sz at *
  have HSZ := Lib.hid hsz
  clear hsz
  refine (HB.out _ H1.out).mono ?_
  rintro e w1 ⟨rfl, rfl⟩
  clear HB
  go_wp2_with fail
  refine (HN.out _ H1.out).mono ?_
  rintro e w1 ⟨rfl, hr1, hg1⟩
  have n1 : sz ≠ b := by have := HLT.out; omega
  have n2 : sz + 1 ≠ b := by have := HLT.out; omega
  have k1 := hg1.at n1 HP.out
  have k2 := hg1.at n2 HP2.out
  have HS : Hid (sz + 1 < w1.heap.size) := v.lt_of_at k2
  have p1 : w1.cell? ⟨sz, 1, none⟩ = some (.int .i64 (ind : Int)) := cell_of_at k1 rfl
  have p3 : w1.cell? ⟨sz, 3, none⟩ = some (.bool d) := cell_of_at k1 rfl
  have q0 : w1.cell? ⟨sz + 1, 0, none⟩ = some (.int .i64 0) := cell_of_at k2 rfl
  have q1 : w1.cell? ⟨sz + 1, 1, none⟩ = some (.int .i64 0) := cell_of_at k2 rfl
  have q2 : w1.cell? ⟨sz + 1, 2, none⟩ = some (.bool false) := cell_of_at k2 rfl
  have q3 : w1.cell? ⟨sz + 1, 3, none⟩ = some (.string ⟨#[]⟩) := cell_of_at k2 rfl
  have f0 : ∀ i, w1.frozen? ⟨sz + 1, i, none⟩ = false := fun i => by simp [World.frozen?, k2]
  have HG1 := Lib.hid hg1
  have HR1 := Lib.hid hr1
  have s1 := v.lt_of_at k1
  have s2 := v.lt_of_at k2
  unfold rowV
  have f00 := f0 0
  have f01 := f0 1
  have f02 := f0 2
  have f03 := f0 3
  clear k1 k2 hg1 hr1 HN H1 f0 q0 q1 q2 q3 f00 f01 f02 f03
  obtain ⟨w2, hw2⟩ : ∃ w2 : World, w2 = w1.alloc (.cells #[.int .i64 (r.line : Int), .int .i64 (r.indent : Int), .bool r.dash, .string (tx r.text)] 90) := ⟨_, rfl⟩
  have HR2 : Hid (Rdr (w1.alloc (.cells #[.int .i64 (r.line : Int), .int .i64 (r.indent : Int), .bool r.dash, .string (tx r.text)] 90)) b T r.line) := HR1.out.move ((Fresh.refl _).alloc _)
  clear hw2
  rcases HX.out with h1 | ⟨h1, h2⟩
  · have g1 : ((r.indent : Int) != (ind : Int)) = true := by simp; omega
    have g2 : ((r.indent : Int) == (ind : Int)) = false := by simp; omega
    clear h1 p3
    go_wp2_with (go_at_call 54; refine (HW.out _ HR2.out).mono ?_; rintro e w3 ⟨rfl, hf⟩; have HF3 := Lib.hid hf; clear hf)
    exact ⟨rfl, rfl, (((Wr.of_fresh HF.out).trans HG1.out).alloc _).fresh HF3.out⟩
  · rw [← h1] at p1
    obtain ⟨ri, hri⟩ : ∃ ri : Nat, r.indent = ri := ⟨_, rfl⟩
    cases hd : d <;> cases hrd : r.dash
    · exact absurd (hrd.trans hd.symm) h2
    all_goals first | exact absurd (hrd.trans hd.symm) h2 | skip
    all_goals
      rw [hd] at p3
      rw [hrd] at HR2
      clear h2 h1 hri hd
      go_wp2_with (go_at_call 54; refine (HW.out _ HR2.out).mono ?_; rintro e w3 ⟨rfl, hf⟩; have HF3 := Lib.hid hf; clear hf)
      exact ⟨rfl, rfl, (((Wr.of_fresh HF.out).trans HG1.out).alloc _).fresh HF3.out⟩
end Go.Proofs.YthhdadfnkdjmkaaGreatDoor.y
namespace Go.Proofs.YthhdadfnkdjmkaaGreatDoor.y
open Go.ChangeShapes Go.WideShapes Go.ChangeAt Go.RowKit
variable {w : World}

abbrev zcells : Array Value := #[.int .i64 0, .bool false, .int .i64 0, .string ⟨#[]⟩, .slice none 0 0, .slice none 0 0]
/-- A box of a value that nothing was stored into. -/
def VBox (w : World) (g : Nat) : Prop := w.heap[g]? = some (.cells zcells 27 (0, 0))
structure VFacts (w : World) (g : Nat) : Prop where
  c0 : w.cell? ⟨g, 0, none⟩ = some (.int .i64 0)
  c1 : w.cell? ⟨g, 1, none⟩ = some (.bool false)
  c2 : w.cell? ⟨g, 2, none⟩ = some (.int .i64 0)
  c3 : w.cell? ⟨g, 3, none⟩ = some (.string ⟨#[]⟩)
  c4 : w.cell? ⟨g, 4, none⟩ = some (.slice none 0 0)
  c5 : w.cell? ⟨g, 5, none⟩ = some (.slice none 0 0)
  f : ∀ i, w.frozen? ⟨g, i, none⟩ = false
  lt : g < w.heap.size
theorem VBox.facts {w : World} {g : Nat} (h : VBox w g) : VFacts w g :=
  ⟨cell_of_at h rfl, cell_of_at h rfl, cell_of_at h rfl, cell_of_at h rfl, cell_of_at h rfl, cell_of_at h rfl, fun i => by simp [World.frozen?, show w.heap[g]? = some (.cells zcells 27 (0, 0)) from h], v.lt_of_at h⟩
theorem VBox.new (w : World) : VBox (w.alloc (.cells zcells 27 (0, 0))) w.heap.size := v.at_new w _
theorem VBox.wr {p : Nat → Prop} {w w' : World} {g : Nat} (h : VBox w g) (f : Wr p w w') (hp : ¬ p g) : VBox w' g := f.at hp h
theorem VBox.move {w w' : World} {g : Nat} (h : VBox w g) (f : Fresh w w') : VBox w' g := h.wr (p := fun _ => False) (.of_fresh f) id
theorem Wr.set6 {p : Nat → Prop} {a b : World} (h : Wr p a b) {g : Nat} (hg : p g ∨ a.heap.size ≤ g) (u0 u1 u2 u3 u4 u5 : Value) :
    Wr p a ((((((b.setCell ⟨g, 0, none⟩ u0).setCell ⟨g, 1, none⟩ u1).setCell ⟨g, 2, none⟩ u2).setCell ⟨g, 3, none⟩ u3).setCell ⟨g, 4, none⟩ u4).setCell ⟨g, 5, none⟩ u5) :=
  (((((h.set hg u0).set hg u1).set hg u2).set hg u3).set hg u4).set hg u5
end Go.Proofs.YthhdadfnkdjmkaaGreatDoor.y
namespace Go.Proofs.YthhdadfnkdjmkaaGreatDoor.y
open Go.ChangeShapes Go.WideShapes Go.ChangeAt Go.RowKit
attribute [local go_sem ↓] Go.wp_at_zero Go.wp_at_succ
variable {w : World}
theorem tx_list (l : List UInt8) : (tx l).toList = l := by rw [Lib.toList_data, tx_toList]
theorem tx_eq (l m : List UInt8) : ((tx l).toList == m) = decide (l = m) := by
  rw [tx_list]
  rw [Bool.eq_iff_iff]; simp
def tNull : List UInt8 := [110, 117, 108, 108]
def tTrue : List UInt8 := [116, 114, 117, 101]
def tFalse : List UInt8 := [102, 97, 108, 115, 101]
def namedB (l : List UInt8) : Bool := decide (l = tNull) || (decide (l = tTrue) || decide (l = tFalse))
def flagM (b : Bool) : v.M := .mk 1 b 0 ⟨#[]⟩ none 0 [] none 0 []
def nameM (l : List UInt8) : v.M := if l = tTrue then flagM true else if l = tFalse then flagM false else v.M.zero
theorem yes_raw (b : Bool) (w : World) : Calls Tryz.prog 16 #[.bool b] w fun e w' => e = .returned (flagM b).val ∧ Fresh w w' := by
  go_enter Tryz.func16, Tryz.ntmps16
  go_wp2
  exact bodyPost_ret (v := (flagM b).val) (by simp [results, Tryz.results16, go_sem, flagM, v.M.val]) rfl ⟨rfl, (Fresh.refl w).alloc _⟩
theorem byName_raw (s : ByteArray) (n t g : Bool) (w : World) (e1 : (s.toList == [110, 117, 108, 108]) = n) (e2 : (s.toList == [116, 114, 117, 101]) = t) (e3 : (s.toList == [102, 97, 108, 115, 101]) = g)
    (h1 : n = true → t = false ∧ g = false) (h2 : t = true → g = false) :
    Calls Tryz.prog 32 #[.string s] w fun e w' => e = .returned (.tuple #[(if t || g then flagM t else v.M.zero).val, .bool (n || (t || g))]) ∧ Fresh w w' := by
  cases n
  · cases t
    · cases g
      · show Calls Tryz.prog 32 #[.string s] w fun e w' => e = .returned (.tuple #[v.M.zero.val, .bool false]) ∧ Fresh w w'
        clear h1 h2
        go_enter Tryz.func32, Tryz.ntmps32
        go_wp2_with fail
        exact bodyPost_ret (v := .tuple #[v.M.zero.val, .bool false]) (by simp [results, Tryz.results32, go_sem, v.M.zero, v.M.val]) rfl ⟨rfl, (Fresh.refl w).alloc _⟩
      · show Calls Tryz.prog 32 #[.string s] w fun e w' => e = .returned (.tuple #[(flagM false).val, .bool true]) ∧ Fresh w w'
        clear h1 h2
        have HY := Lib.hid (fun W => yes_raw false W)
        have HB := Lib.hid (VBox.new w)
        have HF0 := Lib.hid ((Fresh.refl w).alloc (.cells zcells 27 (0, 0)))
        go_enter Tryz.func32, Tryz.ntmps32
        go_wp2_with fail
        generalize w.alloc (.cells zcells 27 (0, 0)) = w0 at *
        generalize hsz : w.heap.size = sz at *
        have HSZ := Lib.hid hsz
        clear hsz
        refine (HY.out _).mono ?_
        rintro e w1 ⟨rfl, hf⟩
        obtain ⟨c0, c1, c2, c3, c4, c5, f, lt⟩ := (HB.out.move hf).facts
        have HF := Lib.hid hf
        have f0 := f 0; have f1 := f 1; have f2 := f 2; have f3 := f 3; have f4 := f 4; have f5 := f 5
        clear hf f HY HB
        unfold flagM v.M.val
        go_wp2
        refine bodyPost_ret (v := .tuple #[(flagM false).val, .bool true]) (by simp [results, Tryz.results32, go_sem, flagM, v.M.val, *]) rfl ⟨rfl, ?_⟩
        exact Wr.toFresh (p := fun k => w.heap.size ≤ k) (((Wr.of_fresh HF0.out).fresh HF.out).set6 (.inl (Nat.le_of_eq HSZ.out)) _ _ _ _ _ _) (fun k hk h => by omega)
    · obtain rfl := h2 rfl
      show Calls Tryz.prog 32 #[.string s] w fun e w' => e = .returned (.tuple #[(flagM true).val, .bool true]) ∧ Fresh w w'
      clear h1 h2
      have HY := Lib.hid (fun W => yes_raw true W)
      have HB := Lib.hid (VBox.new w)
      have HF0 := Lib.hid ((Fresh.refl w).alloc (.cells zcells 27 (0, 0)))
      go_enter Tryz.func32, Tryz.ntmps32
      go_wp2_with fail
      generalize w.alloc (.cells zcells 27 (0, 0)) = w0 at *
      generalize hsz : w.heap.size = sz at *
      have HSZ := Lib.hid hsz
      clear hsz
      refine (HY.out _).mono ?_
      rintro e w1 ⟨rfl, hf⟩
      obtain ⟨c0, c1, c2, c3, c4, c5, f, lt⟩ := (HB.out.move hf).facts
      have HF := Lib.hid hf
      have f0 := f 0; have f1 := f 1; have f2 := f 2; have f3 := f 3; have f4 := f 4; have f5 := f 5
      clear hf f HY HB
      unfold flagM v.M.val
      go_wp2
      refine bodyPost_ret (v := .tuple #[(flagM true).val, .bool true]) (by simp [results, Tryz.results32, go_sem, flagM, v.M.val, *]) rfl ⟨rfl, ?_⟩
      exact Wr.toFresh (p := fun k => w.heap.size ≤ k) (((Wr.of_fresh HF0.out).fresh HF.out).set6 (.inl (Nat.le_of_eq HSZ.out)) _ _ _ _ _ _) (fun k hk h => by omega)
  · obtain ⟨rfl, rfl⟩ := h1 rfl
    show Calls Tryz.prog 32 #[.string s] w fun e w' => e = .returned (.tuple #[v.M.zero.val, .bool true]) ∧ Fresh w w'
    clear h1 h2
    go_enter Tryz.func32, Tryz.ntmps32
    go_wp2_with fail
    exact bodyPost_ret (v := .tuple #[v.M.zero.val, .bool true]) (by simp [results, Tryz.results32, go_sem, v.M.zero, v.M.val]) rfl ⟨rfl, (Fresh.refl w).alloc _⟩
theorem byName_any (l : List UInt8) (w : World) :
    Calls Tryz.prog 32 #[.string (tx l)] w fun e w' => e = .returned (.tuple #[(nameM l).val, .bool (namedB l)]) ∧ Fresh w w' := by
  have h := byName_raw (tx l) (decide (l = tNull)) (decide (l = tTrue)) (decide (l = tFalse)) w (tx_eq l _) (tx_eq l _) (tx_eq l _)
    (fun e => by have := of_decide_eq_true e; subst this; decide) (fun e => by have := of_decide_eq_true e; subst this; decide)
  have e : (if (decide (l = tTrue) || decide (l = tFalse)) = true then flagM (decide (l = tTrue)) else v.M.zero) = nameM l := by
    unfold nameM
    by_cases h1 : l = tTrue
    · simp [h1]
    by_cases h2 : l = tFalse
    · subst h2; rfl
    · simp [h1, h2]
  rw [e] at h
  exact h
end Go.Proofs.YthhdadfnkdjmkaaGreatDoor.y
namespace Go.Proofs.YthhdadfnkdjmkaaGreatDoor.v
open Go.ChangeShapes Go.WideShapes Go.ChangeAt Go.RowKit
variable {w : World}

theorem holds_raw (k : Int) (f : Bool) (n : Int) (s : ByteArray) (la : Option Addr) (ln lc : Nat) (ka : Option Addr) (kn kc : Nat) (w : World) :
    Calls Tryz.prog 41 #[mval k f n s la ln lc ka kn kc] w fun e w' => e = .returned (.bool (decide (k = 4 ∨ k = 5))) ∧ Fresh w w' := by
  by_cases h4 : k = 4
  · subst h4
    go_enter Tryz.func41, Tryz.ntmps41
    go_wp2
    go_ret
    exact ⟨rfl, (Fresh.refl w).alloc _⟩
  · have e4 : (k == 4) = false := by simpa using h4
    by_cases h5 : k = 5
    · subst h5
      clear h4
      go_enter Tryz.func41, Tryz.ntmps41
      go_wp2
      go_ret
      exact ⟨rfl, (Fresh.refl w).alloc _⟩
    · have e5 : (k == 5) = false := by simpa using h5
      have H : Hid (decide (k = 4 ∨ k = 5) = false) := decide_eq_false (by omega)
      rw [H.out]
      clear h4 h5
      go_enter Tryz.func41, Tryz.ntmps41
      go_wp2
      go_ret
      exact ⟨rfl, (Fresh.refl w).alloc _⟩
theorem holds_any (m : M) (w : World) : Calls Tryz.prog 41 #[m.val] w fun e w' => e = .returned (.bool m.plain.holds) ∧ Fresh w w' := by
  obtain ⟨k, f, n, s, la, lc, l, ka, kc, ks⟩ := m
  exact holds_raw k f n s la l.length lc ka ks.length kc w

/-- Of a block of the call's own: the first cells read so, all may be written. -/
structure Filled (w : World) (g n : Nat) (pre : List Value) : Prop where
  done : ∀ j x, pre[j]? = some x → w.cell? ⟨g, j, none⟩ = some x
  there : ∀ j, j < n → (w.cell? ⟨g, j, none⟩).isSome = true ∧ w.frozen? ⟨g, j, none⟩ = false
theorem Filled.move {w w' : World} {g n : Nat} {pre : List Value} (h : Filled w g n pre) (f : w'.heap[g]? = w.heap[g]?) : Filled w' g n pre :=
  ⟨fun j x hj => (World.cell?_of_block (a := ⟨g, j, none⟩) f).trans (h.done j x hj), fun j hj => by
    rw [World.cell?_of_block (a := ⟨g, j, none⟩) f, World.frozen?_of_block (a := ⟨g, j, none⟩) f]; exact h.there j hj⟩
theorem Filled.start {w : World} {g n : Nat} {Z : Array Value} {t : TypeId} (h : w.heap[g]? = some (.cells Z t (0, 0))) (hZ : Z.size = n) : Filled w g n [] :=
  ⟨fun j x hj => by simp at hj, fun j hj => by
    have : Z[j]? = some Z[j] := Array.getElem?_eq_getElem (by omega)
    simp [World.cell?, World.frozen?, h, this]⟩
theorem Filled.step {w : World} {g n : Nat} {pre : List Value} (h : Filled w g n pre) (vs : List Value) (hn : pre.length + vs.length ≤ n) : Filled (w.setCells g pre.length vs) g n (pre ++ vs) := by
  have hin := World.cell?_setCells_in g vs pre.length w (fun j hj => by simpa using (h.there (pre.length + j) (by omega)).1)
  refine ⟨fun j x hj => ?_, fun j hj => ⟨?_, ?_⟩⟩
  · rcases Nat.lt_or_ge j pre.length with hlt | hge
    · rw [World.cell?_setCells_out g vs _ _ ⟨g, j, none⟩ (fun _ _ => .inl (by show j < pre.length; omega))]
      rw [List.getElem?_append_left hlt] at hj
      exact h.done j x hj
    · rw [List.getElem?_append_right hge] at hj
      have hlt := (List.getElem?_eq_some_iff.1 hj).1
      have := hin (j - pre.length) hlt
      rw [show pre.length + (j - pre.length) = j by omega] at this
      rw [List.getElem?_eq_getElem hlt] at hj
      rw [this, hj]
  · rcases Nat.lt_or_ge j pre.length with hlt | hge
    · rw [World.cell?_setCells_out g vs _ _ ⟨g, j, none⟩ (fun _ _ => .inl (by show j < pre.length; omega))]
      exact (h.there j hj).1
    · rcases Nat.lt_or_ge j (pre.length + vs.length) with h2 | h2
      · have := hin (j - pre.length) (by omega)
        rw [show pre.length + (j - pre.length) = j by omega] at this
        rw [this]
        rfl
      · rw [World.cell?_setCells_out g vs _ _ ⟨g, j, none⟩ (fun _ _ => .inr (by show pre.length + vs.length ≤ j; omega))]
        exact (h.there j hj).1
  · rw [World.frozen?_setCells]; exact (h.there j hj).2
theorem setCells_size (g : Nat) : ∀ (vs : List Value) (o : Nat) (w : World), (w.setCells g o vs).heap.size = w.heap.size
  | [], _, _ => rfl
  | v :: vs, o, w => (setCells_size g vs (o + 1) _).trans (by simp [World.setCell])
/-- Six stores in a row. -/
def sixSet (w : World) (g o : Nat) (v0 v1 v2 v3 v4 v5 : Value) : World := (((((w.setCell ⟨g, o, none⟩ v0).setCell ⟨g, o + 1, none⟩ v1).setCell ⟨g, o + 2, none⟩ v2).setCell ⟨g, o + 3, none⟩ v3).setCell ⟨g, o + 4, none⟩ v4).setCell ⟨g, o + 5, none⟩ v5
theorem sixSet_eq (w : World) (g o : Nat) (v0 v1 v2 v3 v4 v5 : Value) : w.setCells g o [v0, v1, v2, v3, v4, v5] = sixSet w g o v0 v1 v2 v3 v4 v5 := rfl
theorem Fresh.setCells {a : World} {g : Nat} (hg : a.heap.size ≤ g) : ∀ (vs : List Value) (o : Nat) {b : World}, Fresh a b → Fresh a (b.setCells g o vs)
  | [], _, _, h => h
  | v :: vs, o, _, h => Fresh.setCells hg vs (o + 1) (h.setCell (p := ⟨g, o, none⟩) hg v)

theorem info29 : (Tryz.prog.info? 27).map (fun i => (i.zero, i.size, i.bytes)) = some (some (.agg #[.int .i64 0, .bool false, .int .i64 0, .string ⟨#[]⟩, .slice none 0 0, .slice none 0 0]), 6, 88) := by kernel_rfl
/-- The values in a value, as they are handed back. -/
def InsideIs (m : M) (w : World) (e : Ending) (w' : World) : Prop := ∃ a c, e = .returned (.slice a m.inside.length c) ∧ RowAt w' a (mcells m.inside) ∧ Fresh w w' ∧ ((∀ w0, m.At w0 → RowAt w0 a (mcells m.inside)) ∨ ∀ ad : Addr, a = some ad → w.heap.size ≤ ad.block)
theorem inside_list (f : Bool) (n : Int) (s : ByteArray) (la : Option Addr) (lc : Nat) (l : List M) (ka : Option Addr) (kc : Nat) (ks : List (ByteArray × M)) (w : World) (h : RowAt w la (mcells l)) :
    Calls Tryz.prog 39 #[(M.mk 4 f n s la lc l ka kc ks).val] w (InsideIs (.mk 4 f n s la lc l ka kc ks) w) := by
  have H : Hid (∀ w', Fresh w w' → InsideIs (.mk 4 f n s la lc l ka kc ks) w (.returned (.slice la l.length lc)) w') := fun w' hf => ⟨la, lc, rfl, h.move hf, hf, .inl fun w0 h0 => h0.parts.2.1⟩
  dsimp only [M.val]
  clear h
  generalize l.length = ln at *
  generalize ks.length = kn at *
  go_enter Tryz.func39, Tryz.ntmps39
  go_wp2
  go_ret
  exact H.out _ ((Fresh.refl w).alloc _)
theorem inside_none (k : Int) (f : Bool) (n : Int) (s : ByteArray) (la : Option Addr) (lc : Nat) (l : List M) (ka : Option Addr) (kc : Nat) (ks : List (ByteArray × M)) (w : World) (h4 : k ≠ 4) (h5 : k ≠ 5) :
    Calls Tryz.prog 39 #[(M.mk k f n s la lc l ka kc ks).val] w (InsideIs (.mk k f n s la lc l ka kc ks) w) := by
  have H : Hid (∀ w', Fresh w w' → InsideIs (.mk k f n s la lc l ka kc ks) w (.returned (.slice none 0 0)) w') := fun w' hf => by
    have e : (M.mk k f n s la lc l ka kc ks).inside = [] := by simp [M.inside, M.kind, h4, h5]
    exact ⟨none, 0, by rw [e]; rfl, by rw [e]; exact .nil w', hf, .inr fun ad h => by cases h⟩
  have e4 : (k == 4) = false := by simpa using h4
  have e5 : (k == 5) = false := by simpa using h5
  dsimp only [M.val]
  clear h4 h5
  generalize l.length = ln at *
  generalize ks.length = kn at *
  go_enter Tryz.func39, Tryz.ntmps39
  go_wp2
  go_ret
  exact H.out _ ((Fresh.refl w).alloc _)
set_option maxRecDepth 100000 in
set_option maxHeartbeats 1000000 in
theorem inside_keys (f : Bool) (n : Int) (s : ByteArray) (la : Option Addr) (lc : Nat) (l : List M) (g0 kc : Nat) (ks : List (ByteArray × M)) (w : World) (h : RowAt w (some ⟨g0, 0, none⟩) (pcells ks)) (hl : ks.length ≤ 1000000) :
    Calls Tryz.prog 39 #[(M.mk 5 f n s la lc l (some ⟨g0, 0, none⟩) kc ks).val] w (InsideIs (.mk 5 f n s la lc l (some ⟨g0, 0, none⟩) kc ks) w) := by
  obtain ⟨i0, hi, hz0, hz1, hz2⟩ := info_parts info29
  obtain ⟨Z, hZs, hZ⟩ : ∃ Z : Array Value, Z.size = ks.length * 6 ∧ ∀ W, (Instr.makeSlice 24 (.int .i64 (ks.length : Int)) (.int .i64 (ks.length : Int))).run Tryz.prog W = .ok (.slice (some ⟨W.heap.size, 0, none⟩) ks.length ks.length) (W.alloc (.cells Z 27)) := by
    refine ⟨madeCells (Value.agg #[.int .i64 0, .bool false, .int .i64 0, .string ⟨#[]⟩, .slice none 0 0, .slice none 0 0]).cells (ks.length * 6), size_madeCells _ _, fun W => ?_⟩
    · have := Go.run_makeSlice (P := Tryz.prog) W 24 27 i0 _ Tryz.underlying24 hi hz0 .i64 .i64 ks.length ks.length (by omega) (Int.le_refl _) (by rw [hz1]; omega) (by rw [hz2]; omega) (by omega)
      rw [Int.toNat_natCast, hz1] at this
      exact this
  have HZ := Lib.hid hZs
  have HR := Lib.hid h
  clear h hZs hi hz0 hz1 hz2
  dsimp only [M.val]
  generalize hln : l.length = ln
  clear hln
  go_enter Tryz.func39, Tryz.ntmps39
  go_wp2
  have HF0 : Hid (Filled ((w.alloc (.cells #[.int .i64 5, .bool f, .int .i64 n, .string s, .slice la ln lc, .slice (some ⟨g0, 0, none⟩) ks.length kc] 27)).alloc (.cells Z 27)) (w.heap.size + 1) (ks.length * 6) (mcells ((ks.take 0).map (·.2)))) :=
    Filled.start (t := 27) (by have := at_new (w.alloc (.cells #[.int .i64 5, .bool f, .int .i64 n, .string s, .slice la ln lc, .slice (some ⟨g0, 0, none⟩) ks.length kc] 27)) (.cells Z 27); rw [World.size_alloc] at this; exact this) HZ.out
  go_loopw [21] (fun i wr => ∃ k : Nat, k ≤ ks.length ∧ i = .int .i64 k ∧ Hid (Filled wr (w.heap.size + 1) (ks.length * 6) (mcells ((ks.take k).map (·.2)))) ∧ Hid (Fresh w wr)) (fun i _ => ks.length - (intOf i).toNat)
  case atStart => exact ⟨0, Nat.zero_le _, rfl, HF0, ((Fresh.refl w).alloc _).alloc _⟩
  case round =>
    obtain ⟨k, hk, rfl, HF, HW⟩ := hrel
    clear HF0
    by_cases hlt : k < ks.length
    · obtain ⟨c, hc⟩ := prow_get (HR.out.move HW.out) k hlt
      have HT : Hid ((ks.take (k + 1)).map (·.2) = (ks.take k).map (·.2) ++ [ks[k].2]) := by rw [Hid, List.take_succ_eq_append_getElem hlt, List.map_append]; rfl
      have HP : Hid ((mcells ((ks.take k).map (·.2))).length = k * 6) := by rw [Hid, mcells_length, List.length_map, List.length_take, Nat.min_eq_left hk]
      have ht := fun j (hj : j < 6) => HF.out.there (k * 6 + j) (by omega)
      obtain ⟨o0, t0⟩ := Option.isSome_iff_exists.1 (ht 0 (by omega)).1
      obtain ⟨o1, t1⟩ := Option.isSome_iff_exists.1 (ht 1 (by omega)).1
      obtain ⟨o2, t2⟩ := Option.isSome_iff_exists.1 (ht 2 (by omega)).1
      obtain ⟨o3, t3⟩ := Option.isSome_iff_exists.1 (ht 3 (by omega)).1
      obtain ⟨o4, t4⟩ := Option.isSome_iff_exists.1 (ht 4 (by omega)).1
      obtain ⟨o5, t5⟩ := Option.isSome_iff_exists.1 (ht 5 (by omega)).1
      have z0 := (ht 0 (by omega)).2
      have z1 := (ht 1 (by omega)).2
      have z2 := (ht 2 (by omega)).2
      have z3 := (ht 3 (by omega)).2
      have z4 := (ht 4 (by omega)).2
      have z5 := (ht 5 (by omega)).2
      have t0 : wr.cell? ⟨w.heap.size + 1, k * 6, none⟩ = some o0 := t0
      have z0 : wr.frozen? ⟨w.heap.size + 1, k * 6, none⟩ = false := z0
      have hlw : w.heap.size + 1 < wr.heap.size := World.block_lt_of_cell? wr _ t0
      generalize ks[k] = p at *
      obtain ⟨nm, y⟩ := p
      have HS : Hid (∀ o : Obj, Filled ((wr.setCells (w.heap.size + 1) (k * 6) y.cells).alloc o) (w.heap.size + 1) (ks.length * 6) (mcells ((ks.take (k + 1)).map (·.2))) ∧ Fresh w ((wr.setCells (w.heap.size + 1) (k * 6) y.cells).alloc o)) := fun o => by
        have := HF.out.step y.cells (by rw [HP.out, cells_length]; omega)
        rw [HP.out] at this
        exact ⟨by rw [HT.out, mcells_snoc]; exact this.move (Below.heap_alloc _ _ _ (by rw [setCells_size]; exact hlw)), (Fresh.setCells (by omega) _ _ HW.out).alloc o⟩
      obtain ⟨yk, yf, yn, ys, yla, ylc, yl, yka, ykc, yks⟩ := y
      obtain ⟨c0, c1, c2, c3, c4, c5⟩ := hc
      dsimp only at c
      dsimp only [M.cells] at HS
      simp only [sixSet_eq] at HS
      generalize yl.length = yln at *
      generalize yks.length = ykn at *
      have HE := Lib.hid (HS.out (.cells #[.string nm, .int .i64 yk, .bool yf, .int .i64 yn, .string ys, .slice yla yln ylc, .slice yka ykn ykc] 54))
      unfold sixSet at HE
      clear ht HF HT HP HS
      go_wp2
      go_roundw
      case rel => exact ⟨k + 1, by omega, by go_num, HE.out.1, HE.out.2⟩
      case measure => simp [intOf]; omega
    · obtain rfl : k = ks.length := by omega
      go_wp2
      go_ret
      refine ⟨some ⟨w.heap.size + 1, 0, none⟩, ks.length, ?_, ?_, HW.out, .inr fun ad h => by cases h; exact Nat.le_succ _⟩
      · show _ = Ending.returned (.slice _ (M.inside _).length _)
        simp [M.inside, M.kind, M.keys]
      · have := HF.out.done
        rw [List.take_length] at this
        refine .inr ⟨_, rfl, ?_⟩
        simpa [M.inside, M.kind, M.keys] using this
set_option maxRecDepth 100000 in
theorem inside_keys_nil (f : Bool) (n : Int) (s : ByteArray) (la : Option Addr) (lc : Nat) (l : List M) (kc : Nat) (w : World) :
    Calls Tryz.prog 39 #[(M.mk 5 f n s la lc l none kc []).val] w (InsideIs (.mk 5 f n s la lc l none kc []) w) := by
  obtain ⟨i0, hi, hz0, hz1, hz2⟩ := info_parts info29
  obtain ⟨Z, hZ⟩ : ∃ Z : Array Value, ∀ W, (Instr.makeSlice 24 (.int .i64 0) (.int .i64 0)).run Tryz.prog W = .ok (.slice (some ⟨W.heap.size, 0, none⟩) 0 0) (W.alloc (.cells Z 27)) := by
    refine ⟨_, fun W => Go.run_makeSlice (P := Tryz.prog) W 24 27 i0 _ Tryz.underlying24 hi hz0 .i64 .i64 0 0 (by omega) (Int.le_refl _) (by simp) (by simp) (by omega)⟩
  clear hi hz0 hz1 hz2
  dsimp only [M.val, List.length_nil]
  generalize hln : l.length = ln
  clear hln
  go_enter Tryz.func39, Tryz.ntmps39
  go_wp2
  go_loop [21] (fun i => i = .int .i64 0) (fun _ => 0)
  case atStart => rfl
  case round =>
    obtain rfl := hrel
    go_wp2
    go_ret
    exact ⟨some ⟨w.heap.size + 1, 0, none⟩, 0, rfl, .inr ⟨_, rfl, fun j x hj => by simp [M.inside, M.kind, M.keys, mcells] at hj⟩, ((Fresh.refl w).alloc _).alloc _, .inr fun ad h => by cases h; exact Nat.le_succ _⟩
theorem inside_any (m : M) (w : World) (h : m.At w) : Calls Tryz.prog 39 #[m.val] w (InsideIs m w) := by
  obtain ⟨k, f, n, s, la, lc, l, ka, kc, ks⟩ := m
  obtain ⟨_, hl, hk, _, lk, _⟩ := h.parts
  by_cases h4 : k = 4
  · subst h4; exact inside_list f n s la lc l ka kc ks w hl
  by_cases h5 : k = 5
  · subst h5
    rcases hk with ⟨rfl, e⟩ | ⟨g, rfl, hk⟩
    · have e2 : ks = [] := by
        cases ks with
        | nil => rfl
        | cons p ks => simp [pcells, pcellsOf] at e
      subst e2
      exact inside_keys_nil f n s la lc l kc w
    · exact inside_keys f n s la lc l g kc ks w (.inr ⟨g, rfl, hk⟩) lk
  · exact inside_none k f n s la lc l ka kc ks w h4 h5

/-! ### appends -/
theorem RowAt.grown {w w' : World} {a : Option Addr} {cs : List Value} {r : Option Nat} (h : RowAt w a cs) (hg : w.grownBy w' r) (hne : ∀ ad : Addr, a = some ad → some ad.block ≠ r) : RowAt w' a cs := by
  rcases h with h | ⟨g, e, h⟩
  · exact .inl h
  · exact .inr ⟨g, e, fun j x hj => hg.cell (h j x hj) (hne ⟨g, 0, Option.none⟩ e)⟩
theorem RowAt.lt {w : World} {a : Option Addr} {cs : List Value} (h : RowAt w a cs) (hc : cs ≠ []) : ∀ ad : Addr, a = some ad → ad.block < w.heap.size := by
  intro ad e
  rcases h with ⟨_, h⟩ | ⟨g, e', h⟩
  · exact absurd h hc
  · rw [e] at e'; cases e'
    obtain ⟨x, hx⟩ : ∃ x, cs[0]? = some x := by
      cases cs with
      | nil => exact absurd rfl hc
      | cons a l => exact ⟨a, rfl⟩
    exact World.block_lt_of_cell? w _ (h 0 x hx)
/-- What an append wants to know. -/
structure Ready (B : Nat) (t : TypeId) (k : Nat) (W : World) (v : Value) (n : Nat) (xs : List Value) (X : Nat) (news : List Value) : Prop where
  own : W.ownsRow B t k v n xs
  box : ∀ j x, news[j]? = some x → W.cell? ((⟨X, 0, none⟩ : Addr).add j) = some x
  low : B ≤ W.heap.size
theorem Ready.mk' {B : Nat} {t : TypeId} {k : Nat} {W : World} {v : Value} {n : Nat} {xs : List Value} (cs : Array Value) (t' : TypeId) (h : W.ownsRow B t k v n xs) (hb : B ≤ W.heap.size) : Ready B t k (W.alloc (.cells cs t')) v n xs W.heap.size cs.toList :=
  ⟨World.ownsRow.alloc h _, World.news_of_block (at_new W (.cells cs t')), by rw [World.size_alloc]; omega⟩
theorem cells_one (m : M) : ∀ u ∈ m.cells, u.oneCell' = true := by
  obtain ⟨k, f, n, s, la, lc, l, ka, kc, ks⟩ := m
  intro u hu
  simp only [M.cells, List.mem_cons, List.not_mem_nil, or_false] at hu
  rcases hu with rfl | rfl | rfl | rfl | rfl | rfl <;> rfl
end Go.Proofs.YthhdadfnkdjmkaaGreatDoor.v
