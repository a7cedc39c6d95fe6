/-
  Package value: Of, Whole, Yes, Row, Map; the document's example.
-/
import Derived.Test.YtonakfkiidhebaaDoorDepth
import Derived.Test.YtonakfkiidhebaaDoorFault
import Derived.RegionTactic
import Derived.Lib.SliceRun
namespace Go.Proofs.YtonakfkiidhebaaDoor
open Go.ChangeShapes Go.WideShapes Go.ChangeAt Go.RowKit
variable {w : World}

def M.ofText (s : ByteArray) : M := .mk 3 false 0 s none 0 [] none 0 []
def M.ofInt (n : Int) : M := .mk 2 false n ⟨#[]⟩ none 0 [] none 0 []
def M.ofFlag (b : Bool) : M := .mk 1 b 0 ⟨#[]⟩ none 0 [] none 0 []
theorem of_any (s : ByteArray) (w : World) : Calls Tryd.prog 18 #[.string s] w fun e w' => e = .returned (M.ofText s).val ∧ Fresh w w' := by
  go_enter Tryd.func18, Tryd.ntmps18
  go_wp2
  exact bodyPost_ret (v := (M.ofText s).val) (by simp [results, Tryd.results18, go_sem, M.ofText, M.val]) rfl ⟨rfl, (Fresh.refl w).alloc _⟩
theorem whole_any (n : Int) (w : World) : Calls Tryd.prog 19 #[.int .i64 n] w fun e w' => e = .returned (M.ofInt n).val ∧ Fresh w w' := by
  go_enter Tryd.func19, Tryd.ntmps19
  go_wp2
  exact bodyPost_ret (v := (M.ofInt n).val) (by simp [results, Tryd.results19, go_sem, M.ofInt, M.val]) rfl ⟨rfl, (Fresh.refl w).alloc _⟩
theorem yes_any (b : Bool) (w : World) : Calls Tryd.prog 20 #[.bool b] w fun e w' => e = .returned (M.ofFlag b).val ∧ Fresh w w' := by
  go_enter Tryd.func20, Tryd.ntmps20
  go_wp2
  exact bodyPost_ret (v := (M.ofFlag b).val) (by simp [results, Tryd.results20, go_sem, M.ofFlag, M.val]) rfl ⟨rfl, (Fresh.refl w).alloc _⟩
theorem at_flat {k : Int} {f : Bool} {n : Int} {s : ByteArray} (w : World) (hs : s.size ≤ 1000000) : (M.mk k f n s none 0 [] none 0 []).At w :=
  .mk hs (.nil w) (.nil w) (by simp) (by simp) (fun _ h => by cases h) (fun _ h => by cases h) (fun _ h => by cases h)
/-- Clone of a list: a row of the call's own. -/
theorem clone_any (l : List M) (g c : Nat) (w : World) (h : RowAt w (some ⟨g, 0, none⟩) (mcells l)) (hne : 0 < l.length) (hl : l.length ≤ 1000000) :
    Calls Tryd.prog 33 #[.slice (some ⟨g, 0, none⟩) l.length c] w fun e w' => (∃ a c', e = .returned (.slice a l.length c') ∧ RowAt w' a (mcells l) ∧ ∀ ad : Addr, a = some ad → w.heap.size ≤ ad.block) ∧ Fresh w w' := by
  obtain ⟨i0, hi, hz0, hz1, hz2⟩ := info_parts info29
  have hbox : ∀ j x, (mcells l)[j]? = some x → (w.alloc (.cells #[] 29)).cell? ((⟨g, 0, none⟩ : Addr).add j) = some x := fun j x hj => by
    rw [addr_add0]
    rcases h with ⟨e, _⟩ | ⟨g', e, h⟩
    · cases e
    · cases e
      exact ((Fresh.refl w).alloc _).cell (h j x hj)
  have hone : ∀ u ∈ mcells l, u.oneCell' = true := fun u hu => by
    unfold mcells at hu
    rw [List.mem_flatMap] at hu
    obtain ⟨m, _, hu⟩ := hu
    exact cells_one m u hu
  have hown : Hid ((w.alloc (.cells #[] 29)).ownsRow w.heap.size 29 6 (.slice (some ⟨w.heap.size, 0, none⟩) 0 0) 0 []) :=
    ⟨rfl, .inr ⟨w.heap.size, 0, #[], rfl, Nat.le_refl _, at_new w _, Nat.le_refl _, by unfold maxLen; omega, rfl, rfl⟩⟩
  have HB := Lib.hid hbox
  have HO := Lib.hid hone
  have hlen : Hid ((mcells l).length = l.length * 6) := mcells_length l
  have hm1 : 0 + l.length ≤ maxLen := by unfold maxLen; omega
  have hm2 : (0 + l.length) * 88 ≤ 140737488355328 := by omega
  have hnil := fun w => Lib.run_eql_slice_nil (P := Tryd.prog) w 26 29 (some ⟨g, 0, none⟩) l.length c 0 0 Tryd.underlying26
  clear h hbox hone
  go_enter Tryd.func33, Tryd.ntmps33
  go_wp2_with (first
    | (at_builtin; refine wpList_append_lies _ rfl _ _ 26 rfl w.heap.size 29 i0 _ 6 88 Tryd.underlying26 hi hz0 hz1 hz2 rfl (by decide) (.slice (some ⟨w.heap.size, 0, none⟩) 0 0) 0 [] rfl hown.out ⟨g, 0, none⟩ l.length c (mcells l) rfl hlen.out HB.out HO.out hne hm1 hm2 (by rw [World.size_alloc]; omega) _ rfl ?_; intro g' cap' w5 hown5 hgrow5 hat5 hlt5; have HW := Lib.hid hown5; have HG := Lib.hid hgrow5; clear hown5 hgrow5 hat5 hlt5)
    | go_in)
  go_ret
  exact ⟨⟨some ⟨g', 0, none⟩, cap', rfl, RowAt.owns HW.out, fun ad h => by cases h; exact (HW.out.lt g' rfl).1⟩, ((Fresh.refl w).alloc _).grown HG.out (fun k e => by cases e; exact Nat.le_refl _)⟩
theorem grown_setCells (g : Nat) : ∀ (vs : List Value) (o : Nat) (w : World), w.grownBy (w.setCells g o vs) (some g)
  | [], _, _ => ⟨rfl, rfl, rfl, Nat.le_refl _, fun _ _ _ => rfl⟩
  | v :: vs, o, w => by
    have h1 := grown_set w g o v
    have h2 := grown_setCells g vs (o + 1) (w.setCell ⟨g, o, none⟩ v)
    exact ⟨h2.os.trans h1.os, h2.tape.trans h1.tape, h2.output.trans h1.output, Nat.le_trans h1.size h2.size, fun k hk hne => (h2.block k (Nat.lt_of_lt_of_le hk h1.size) hne).trans (h1.block k hk hne)⟩
theorem row_any (l : List M) (g c : Nat) (w : World) (h : RowAt w (some ⟨g, 0, none⟩) (mcells l)) (hne : 0 < l.length) (hl : l.length ≤ 1000000) :
    Calls Tryd.prog 21 #[.slice (some ⟨g, 0, none⟩) l.length c] w fun e w' => (∃ a c', e = .returned (M.mk 4 false 0 ⟨#[]⟩ a c' l none 0 []).val ∧ RowAt w' a (mcells l)) ∧ Fresh w w' := by
  have HQ := Lib.hid (clone_any l g c (w.alloc (.cells #[.int .i64 0, .bool false, .int .i64 0, .string ⟨#[]⟩, .slice none 0 0, .slice none 0 0] 29)) (h.move ((Fresh.refl w).alloc _)) hne hl)
  clear h hne hl
  dsimp only [M.val, List.length_nil]
  generalize l.length = ln at *
  go_enter Tryd.func21, Tryd.ntmps21
  go_wp2_with fail
  refine HQ.out.mono ?_
  rintro e w1 ⟨⟨a, c', rfl, hr, hsep⟩, hf⟩
  have hb := hf.at (at_new w _)
  have hF := Lib.hid (((Fresh.refl w).alloc _).trans hf)
  have HR := Lib.hid hr
  have HB := Lib.hid hb
  obtain ⟨b0, b1, b2, b3, b4, b5⟩ := box6' hb
  have hz : w.heap.size < w1.heap.size := World.block_lt_of_cell? w1 _ b0
  have z0 : w1.frozen? ⟨w.heap.size, 0, none⟩ = false := by simp [World.frozen?, hb]
  have z1 : w1.frozen? ⟨w.heap.size, 1, none⟩ = false := by simp [World.frozen?, hb]
  have z2 : w1.frozen? ⟨w.heap.size, 2, none⟩ = false := by simp [World.frozen?, hb]
  have z3 : w1.frozen? ⟨w.heap.size, 3, none⟩ = false := by simp [World.frozen?, hb]
  have z4 : w1.frozen? ⟨w.heap.size, 4, none⟩ = false := by simp [World.frozen?, hb]
  have z5 : w1.frozen? ⟨w.heap.size, 5, none⟩ = false := by simp [World.frozen?, hb]
  have HSEP := Lib.hid hsep
  clear hf hr hb hsep
  go_wp2
  refine bodyPost_ret (v := mval 4 false 0 ⟨#[]⟩ a ln c' none 0 0) (by simp [results, Tryd.results21, go_sem, *]) rfl ⟨⟨a, c', rfl, ?_⟩, ?_⟩
  · refine HR.out.grown (grown_setCells w.heap.size [.int .i64 4, .bool false, .int .i64 0, .string ⟨#[]⟩, .slice a ln c', .slice none 0 0] 0 w1) (fun ad e h => ?_)
    have := HSEP.out ad e
    rw [World.size_alloc] at this
    injection h with h
    omega
  · exact Fresh.setCells (Nat.le_refl _) [.int .i64 4, .bool false, .int .i64 0, .string ⟨#[]⟩, .slice a ln c', .slice none 0 0] 0 hF.out
theorem clone_nil (w : World) : Calls Tryd.prog 34 #[.slice none 0 0] w fun e w' => e = .returned (.slice none 0 0) ∧ w = w' := by
  have hnil := fun w => Lib.run_eql_slice_nil (P := Tryd.prog) w 27 54 none 0 0 0 0 Tryd.underlying27
  go_enter Tryd.func34, Tryd.ntmps34
  go_wp2
  go_ret
  exact ⟨rfl, rfl⟩
theorem map_nil (w : World) : Calls Tryd.prog 22 #[.slice none 0 0] w fun e w' => e = .returned (M.mk 5 false 0 ⟨#[]⟩ none 0 [] none 0 []).val ∧ Fresh w w' := by
  go_enter Tryd.func22, Tryd.ntmps22
  go_wp2_with fail
  refine (clone_nil _).mono ?_
  rintro e w1 ⟨rfl, rfl⟩
  go_wp2
  exact bodyPost_ret (v := (M.mk 5 false 0 ⟨#[]⟩ none 0 [] none 0 []).val) (by simp [results, Tryd.results22, go_sem, M.val]) rfl ⟨rfl, (Fresh.refl w).alloc _⟩
/-- The document's example. -/
theorem awake_any (w : World) (hT : Tabs w) : Calls Tryd.prog 7 #[] w fun e w' => e = .returned (.bool true) ∧ Fresh w w' := by
  have HW1 := Lib.hid (fun W => whole_any 1 W)
  have HW2 := Lib.hid (fun W => map_nil W)
  have HW3 : Hid (∀ (W : World) (b : Nat), W.heap[b]? = some (.cells #[.int .i64 2, .bool false, .int .i64 1, .string ⟨#[]⟩, .slice none 0 0, .slice none 0 0, .int .i64 5, .bool false, .int .i64 0, .string ⟨#[]⟩, .slice none 0 0, .slice none 0 0] 29) → Calls Tryd.prog 21 #[.slice (some ⟨b, 0, none⟩) 2 2] W fun e w' => (∃ a c', e = .returned (M.mk 4 false 0 ⟨#[]⟩ a c' [M.ofInt 1, .mk 5 false 0 ⟨#[]⟩ none 0 [] none 0 []] none 0 []).val ∧ RowAt w' a (mcells [M.ofInt 1, .mk 5 false 0 ⟨#[]⟩ none 0 [] none 0 []])) ∧ Fresh W w') := fun W b hb =>
    row_any [M.ofInt 1, .mk 5 false 0 ⟨#[]⟩ none 0 [] none 0 []] b 2 W (.inr ⟨b, rfl, fun j x hj => cell_of_at hb (by simpa [mcells, M.cells, M.ofInt] using hj)⟩) (by decide) (by decide)
  have HW4 : Hid (∀ (W : World) (a : Option Addr) (c : Nat), RowAt W a (mcells [M.ofInt 1, .mk 5 false 0 ⟨#[]⟩ none 0 [] none 0 []]) → Calls Tryd.prog 11 #[(M.mk 4 false 0 ⟨#[]⟩ a c [M.ofInt 1, .mk 5 false 0 ⟨#[]⟩ none 0 [] none 0 []] none 0 []).val] W fun e w' => e = .returned (.int .i64 2) ∧ Fresh W w') := fun W a c hr => by
    have := depth_any (M.mk 4 false 0 ⟨#[]⟩ a c [M.ofInt 1, .mk 5 false 0 ⟨#[]⟩ none 0 [] none 0 []] none 0 []) W
      (.mk (by decide) hr (.nil W) (by simp) (by simp) (fun _ h => by cases h) (fun m hm => by
        rcases List.mem_cons.1 hm with rfl | hm
        · exact at_flat W (by decide)
        · rw [List.mem_singleton] at hm; subst hm; exact at_flat W (by decide)) (fun _ h => by cases h)) (by simp [M.plain, plainL, plainK, M.ofInt, V.size, sizeL, sizeK])
    have e : (M.mk 4 false 0 ⟨#[]⟩ a c [M.ofInt 1, .mk 5 false 0 ⟨#[]⟩ none 0 [] none 0 []] none 0 []).plain.depth = 2 := by simp [M.plain, plainL, plainK, M.ofInt, V.depth, depthL, depthK]
    rw [e] at this
    exact this
  have HW5 := Lib.hid (fun W => of_any ⟨#[120]⟩ W)
  have HW6 : Hid (∀ W, Tabs W → Calls Tryd.prog 9 #[(M.ofText ⟨#[120]⟩).val] W fun e w' => e = .returned (.int .i64 0) ∧ Fresh W w') := fun W hT => by
    have := check_any (M.ofText ⟨#[120]⟩) W hT (at_flat W (by decide))
    have e : (M.ofText ⟨#[120]⟩).plain.check = 0 := by
      have h1 : (M.ofText ⟨#[120]⟩).plain.depth = 0 := by simp [M.ofText, M.plain, V.depth]
      have h2 : (M.ofText ⟨#[120]⟩).plain.own = 0 := by
        have : textW ⟨#[120]⟩ = 0 := by
          unfold textW
          rw [if_pos (by decide), if_neg (by decide)]
        simp [M.ofText, M.plain, V.own, V.kind, V.text, this]
      rw [V.check, h1, if_neg (by omega), wrong_eq, h2, if_neg (by simp)]
      simp [M.ofText, M.plain, V.inside, V.kind, wrongL]
    rw [e] at this
    exact this
  have HT := Lib.hid hT
  clear hT
  dsimp only [M.val, M.ofInt, M.ofText, List.length_nil, List.length_cons] at HW1 HW2 HW3 HW4 HW5 HW6
  go_enter Tryd.func7, Tryd.ntmps7
  go_wp2_with fail
  refine (HW1.out _).mono ?_
  rintro e w1 ⟨rfl, hf1⟩
  have HF1 := Lib.hid hf1
  clear hf1
  go_wp2_with fail
  refine (HW2.out _).mono ?_
  rintro e w2 ⟨rfl, hf2⟩
  have HF2 := Lib.hid (HF1.out.trans hf2)
  clear hf2
  go_wp2_with fail
  refine (HW3.out _ _ (at_new w2 _)).mono ?_
  rintro e w3 ⟨⟨a, c, rfl, hr⟩, hf3⟩
  have HF3 := Lib.hid ((HF2.out.alloc _).trans hf3)
  have HR := Lib.hid hr
  clear hf3 hr
  go_wp2_with fail
  refine (HW4.out _ a c HR.out).mono ?_
  rintro e w4 ⟨rfl, hf4⟩
  have HF4 := Lib.hid (HF3.out.trans hf4)
  clear hf4
  go_wp2_with fail
  refine (HW5.out _).mono ?_
  rintro e w5 ⟨rfl, hf5⟩
  have HF5 := Lib.hid (HF4.out.trans hf5)
  clear hf5
  go_wp2_with fail
  refine (HW6.out _ (HT.out.move HF5.out)).mono ?_
  rintro e w6 ⟨rfl, hf6⟩
  go_wp2
  go_ret
  exact ⟨rfl, HF5.out.trans hf6⟩
end Go.Proofs.YtonakfkiidhebaaDoor
