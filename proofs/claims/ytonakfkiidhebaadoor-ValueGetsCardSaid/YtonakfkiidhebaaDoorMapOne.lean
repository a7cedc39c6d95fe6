/-
  Package value: Map, of a row of pairs.
-/
import Derived.Test.YtonakfkiidhebaaDoorRget
import Derived.Test.YtonakfkiidhebaaDoorAwake
namespace Go.Proofs.YtonakfkiidhebaaDoor
open Go.ChangeShapes Go.WideShapes Go.ChangeAt Go.RowKit
/-- Clone of a row of pairs: a row of the call's own. -/
theorem pclone_any (l : List (ByteArray × M)) (g c : Nat) (w : World) (h : RowAt w (some ⟨g, 0, none⟩) (pcells l)) (hne : 0 < l.length) (hl : l.length ≤ 1000000) :
    Calls Tryd.prog 34 #[.slice (some ⟨g, 0, none⟩) l.length c] w fun e w' => (∃ a c', e = .returned (.slice a l.length c') ∧ RowAt w' a (pcells l) ∧ ∀ ad : Addr, a = some ad → w.heap.size ≤ ad.block) ∧ Fresh w w' := by
  obtain ⟨i0, z0, hi, hz0, hzc, hz1, hz2⟩ := info_seven info54
  have hbox : ∀ j x, (pcells l)[j]? = some x → (w.alloc (.cells #[] 54)).cell? ((⟨g, 0, none⟩ : Addr).add j) = some x := fun j x hj => by
    rw [addr_add0]
    rcases h with ⟨e, _⟩ | ⟨g', e, h⟩
    · cases e
    · cases e
      exact ((Fresh.refl w).alloc _).cell (h j x hj)
  have hone : ∀ u ∈ pcells l, u.oneCell' = true := fun u hu => by
    unfold pcells at hu
    rw [List.mem_flatMap] at hu
    obtain ⟨m, _, hu⟩ := hu
    rcases List.mem_cons.1 hu with rfl | hu
    · rfl
    · exact cells_one m.2 u hu
  have hown : Hid ((w.alloc (.cells #[] 54)).ownsRow w.heap.size 54 7 (.slice (some ⟨w.heap.size, 0, none⟩) 0 0) 0 []) :=
    ⟨rfl, .inr ⟨w.heap.size, 0, #[], rfl, Nat.le_refl _, at_new w _, Nat.le_refl _, by unfold maxLen; omega, rfl, rfl⟩⟩
  have HB := Lib.hid hbox
  have HO := Lib.hid hone
  have hlen : Hid ((pcells l).length = l.length * 7) := pcells_length l
  have hm1 : 0 + l.length ≤ maxLen := by unfold maxLen; omega
  have hm2 : (0 + l.length) * 104 ≤ 140737488355328 := by omega
  have hnil := fun w => Lib.run_eql_slice_nil (P := Tryd.prog) w 27 54 (some ⟨g, 0, none⟩) l.length c 0 0 Tryd.underlying27
  clear h hbox hone
  go_enter Tryd.func34, Tryd.ntmps34
  go_wp2_with (first
    | (at_builtin; refine wpList_append_lies _ rfl _ _ 27 rfl w.heap.size 54 i0 _ 7 104 Tryd.underlying27 hi hz0 hz1 hz2 hzc (by decide) (.slice (some ⟨w.heap.size, 0, none⟩) 0 0) 0 [] rfl hown.out ⟨g, 0, none⟩ l.length c (pcells l) rfl hlen.out HB.out HO.out hne hm1 hm2 (by rw [World.size_alloc]; omega) _ rfl ?_; intro g' cap' w5 hown5 hgrow5 hat5 hlt5; have HW := Lib.hid hown5; have HG := Lib.hid hgrow5; clear hown5 hgrow5 hat5 hlt5)
    | go_in)
  go_ret
  exact ⟨⟨some ⟨g', 0, none⟩, cap', rfl, RowAt.owns HW.out, fun ad h => by cases h; exact (HW.out.lt g' rfl).1⟩, ((Fresh.refl w).alloc _).grown HG.out (fun k e => by cases e; exact Nat.le_refl _)⟩
theorem map_any (l : List (ByteArray × M)) (g c : Nat) (w : World) (h : RowAt w (some ⟨g, 0, none⟩) (pcells l)) (hne : 0 < l.length) (hl : l.length ≤ 1000000) :
    Calls Tryd.prog 22 #[.slice (some ⟨g, 0, none⟩) l.length c] w fun e w' => (∃ a c', e = .returned (M.mk 5 false 0 ⟨#[]⟩ none 0 [] a c' l).val ∧ RowAt w' a (pcells l)) ∧ Fresh w w' := by
  have HQ := Lib.hid (pclone_any l g c (w.alloc (.cells #[.int .i64 0, .bool false, .int .i64 0, .string ⟨#[]⟩, .slice none 0 0, .slice none 0 0] 29)) (h.move ((Fresh.refl w).alloc _)) hne hl)
  clear h hne hl
  dsimp only [M.val, List.length_nil]
  generalize l.length = ln at *
  go_enter Tryd.func22, Tryd.ntmps22
  go_wp2_with fail
  refine HQ.out.mono ?_
  rintro e w1 ⟨⟨a, c', rfl, hr, hsep⟩, hf⟩
  have hb := hf.at (at_new w _)
  have hF := Lib.hid (((Fresh.refl w).alloc _).trans hf)
  have HR := Lib.hid hr
  have HB := Lib.hid hb
  obtain ⟨b0, b1, b2, b3, b4, b5⟩ := box6' hb
  have hz : w.heap.size < w1.heap.size := World.block_lt_of_cell? w1 _ b0
  have z0 : w1.frozen? ⟨w.heap.size, 0, none⟩ = false := by simp [World.frozen?, hb]
  have z1 : w1.frozen? ⟨w.heap.size, 1, none⟩ = false := by simp [World.frozen?, hb]
  have z2 : w1.frozen? ⟨w.heap.size, 2, none⟩ = false := by simp [World.frozen?, hb]
  have z3 : w1.frozen? ⟨w.heap.size, 3, none⟩ = false := by simp [World.frozen?, hb]
  have z4 : w1.frozen? ⟨w.heap.size, 4, none⟩ = false := by simp [World.frozen?, hb]
  have z5 : w1.frozen? ⟨w.heap.size, 5, none⟩ = false := by simp [World.frozen?, hb]
  have HSEP := Lib.hid hsep
  clear hf hr hb hsep
  go_wp2
  refine bodyPost_ret (v := mval 5 false 0 ⟨#[]⟩ none 0 0 a ln c') (by simp [results, Tryd.results22, go_sem, *]) rfl ⟨⟨a, c', rfl, ?_⟩, ?_⟩
  · refine HR.out.grown (grown_setCells w.heap.size [.int .i64 5, .bool false, .int .i64 0, .string ⟨#[]⟩, .slice none 0 0, .slice a ln c'] 0 w1) (fun ad e h => ?_)
    have := HSEP.out ad e
    rw [World.size_alloc] at this
    injection h with h
    omega
  · exact Fresh.setCells (Nat.le_refl _) [.int .i64 5, .bool false, .int .i64 0, .string ⟨#[]⟩, .slice none 0 0, .slice a ln c'] 0 hF.out
end Go.Proofs.YtonakfkiidhebaaDoor
