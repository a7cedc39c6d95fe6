/-
  slices.Clone at texts, ports, variables and containers: the same, in a row of its own.
  A copy of a text is that text.
  Small functions of package spec that read no table.
  A container with its defaults, by package spec.
  A container with its defaults, by package spec: walked.
  A pod with its defaults, by package spec: what stands between the steps.
-/
import Derived.Test.YtfhhmajkacjbgaaDoorDck01
import Derived.Deep.Onto
import Derived.Lib.SliceRun
import Derived.Lib.UnsafeStr
import Derived.Lib.BufferWrite
import Derived.Lib.Walk
import Derived.Laws.BitsAllLaws
import Derived.RegionTactic
import Derived.Deep.RegionHeld3
import Derived.Deep.Cut
namespace Go.Proofs.YtfhhmajkacjbgaaDoor
open Go.ChangeShapes Go.WideShapes Go.ChangeAt Go.RowKit

theorem infoSP : (Tryd.prog.info? 55).map (fun i => (i.zero, i.size, i.bytes)) = some (some (.agg #[.int .i64 0, .int .i64 0]), 2, 16) := by kernel_rfl
theorem infoSE : (Tryd.prog.info? 64).map (fun i => (i.zero, i.size, i.bytes)) = some (some (.agg #[.string ⟨#[]⟩, .string ⟨#[]⟩]), 2, 32) := by kernel_rfl
theorem infoSC : (Tryd.prog.info? 53).map (fun i => (i.zero, i.size, i.bytes)) = some (some (.agg #[.string ⟨#[]⟩, .string ⟨#[]⟩, .slice none 0 0, .slice none 0 0, .int .i64 0, .int .i64 0, .slice none 0 0]), 7, 120) := by kernel_rfl
theorem own_shape {w : World} {B e k n : Nat} {v : Value} {xs : List Value} (h : w.ownsRow B e k v n xs) : ∃ o c, v = .slice o n c := by
  rcases h.2 with ⟨h1, h2⟩ | ⟨g, cap, c2, h1, _⟩
  · exact ⟨none, 0, by rw [h1, h2]⟩
  · exact ⟨_, _, h1⟩
theorem row_news {w : World} {ad : Addr} {cs : List Value} (h : RowAt w (some ad) cs) : ∀ j u, cs[j]? = some u → w.cell? (ad.add j) = some u := fun j u hj => by
  rcases h with rfl | ⟨g, o, e, h⟩
  · simp at hj
  · cases e
    rw [addr_add]
    exact h j u hj
theorem tcells_one (l : List ByteArray) : ∀ u ∈ tcells l, u.oneCell' = true := fun u hu => by
  obtain ⟨x, _, hx⟩ := List.mem_flatMap.1 hu
  rw [List.mem_singleton.1 hx]; rfl
theorem pcells_one (l : List (Int × Int)) : ∀ u ∈ pcells l, u.oneCell' = true := fun u hu => by
  obtain ⟨x, _, hx⟩ := List.mem_flatMap.1 hu
  simp only [pcell, List.mem_cons, List.not_mem_nil, or_false] at hx
  rcases hx with rfl | rfl <;> rfl
theorem ecells_one (l : List (ByteArray × ByteArray)) : ∀ u ∈ ecells l, u.oneCell' = true := fun u hu => by
  obtain ⟨x, _, hx⟩ := List.mem_flatMap.1 hu
  simp only [ecell, List.mem_cons, List.not_mem_nil, or_false] at hx
  rcases hx with rfl | rfl <;> rfl
theorem ccells_one (l : List CM) : ∀ u ∈ ccells l, u.oneCell' = true := fun u hu => by
  obtain ⟨x, _, hx⟩ := List.mem_flatMap.1 hu
  simp only [CM.cells, List.mem_cons, List.not_mem_nil, or_false] at hx
  rcases hx with rfl | rfl | rfl | rfl | rfl | rfl | rfl <;> rfl
set_option maxRecDepth 100000 in
set_option maxHeartbeats 1000000 in
theorem cloneT_any (l : List ByteArray) (a : Option Addr) (c : Nat) (w : World) (h : RowAt w a (tcells l)) (hl : l.length ≤ 1048576) :
    Calls Tryd.prog 63 #[.slice a l.length c] w fun e w' => ∃ a' c', e = .returned (.slice a' l.length c') ∧ w'.ownsRow w.heap.size 9 1 (.slice a' l.length c') l.length (tcells l) ∧ Fresh w w' := by
  have HL : Hid ((tcells l).length = l.length * 1) := by rw [Hid, Nat.mul_one]; exact tcells_len l
  have HO := Lib.hid (tcells_one l)
  obtain ⟨i0, hi, hz0, hz1, hz2⟩ := info_parts info9
  have qn : ∀ (w : World) (a : Option Addr) (n c n' c' : Nat), (binOp .eql 45 (.slice a n c) (.slice none n' c')).run Tryd.prog w = .ok (.bool a.isNone) w := fun w a n c n' c' => Lib.run_eql_slice_nil w _ _ a n c n' c' Tryd.underlying45
  cases a with
  | none =>
    have h0 : l = [] := by
      rcases h with h | ⟨g, o, e, _⟩
      · have := HL.out
        rw [h, List.length_nil] at this
        exact List.eq_nil_of_length_eq_zero (by omega)
      · cases e
    subst h0
    go_enter Tryd.func63, Tryd.ntmps63
    go_wp2
    go_ret
    exact ⟨none, 0, rfl, World.ownsRow_nil _ _ _ _, Fresh.refl _⟩
  | some ad =>
    have HNEWS := Lib.hid (row_news (h.move ((Fresh.refl w).alloc (.cells #[] 9))))
    clear h
    generalize tcells l = xs at *
    generalize l.length = n at *
    go_enter Tryd.func63, Tryd.ntmps63
    go_wp2_with (at_builtin; refine Hid.out ?_)
    refine Lib.hid ?_
    refine wpList_append_own _ rfl _ _ 45 rfl w.heap.size 9 i0 (.string ⟨#[]⟩) 1 16 Tryd.underlying45 hi hz0 hz1 hz2 rfl (by decide) _ 0 _ rfl (World.ownsRow_made w #[] 0 (Nat.le_refl _) (Nat.zero_le _) rfl) ad n c xs rfl HL.out HNEWS.out HO.out (by unfold maxLen; omega) (by omega) (by rw [World.size_alloc]; omega) ?_
    intro v' w3 hown' hgrow _
    have hown2 : w3.ownsRow w.heap.size 9 1 v' n xs := by
      have := hown'
      rwa [Nat.zero_add, List.nil_append] at this
    obtain ⟨o', c', rfl⟩ := own_shape hown2
    have HOWN := Lib.hid hown2
    have HGROW := Lib.hid hgrow
    clear hown' hown2 hgrow
    go_wp2
    go_ret
    exact ⟨o', c', rfl, HOWN.out, ((Fresh.refl w).alloc _).grown HGROW.out (fun g e => Nat.le_of_eq (Option.some.inj e))⟩
set_option maxRecDepth 100000 in
set_option maxHeartbeats 1000000 in
theorem cloneP_any (l : List (Int × Int)) (a : Option Addr) (c : Nat) (w : World) (h : RowAt w a (pcells l)) (hl : l.length ≤ 1048576) :
    Calls Tryd.prog 64 #[.slice a l.length c] w fun e w' => ∃ a' c', e = .returned (.slice a' l.length c') ∧ w'.ownsRow w.heap.size 55 2 (.slice a' l.length c') l.length (pcells l) ∧ Fresh w w' := by
  have HL : Hid ((pcells l).length = l.length * 2) := pcells_len l
  have HO := Lib.hid (pcells_one l)
  obtain ⟨i0, hi, hz0, hz1, hz2⟩ := info_parts infoSP
  have qn : ∀ (w : World) (a : Option Addr) (n c n' c' : Nat), (binOp .eql 50 (.slice a n c) (.slice none n' c')).run Tryd.prog w = .ok (.bool a.isNone) w := fun w a n c n' c' => Lib.run_eql_slice_nil w _ _ a n c n' c' Tryd.underlying50
  cases a with
  | none =>
    have h0 : l = [] := by
      rcases h with h | ⟨g, o, e, _⟩
      · have := HL.out
        rw [h, List.length_nil] at this
        exact List.eq_nil_of_length_eq_zero (by omega)
      · cases e
    subst h0
    go_enter Tryd.func64, Tryd.ntmps64
    go_wp2
    go_ret
    exact ⟨none, 0, rfl, World.ownsRow_nil _ _ _ _, Fresh.refl _⟩
  | some ad =>
    have HNEWS := Lib.hid (row_news (h.move ((Fresh.refl w).alloc (.cells #[] 55))))
    clear h
    generalize pcells l = xs at *
    generalize l.length = n at *
    go_enter Tryd.func64, Tryd.ntmps64
    go_wp2_with (at_builtin; refine Hid.out ?_)
    refine Lib.hid ?_
    refine wpList_append_own _ rfl _ _ 50 rfl w.heap.size 55 i0 (.agg #[.int .i64 0, .int .i64 0]) 2 16 Tryd.underlying50 hi hz0 hz1 hz2 rfl (by decide) _ 0 _ rfl (World.ownsRow_made w #[] 0 (Nat.le_refl _) (Nat.zero_le _) rfl) ad n c xs rfl HL.out HNEWS.out HO.out (by unfold maxLen; omega) (by omega) (by rw [World.size_alloc]; omega) ?_
    intro v' w3 hown' hgrow _
    have hown2 : w3.ownsRow w.heap.size 55 2 v' n xs := by
      have := hown'
      rwa [Nat.zero_add, List.nil_append] at this
    obtain ⟨o', c', rfl⟩ := own_shape hown2
    have HOWN := Lib.hid hown2
    have HGROW := Lib.hid hgrow
    clear hown' hown2 hgrow
    go_wp2
    go_ret
    exact ⟨o', c', rfl, HOWN.out, ((Fresh.refl w).alloc _).grown HGROW.out (fun g e => Nat.le_of_eq (Option.some.inj e))⟩
set_option maxRecDepth 100000 in
set_option maxHeartbeats 1000000 in
theorem cloneE_any (l : List (ByteArray × ByteArray)) (a : Option Addr) (c : Nat) (w : World) (h : RowAt w a (ecells l)) (hl : l.length ≤ 1048576) :
    Calls Tryd.prog 65 #[.slice a l.length c] w fun e w' => ∃ a' c', e = .returned (.slice a' l.length c') ∧ w'.ownsRow w.heap.size 64 2 (.slice a' l.length c') l.length (ecells l) ∧ Fresh w w' := by
  have HL : Hid ((ecells l).length = l.length * 2) := ecells_len l
  have HO := Lib.hid (ecells_one l)
  obtain ⟨i0, hi, hz0, hz1, hz2⟩ := info_parts infoSE
  have qn : ∀ (w : World) (a : Option Addr) (n c n' c' : Nat), (binOp .eql 51 (.slice a n c) (.slice none n' c')).run Tryd.prog w = .ok (.bool a.isNone) w := fun w a n c n' c' => Lib.run_eql_slice_nil w _ _ a n c n' c' Tryd.underlying51
  cases a with
  | none =>
    have h0 : l = [] := by
      rcases h with h | ⟨g, o, e, _⟩
      · have := HL.out
        rw [h, List.length_nil] at this
        exact List.eq_nil_of_length_eq_zero (by omega)
      · cases e
    subst h0
    go_enter Tryd.func65, Tryd.ntmps65
    go_wp2
    go_ret
    exact ⟨none, 0, rfl, World.ownsRow_nil _ _ _ _, Fresh.refl _⟩
  | some ad =>
    have HNEWS := Lib.hid (row_news (h.move ((Fresh.refl w).alloc (.cells #[] 64))))
    clear h
    generalize ecells l = xs at *
    generalize l.length = n at *
    go_enter Tryd.func65, Tryd.ntmps65
    go_wp2_with (at_builtin; refine Hid.out ?_)
    refine Lib.hid ?_
    refine wpList_append_own _ rfl _ _ 51 rfl w.heap.size 64 i0 (.agg #[.string ⟨#[]⟩, .string ⟨#[]⟩]) 2 32 Tryd.underlying51 hi hz0 hz1 hz2 rfl (by decide) _ 0 _ rfl (World.ownsRow_made w #[] 0 (Nat.le_refl _) (Nat.zero_le _) rfl) ad n c xs rfl HL.out HNEWS.out HO.out (by unfold maxLen; omega) (by omega) (by rw [World.size_alloc]; omega) ?_
    intro v' w3 hown' hgrow _
    have hown2 : w3.ownsRow w.heap.size 64 2 v' n xs := by
      have := hown'
      rwa [Nat.zero_add, List.nil_append] at this
    obtain ⟨o', c', rfl⟩ := own_shape hown2
    have HOWN := Lib.hid hown2
    have HGROW := Lib.hid hgrow
    clear hown' hown2 hgrow
    go_wp2
    go_ret
    exact ⟨o', c', rfl, HOWN.out, ((Fresh.refl w).alloc _).grown HGROW.out (fun g e => Nat.le_of_eq (Option.some.inj e))⟩
set_option maxRecDepth 100000 in
set_option maxHeartbeats 1000000 in
theorem cloneC_any (l : List CM) (a : Option Addr) (c : Nat) (w : World) (h : RowAt w a (ccells l)) (hl : l.length ≤ 1048576) :
    Calls Tryd.prog 38 #[.slice a l.length c] w fun e w' => ∃ a' c', e = .returned (.slice a' l.length c') ∧ w'.ownsRow w.heap.size 53 7 (.slice a' l.length c') l.length (ccells l) ∧ Fresh w w' := by
  have HL : Hid ((ccells l).length = l.length * 7) := ccells_len l
  have HO := Lib.hid (ccells_one l)
  obtain ⟨i0, hi, hz0, hz1, hz2⟩ := info_parts infoSC
  have qn : ∀ (w : World) (a : Option Addr) (n c n' c' : Nat), (binOp .eql 23 (.slice a n c) (.slice none n' c')).run Tryd.prog w = .ok (.bool a.isNone) w := fun w a n c n' c' => Lib.run_eql_slice_nil w _ _ a n c n' c' Tryd.underlying23
  cases a with
  | none =>
    have h0 : l = [] := by
      rcases h with h | ⟨g, o, e, _⟩
      · have := HL.out
        rw [h, List.length_nil] at this
        exact List.eq_nil_of_length_eq_zero (by omega)
      · cases e
    subst h0
    go_enter Tryd.func38, Tryd.ntmps38
    go_wp2
    go_ret
    exact ⟨none, 0, rfl, World.ownsRow_nil _ _ _ _, Fresh.refl _⟩
  | some ad =>
    have HNEWS := Lib.hid (row_news (h.move ((Fresh.refl w).alloc (.cells #[] 53))))
    clear h
    generalize ccells l = xs at *
    generalize l.length = n at *
    go_enter Tryd.func38, Tryd.ntmps38
    go_wp2_with (at_builtin; refine Hid.out ?_)
    refine Lib.hid ?_
    refine wpList_append_own _ rfl _ _ 23 rfl w.heap.size 53 i0 (.agg #[.string ⟨#[]⟩, .string ⟨#[]⟩, .slice none 0 0, .slice none 0 0, .int .i64 0, .int .i64 0, .slice none 0 0]) 7 120 Tryd.underlying23 hi hz0 hz1 hz2 rfl (by decide) _ 0 _ rfl (World.ownsRow_made w #[] 0 (Nat.le_refl _) (Nat.zero_le _) rfl) ad n c xs rfl HL.out HNEWS.out HO.out (by unfold maxLen; omega) (by omega) (by rw [World.size_alloc]; omega) ?_
    intro v' w3 hown' hgrow _
    have hown2 : w3.ownsRow w.heap.size 53 7 v' n xs := by
      have := hown'
      rwa [Nat.zero_add, List.nil_append] at this
    obtain ⟨o', c', rfl⟩ := own_shape hown2
    have HOWN := Lib.hid hown2
    have HGROW := Lib.hid hgrow
    clear hown' hown2 hgrow
    go_wp2
    go_ret
    exact ⟨o', c', rfl, HOWN.out, ((Fresh.refl w).alloc _).grown HGROW.out (fun g e => Nat.le_of_eq (Option.some.inj e))⟩
end Go.Proofs.YtfhhmajkacjbgaaDoor
namespace Go.Proofs.YtfhhmajkacjbgaaDoor
open Go.ChangeShapes Go.WideShapes Go.ChangeAt Go.RowKit
theorem size5 : (Tryd.prog.info? 5).map (·.size) = some 1 := by kernel_rfl
theorem cells5 : Tryd.prog.cellsOf 5 = 1 := by kernel_rfl
/-- The row behind the copy holds just the bytes of s. -/
theorem copied (s : ByteArray) (M : Array Value) (hM : M.size = s.size) : (M.toList.take 0 ++ Lib.byteCells s.data.toList ++ M.toList.drop (0 + s.size)).toArray = (Lib.byteCells s.data.toList).toArray := by
  rw [List.take_zero, List.nil_append, List.drop_of_length_le (by rw [Array.length_toList]; omega), List.append_nil]
set_option maxRecDepth 100000 in
theorem slite_clone (s : ByteArray) (w : World) (hs : s.size ≤ 281474976710656) :
    Calls Tryd.prog 62 #[.string s] w fun e w' => e = .returned (.string s) ∧ Fresh w w' := by
  by_cases h0 : s.size = 0
  · obtain rfl : s = ⟨#[]⟩ := ByteArray.ext (Array.eq_empty_of_size_eq_zero h0)
    clear h0
    go_enter Tryd.func62, Tryd.ntmps62
    go_wp2
    go_ret
    exact ⟨rfl, Fresh.refl _⟩
  · have hmk := fun W => run_make_row' (P := Tryd.prog) 101 5 (.int .u8 0) 1 Tryd.underlying101 info5 rfl .i64 .i64 s.size (by omega) (by omega) W
    have hMs : (madeCells #[Value.int .u8 0] s.size).size = s.size := by rw [size_madeCells]
    generalize madeCells #[Value.int .u8 0] s.size = M at hmk hMs
    have hcp := Lib.run_copy_row_string (P := Tryd.prog) (w.alloc (.cells M 5)) 101 9 3 5 w.heap.size 0 s.size s.size s M 5 Tryd.underlying101 size5 (heap_alloc_new w _) (Nat.le_refl _) (by omega)
    rw [copied s M hMs] at hcp
    obtain ⟨Y, hY⟩ : ∃ Y, Y = (Lib.byteCells s.data.toList).toArray := ⟨_, rfl⟩
    rw [← hY] at hcp
    have hYs : Y.size = s.size := by rw [hY, List.size_toArray, Lib.byteCells_length, ← Lib.size_eq]
    have hgY : ((w.alloc (.cells M 5)).setRow w.heap.size Y).heap[w.heap.size]? = some (.cells Y 5 (0, 0)) := setRow_heap _ _ M _ 5 (0, 0) (heap_alloc_new w _)
    have hus := Lib.run_unsafeString_row (P := Tryd.prog) ((w.alloc (.cells M 5)).setRow w.heap.size Y) 110 3 9 5 Tryd.underlying110 cells5 w.heap.size Y.size (by unfold World.shape?; rw [hgY]) s.data.toList
      (fun e => h0 (by rw [Lib.size_eq, e]; rfl)) (by rw [← Lib.size_eq]; omega) (by rw [← Lib.size_eq]; omega)
      (fun j x hx => Lib.cells_of_row hgY Y.size j _ (by rw [List.take_of_length_le (by rw [Array.length_toList]; exact Nat.le_refl _), hY]; simp [Lib.byteCells, hx]))
    rw [← Lib.size_eq] at hus
    clear hY hgY
    go_enter Tryd.func62, Tryd.ntmps62
    go_wp2
    go_ret
    have hb2 : Below w.heap.size (w.alloc (.cells M 5)) ((w.alloc (.cells M 5)).setRow w.heap.size Y) := ⟨rfl, rfl, rfl, by simp, fun k hk => setRow_other _ _ _ _ (by omega)⟩
    exact ⟨rfl, Lib.below_freeze (((Below.refl _ w).alloc (Nat.le_refl _) _).trans hb2) (p := ⟨w.heap.size, 0, none⟩) (Nat.le_refl _) _⟩
set_option maxRecDepth 100000 in
theorem clone_any (s : ByteArray) (w : World) (hs : s.size ≤ 281474976710656) :
    Calls Tryd.prog 36 #[.string s] w fun e w' => e = .returned (.string s) ∧ Fresh w w' := by
  go_enter Tryd.func36, Tryd.ntmps36
  go_wp2_with fail
  refine (slite_clone _ _ hs).mono ?_
  rintro e w' ⟨rfl, hg⟩
  go_wp2
  go_ret
  exact ⟨rfl, hg⟩
end Go.Proofs.YtfhhmajkacjbgaaDoor
namespace Go.Proofs.YtfhhmajkacjbgaaDoor
open Go.ChangeShapes Go.WideShapes Go.ChangeAt Go.RowKit

theorem within_any (n m : Int) (w : World) : Calls Tryd.prog 30 #[.int .i64 n, .int .i64 m] w fun e w' => e = .returned (.bool (decide (1 ≤ n) && decide (n ≤ m))) ∧ w = w' := by
  go_enter Tryd.func30, Tryd.ntmps30
  go_wp2
  all_goals go_ret
  all_goals refine ⟨?_, rfl⟩
  all_goals refine ret_bool ?_
  all_goals rw [Bool.eq_iff_iff]
  all_goals simp only [Bool.and_eq_true, decide_eq_true_eq, Bool.false_eq_true, false_iff]
  all_goals omega
theorem orElse_any (n m : Int) (w : World) : Calls Tryd.prog 37 #[.int .i64 n, .int .i64 m] w fun e w' => e = .returned (.int .i64 (if n = 0 then m else n)) ∧ w = w' := by
  by_cases h : n = 0
  · subst h
    go_enter Tryd.func37, Tryd.ntmps37
    go_wp2
    go_ret
    exact ⟨ret_int (by simp), rfl⟩
  · have HX : Hid ((if n = 0 then m else n) = n) := by rw [Hid, if_neg h]
    have e0 : (n == 0) = false := by rw [beq_eq_false_iff_ne]; exact h
    generalize (if n = 0 then m else n) = x at *
    clear h
    go_enter Tryd.func37, Tryd.ntmps37
    go_wp2
    go_ret
    exact ⟨ret_int HX.out.symm, rfl⟩
theorem knownR_any (n : Int) (w : World) : Calls Tryd.prog 29 #[.int .i64 n] w fun e w' => e = .returned (.bool (decide (0 ≤ n) && decide (n < 3))) ∧ w = w' := by
  go_enter Tryd.func29, Tryd.ntmps29
  go_wp2
  all_goals go_ret
  all_goals refine ⟨?_, rfl⟩
  all_goals refine ret_bool ?_
  all_goals rw [Bool.eq_iff_iff]
  all_goals simp only [Bool.and_eq_true, decide_eq_true_eq, Bool.false_eq_true, false_iff]
  all_goals omega
theorem knownP_any (n : Int) (w : World) : Calls Tryd.prog 42 #[.int .i64 n] w fun e w' => e = .returned (.bool (decide (0 ≤ n) && decide (n < 2))) ∧ w = w' := by
  go_enter Tryd.func42, Tryd.ntmps42
  go_wp2
  all_goals go_ret
  all_goals refine ⟨?_, rfl⟩
  all_goals refine ret_bool ?_
  all_goals rw [Bool.eq_iff_iff]
  all_goals simp only [Bool.and_eq_true, decide_eq_true_eq, Bool.false_eq_true, false_iff]
  all_goals omega
end Go.Proofs.YtfhhmajkacjbgaaDoor
namespace Go.Proofs.YtfhhmajkacjbgaaDoor
open Go.ChangeShapes Go.WideShapes Go.ChangeAt Go.RowKit
attribute [local go_sem ↓] Go.wp_at_zero Go.wp_at_succ

/-- A container whose rows the call owns, from block B on. -/
structure QIn (W : World) (B : Nat) (m : CM) : Prop where
  cmd : W.ownsRow B 9 1 (.slice m.ca m.c.cmd.length m.cc) m.c.cmd.length (tcells m.c.cmd)
  ports : W.ownsRow B 55 2 (.slice m.pa m.c.ports.length m.pc) m.c.ports.length (pcells m.c.ports)
  env : W.ownsRow B 64 2 (.slice m.ea m.c.env.length m.ec) m.c.env.length (ecells m.c.env)
theorem own_fresh' {W W' : World} {B e k n : Nat} {v : Value} {xs : List Value} (h : W.ownsRow B e k v n xs) (f : Fresh W W') : W'.ownsRow B e k v n xs := by
  refine World.ownsRow.kept (row := none) h (f.grownBy' none) ?_
  rcases h' : v.ownBlock with _ | g
  · exact .inl rfl
  · exact .inr (by simp)
theorem own_set' {W : World} {B e k n : Nat} {v : Value} {xs : List Value} (h : W.ownsRow B e k v n xs) {p : Addr} (hp : p.block < B) (u : Value) : (W.setCell ⟨p.block, p.off, none⟩ u).ownsRow B e k v n xs := by
  refine World.ownsRow.kept h (grown_set W p.block p.off u) ?_
  rcases h' : v.ownBlock with _ | g
  · exact .inl rfl
  · refine .inr fun e2 => ?_
    have := (World.ownsRow.lt h g h').1
    have e3 : g = p.block := by simpa using e2
    omega
theorem set_same {α : Type} {l : List α} {j : Nat} {x : α} (h : l[j]? = some x) : l.set j x = l := by
  apply List.ext_getElem?
  intro i
  rw [List.getElem?_set]
  split
  · rename_i e
    subst e
    rw [h]
    split
    · rfl
    · rename_i h2
      have := (List.getElem?_eq_some_iff.1 h).1
      omega
  · rfl
theorem at_off' {W : World} {b : Nat} {o : Obj} (h : W.heap[b]? = some o) {g i : Nat} (hne : b ≠ g) (v : Value) : (W.setCell ⟨g, i, none⟩ v).heap[b]? = some o := by
  rw [(grown_set W g i v).block b (lt_of_at h) (fun e => hne (by cases e; rfl))]; exact h
/-- An owned row is nil and empty, or begins at the head of a block. -/
theorem own_form {w : World} {B e k n c : Nat} {o : Option Addr} {xs : List Value} (h : w.ownsRow B e k (.slice o n c) n xs) {i : Nat} (hi : i < n) : ∃ g, o = some ⟨g, 0, none⟩ ∧ B ≤ g ∧ n ≤ c := by
  rcases h.2 with ⟨e1, hn⟩ | ⟨g, cap, cur, e1, hb, _, hn, _⟩
  · omega
  · cases e1; exact ⟨g, rfl, hb, hn⟩
abbrev zero7 : Obj := .cells #[.string ⟨#[]⟩, .string ⟨#[]⟩, .slice none 0 0, .slice none 0 0, .int .i64 0, .int .i64 0, .slice none 0 0] 53
/-- What stands between the steps: both boxes. -/
structure WDS (w W : World) (b : Nat) (s0 s1 : ByteArray) (v2 v3 : Value) (n4 n5 : Int) (v6 : Value) : Prop where
  at1 : W.heap[b]? = some (.cells #[.string s0, .string s1, v2, v3, .int .i64 n4, .int .i64 n5, v6] 53)
  at2 : W.heap[b + 1]? = some zero7
  fr : Fresh w W
  sz : b + 2 ≤ W.heap.size
  bw : w.heap.size = b
section
variable {w W W' : World} {b : Nat} {s0 s1 : ByteArray} {v2 v3 : Value} {n4 n5 : Int} {v6 : Value}
theorem WDS.start : WDS w ((w.alloc (.cells #[.string s0, .string s1, v2, v3, .int .i64 n4, .int .i64 n5, v6] 53)).alloc zero7) w.heap.size s0 s1 v2 v3 n4 n5 v6 where
  at1 := at_alloc (at_new _ _)
  at2 := by have := at_new (w.alloc (.cells #[.string s0, .string s1, v2, v3, .int .i64 n4, .int .i64 n5, v6] 53)) zero7; rw [World.size_alloc] at this; exact this
  fr := ((Fresh.refl w).alloc _).alloc _
  sz := by simp
  bw := rfl
theorem WDS.go (h : WDS w W b s0 s1 v2 v3 n4 n5 v6) (f : Fresh W W') : WDS w W' b s0 s1 v2 v3 n4 n5 v6 :=
  ⟨f.at h.at1, f.at h.at2, h.fr.trans f, Nat.le_trans h.sz f.size, h.bw⟩
theorem WDS.off (h : WDS w W b s0 s1 v2 v3 n4 n5 v6) {g i : Nat} (hg : b + 2 ≤ g) (u : Value) : WDS w (W.setCell ⟨g, i, none⟩ u) b s0 s1 v2 v3 n4 n5 v6 :=
  ⟨at_off' h.at1 (by omega) u, at_off' h.at2 (by omega) u, h.fr.setCell (p := ⟨g, i, none⟩) (by have := h.bw; show w.heap.size ≤ g; omega) u, by simpa using h.sz, h.bw⟩
theorem WDS.set0 (h : WDS w W b s0 s1 v2 v3 n4 n5 v6) (s : ByteArray) : WDS w (W.setCell ⟨b, 0, none⟩ (.string s)) b s s1 v2 v3 n4 n5 v6 :=
  ⟨at_set h.at1 0 _, at_off' h.at2 (by omega) _, h.fr.setCell (p := ⟨b, 0, none⟩) (by have := h.bw; show w.heap.size ≤ b; omega) _, by simpa using h.sz, h.bw⟩
theorem WDS.set1 (h : WDS w W b s0 s1 v2 v3 n4 n5 v6) (s : ByteArray) : WDS w (W.setCell ⟨b, 1, none⟩ (.string s)) b s0 s v2 v3 n4 n5 v6 :=
  ⟨at_set h.at1 1 _, at_off' h.at2 (by omega) _, h.fr.setCell (p := ⟨b, 1, none⟩) (by have := h.bw; show w.heap.size ≤ b; omega) _, by simpa using h.sz, h.bw⟩
theorem WDS.set2 (h : WDS w W b s0 s1 v2 v3 n4 n5 v6) (u : Value) : WDS w (W.setCell ⟨b, 2, none⟩ u) b s0 s1 u v3 n4 n5 v6 :=
  ⟨at_set h.at1 2 _, at_off' h.at2 (by omega) _, h.fr.setCell (p := ⟨b, 2, none⟩) (by have := h.bw; show w.heap.size ≤ b; omega) _, by simpa using h.sz, h.bw⟩
theorem WDS.set3 (h : WDS w W b s0 s1 v2 v3 n4 n5 v6) (u : Value) : WDS w (W.setCell ⟨b, 3, none⟩ u) b s0 s1 v2 u n4 n5 v6 :=
  ⟨at_set h.at1 3 _, at_off' h.at2 (by omega) _, h.fr.setCell (p := ⟨b, 3, none⟩) (by have := h.bw; show w.heap.size ≤ b; omega) _, by simpa using h.sz, h.bw⟩
theorem WDS.set4 (h : WDS w W b s0 s1 v2 v3 n4 n5 v6) (n : Int) : WDS w (W.setCell ⟨b, 4, none⟩ (.int .i64 n)) b s0 s1 v2 v3 n n5 v6 :=
  ⟨at_set h.at1 4 _, at_off' h.at2 (by omega) _, h.fr.setCell (p := ⟨b, 4, none⟩) (by have := h.bw; show w.heap.size ≤ b; omega) _, by simpa using h.sz, h.bw⟩
theorem WDS.set5 (h : WDS w W b s0 s1 v2 v3 n4 n5 v6) (n : Int) : WDS w (W.setCell ⟨b, 5, none⟩ (.int .i64 n)) b s0 s1 v2 v3 n4 n v6 :=
  ⟨at_set h.at1 5 _, at_off' h.at2 (by omega) _, h.fr.setCell (p := ⟨b, 5, none⟩) (by have := h.bw; show w.heap.size ≤ b; omega) _, by simpa using h.sz, h.bw⟩
theorem WDS.set6 (h : WDS w W b s0 s1 v2 v3 n4 n5 v6) (u : Value) : WDS w (W.setCell ⟨b, 6, none⟩ u) b s0 s1 v2 v3 n4 n5 u :=
  ⟨at_set h.at1 6 _, at_off' h.at2 (by omega) _, h.fr.setCell (p := ⟨b, 6, none⟩) (by have := h.bw; show w.heap.size ≤ b; omega) _, by simpa using h.sz, h.bw⟩
theorem WDS.cells (h : WDS w W b s0 s1 v2 v3 n4 n5 v6) :
    (W.cell? ⟨b, 0, none⟩ = some (.string s0) ∧ W.cell? ⟨b, 1, none⟩ = some (.string s1) ∧ W.cell? ⟨b, 2, none⟩ = some v2 ∧ W.cell? ⟨b, 3, none⟩ = some v3 ∧ W.cell? ⟨b, 4, none⟩ = some (.int .i64 n4) ∧ W.cell? ⟨b, 5, none⟩ = some (.int .i64 n5) ∧ W.cell? ⟨b, 6, none⟩ = some v6) ∧ ∀ i, W.frozen? ⟨b, i, none⟩ = false :=
  Box7.cells (show Box7 53 W b s0 s1 v2 v3 n4 n5 v6 from h.at1)
end
end Go.Proofs.YtfhhmajkacjbgaaDoor
namespace Go.Proofs.YtfhhmajkacjbgaaDoor
open Go.ChangeShapes Go.WideShapes Go.ChangeAt Go.RowKit
attribute [local go_sem ↓] Go.wp_at_zero Go.wp_at_succ

theorem tset_same (l : List ByteArray) (k : Nat) (h : k < l.length) : (tcells l).set k (.string l[k]) = tcells l := by
  refine set_same ?_
  have := flat_get tcell 1 (fun _ => rfl) l k h 0 (by omega)
  rw [Nat.mul_one, Nat.add_zero] at this
  exact this
theorem eset_same (l : List (ByteArray × ByteArray)) (k : Nat) (h : k < l.length) : ((ecells l).set (k * 2) (.string l[k].1)).set (k * 2 + 1) (.string l[k].2) = ecells l := by
  have h0 : (ecells l)[k * 2]? = some (.string l[k].1) := flat_get ecell 2 (fun _ => rfl) l k h 0 (by omega)
  have h1 : (ecells l)[k * 2 + 1]? = some (.string l[k].2) := flat_get ecell 2 (fun _ => rfl) l k h 1 (by omega)
  rw [set_same h0, set_same h1]
theorem own_ne' {W : World} {B B' : Nat} {e e' k k' n n' : Nat} {v v' : Value} {xs xs' : List Value} (h : W.ownsRow B e k v n xs) (h' : W.ownsRow B' e' k' v' n' xs') (hne : e ≠ e') : v.ownBlock = none ∨ v.ownBlock ≠ v'.ownBlock := by
  rcases h.2 with ⟨rfl, _⟩ | ⟨g, cap, cur, rfl, _, hg, _⟩
  · exact .inl rfl
  · refine .inr fun e2 => ?_
    rcases h'.2 with ⟨rfl, _⟩ | ⟨g', cap', cur', rfl, _, hg', _⟩
    · cases e2
    · have : g = g' := by simpa [Value.ownBlock] using e2
      subst this
      rw [hg] at hg'
      cases hg'
      exact hne rfl
set_option maxRecDepth 100000 in
set_option maxHeartbeats 4000000 in
theorem wd_any (m : CM) (w : World) (hm : m.In w) (lm : m.c.Low) :
    Calls Tryd.prog 39 #[m.val] w fun e w' => ∃ n : CM, e = .returned n.val ∧ n.c = defC m.c ∧ QIn w' w.heap.size n ∧ Fresh w w' := by
  obtain ⟨⟨s0, s1, lc, lp, n4, n5, le⟩, ca, cc, pa, pc, ea, ec⟩ := m
  have HRC := Lib.hid hm.cmd
  have HRP := Lib.hid hm.ports
  have HRE := Lib.hid hm.env
  have HL : Hid (lc.length ≤ 1048576 ∧ lp.length ≤ 1048576 ∧ le.length ≤ 1048576) := ⟨lm.lc, lm.lp, lm.le⟩
  have HCS : Hid (∀ s ∈ lc, s.size ≤ 1048576) := lm.cmd
  have HES : Hid (∀ v ∈ le, v.1.size ≤ 1048576 ∧ v.2.size ≤ 1048576) := lm.env
  have HS0 : Hid (s0.size ≤ 1048576 ∧ s1.size ≤ 1048576) := ⟨lm.name, lm.image⟩
  have HK0 := Lib.hid (fun W => clone_any s0 W (by have := HS0.out.1; omega))
  have HK1 := Lib.hid (fun W => clone_any s1 W (by have := HS0.out.2; omega))
  have HCT := Lib.hid (fun W (f : Fresh w W) => cloneT_any lc ca cc W (HRC.out.move f) HL.out.1)
  have HCP := Lib.hid (fun W (f : Fresh w W) => cloneP_any lp pa pc W (HRP.out.move f) HL.out.2.1)
  have HCE := Lib.hid (fun W (f : Fresh w W) => cloneE_any le ea ec W (HRE.out.move f) HL.out.2.2)
  have HO4 := Lib.hid (fun W => orElse_any n4 100 W)
  have HO5 := Lib.hid (fun W => orElse_any n5 64 W)
  have HD : Hid (∀ a b c d e f : _, (CM.mk (defC ⟨s0, s1, lc, lp, n4, n5, le⟩) a b c d e f).val = .agg #[.string s0, .string s1, .slice a lc.length b, .slice c lp.length d, .int .i64 (if n4 = 0 then 100 else n4), .int .i64 (if n5 = 0 then 64 else n5), .slice e le.length f]) := fun _ _ _ _ _ _ => rfl
  dsimp only [CM.val] at *
  clear hm lm HRC HRP HRE HS0
  generalize (if n4 = 0 then (100 : Int) else n4) = m4 at *
  generalize (if n5 = 0 then (64 : Int) else n5) = m5 at *
  have hst := WDS.start (w := w) (s0 := s0) (s1 := s1) (v2 := .slice ca lc.length cc) (v3 := .slice pa lp.length pc) (n4 := n4) (n5 := n5) (v6 := .slice ea le.length ec)
  have HST := Lib.hid hst
  clear hst
  go_enter Tryd.func39, Tryd.ntmps39
  go_wp2_with (fail)
  generalize (w.alloc (.cells #[.string s0, .string s1, .slice ca lc.length cc, .slice pa lp.length pc, .int .i64 n4, .int .i64 n5, .slice ea le.length ec] 53)).alloc (.cells #[.string ⟨#[]⟩, .string ⟨#[]⟩, .slice none 0 0, .slice none 0 0, .int .i64 0, .int .i64 0, .slice none 0 0] 53) = W0 at *
  obtain ⟨b, hb⟩ : ∃ b, b = w.heap.size := ⟨_, rfl⟩
  have HBW := Lib.hid hb
  rw [← hb] at HST ⊢
  clear hb
  refine (HK0.out W0).mono ?_
  rintro e W1 ⟨rfl, hf⟩
  have HS1 := Lib.hid (HST.out.go hf)
  clear hf HST
  obtain ⟨⟨q0, q1, q2, q3, q4, q5, q6⟩, fz⟩ := HS1.out.cells
  have f0 := fz 0
  clear fz q2 q3 q4 q5 q6
  go_wp2_with (fail)
  have HS2 := Lib.hid (HS1.out.set0 s0)
  generalize W1.setCell ⟨b, 0, none⟩ (.string s0) = W2 at *
  clear HS1 q0 q1 f0
  refine (HK1.out W2).mono ?_
  rintro e W3 ⟨rfl, hf⟩
  have HS3 := Lib.hid (HS2.out.go hf)
  clear hf HS2
  obtain ⟨⟨q0, q1, q2, q3, q4, q5, q6⟩, fz⟩ := HS3.out.cells
  have f0 := fz 1
  clear fz q0 q3 q4 q5 q6
  go_wp2_with (fail)
  have HS4 := Lib.hid (HS3.out.set1 s1)
  generalize W3.setCell ⟨b, 1, none⟩ (.string s1) = W4 at *
  clear HS3 q1 q2 f0
  refine (HCT.out W4 HS4.out.fr).mono ?_
  rintro e W5 ⟨ca2, cc2, rfl, hown, hf⟩
  have HS5 := Lib.hid (HS4.out.go hf)
  have HOC := Lib.hid (World.ownsRow.mono hown HS4.out.sz)
  clear hf HS4 hown
  obtain ⟨⟨q0, q1, q2, q3, q4, q5, q6⟩, fz⟩ := HS5.out.cells
  have f0 := fz 2
  clear fz q0 q1 q3 q4 q5 q6
  go_wp2_with (fail)
  have HS6 := Lib.hid (HS5.out.set2 (.slice ca2 lc.length cc2))
  have HO6 := Lib.hid (own_set' (p := ⟨b, 2, none⟩) HOC.out (by show b < b + 2; omega) (.slice ca2 lc.length cc2))
  dsimp only at HO6
  generalize W5.setCell ⟨b, 2, none⟩ (.slice ca2 lc.length cc2) = W6 at *
  clear HS5 q2 f0 HOC
  go_loopw [22] (fun a22 wr => ∃ (k : Nat), a22 = .int .i64 (k : Int) ∧ k ≤ lc.length ∧ Hid (WDS w wr b s0 s1 (.slice ca2 lc.length cc2) (.slice pa lp.length pc) n4 n5 (.slice ea le.length ec)) ∧ Hid (wr.ownsRow (b + 2) 9 1 (.slice ca2 lc.length cc2) lc.length (tcells lc))) (fun a22 _ => lc.length - (intOf a22).toNat)
  case atStart => exact ⟨0, rfl, Nat.zero_le _, HS6.out, HO6.out⟩
  case round =>
    obtain ⟨k, rfl, hk, HS, HO⟩ := hrel
    have hb1 := HL.out.1
    by_cases hlt : k < lc.length
    · obtain ⟨g, rfl, hgb, hnc⟩ := own_form HO.out hlt
      have hcell : wr.cell? ⟨g, k, none⟩ = some (.string lc[k]) := by
        rw [World.ownsRow.cellAt HO.out k (by omega)]
        have := flat_get tcell 1 (fun _ => rfl) lc k hlt 0 (by omega)
        rw [Nat.mul_one, Nat.add_zero] at this
        exact this
      have HFZ : Hid (∀ W, Fresh wr W → W.cell? ⟨g, k, none⟩ = some (.string lc[k]) ∧ W.frozen? ⟨g, k, none⟩ = false ∧ W.cell? ⟨b, 2, none⟩ = some (.slice (some ⟨g, 0, none⟩) lc.length cc2)) := fun W f =>
        ⟨f.cell hcell, World.ownsRow.frozenAt (own_fresh' HO.out f) k, f.cell HS.out.cells.1.2.2.1⟩
      have HSET := Lib.hid (tset_same lc k hlt)
      have HKS := Lib.hid (fun W => clone_any lc[k] W (by have := HCS.out _ (List.getElem_mem hlt); omega))
      have q2 := HS.out.cells.1.2.2.1
      have i1 : (0 : Int) ≤ (k : Int) := by omega
      have i2 : (k : Int) < (lc.length : Int) := by omega
      generalize lc[k] = x at *
      have hne : ¬ g = b := by omega
      have HKD := Lib.hid (HKS.out wr.drew)
      have HST : Hid (∀ W, Fresh wr W → WDS w (W.setCell ⟨g, k, none⟩ (.string x)) b s0 s1 (.slice (some ⟨g, 0, none⟩) lc.length cc2) (.slice pa lp.length pc) n4 n5 (.slice ea le.length ec) ∧ (W.setCell ⟨g, k, none⟩ (.string x)).ownsRow (b + 2) 9 1 (.slice (some ⟨g, 0, none⟩) lc.length cc2) lc.length (tcells lc)) := fun W f =>
        ⟨(HS.out.go f).off (i := k) hgb _, by
          have := (World.ownsRow.stored (own_fresh' HO.out f) k (.string x)).1
          rw [HSET.out] at this
          exact this⟩
      go_wp2_with (fail)
      all_goals try (exfalso; omega)
      go_region_held3 (fun w' => w'.cell? ⟨b, 2, none⟩ = some (.slice (some ⟨g, 0, none⟩) lc.length cc2)) (go_keep)
        (first | (go_at_call 36; (with_reducible refine HKD.out.mono ?_); rintro e Wc ⟨rfl, hf⟩; have HFc := Lib.hid ((Fresh.refl wr).drew.trans hf); obtain ⟨k0, k1, k2⟩ := HFZ.out _ HFc.out; clear hf))
      go_wp2
      all_goals try (exfalso; omega)
      go_roundw
      case rel => exact ⟨k + 1, by simp, by omega, (HST.out _ HFc.out).1, (HST.out _ HFc.out).2⟩
      case measure => simp [intOf]; omega
    · obtain rfl : k = lc.length := by omega
      obtain ⟨⟨q0, q1, q2, q3, q4, q5, q6⟩, _⟩ := HS.out.cells
      clear q0 q1 q2 q4 q5 q6
      go_wp2_with (fail)
      all_goals try (exfalso; omega)
      clear q3 HS6 HO6
      obtain ⟨wr0, hw0⟩ : ∃ wr0, wr0 = wr := ⟨_, rfl⟩
      subst hw0
      refine (HCP.out wr0 HS.out.fr).mono ?_
      rintro e V1 ⟨pa2, pc2, rfl, hown, hf⟩
      have HS1 := Lib.hid (HS.out.go hf)
      have HO1 := Lib.hid (own_fresh' HO.out hf)
      have HP1 := Lib.hid (World.ownsRow.mono hown HS.out.sz)
      clear hf HS HO hown
      obtain ⟨⟨q0, q1, q2, q3, q4, q5, q6⟩, fz⟩ := HS1.out.cells
      have f0 := fz 3
      clear fz q0 q1 q2 q5 q6
      go_wp2_with (fail)
      have HS2 := Lib.hid (HS1.out.set3 (.slice pa2 lp.length pc2))
      have HO2 := Lib.hid (own_set' (p := ⟨b, 3, none⟩) HO1.out (by show b < b + 2; omega) (.slice pa2 lp.length pc2))
      have HP2 := Lib.hid (own_set' (p := ⟨b, 3, none⟩) HP1.out (by show b < b + 2; omega) (.slice pa2 lp.length pc2))
      dsimp only at HO2 HP2
      generalize V1.setCell ⟨b, 3, none⟩ (.slice pa2 lp.length pc2) = V2 at *
      clear HS1 HO1 HP1 q3 q4 f0
      refine (HO4.out V2).mono ?_
      rintro e V2' ⟨rfl, rfl⟩
      obtain ⟨⟨q0, q1, q2, q3, q4, q5, q6⟩, fz⟩ := HS2.out.cells
      have f0 := fz 4
      clear fz q0 q1 q2 q3 q6
      go_wp2_with (fail)
      have HS3 := Lib.hid (HS2.out.set4 m4)
      have HO3 := Lib.hid (own_set' (p := ⟨b, 4, none⟩) HO2.out (by show b < b + 2; omega) (.int .i64 m4))
      have HP3 := Lib.hid (own_set' (p := ⟨b, 4, none⟩) HP2.out (by show b < b + 2; omega) (.int .i64 m4))
      dsimp only at HO3 HP3
      generalize V2.setCell ⟨b, 4, none⟩ (.int .i64 m4) = V3 at *
      clear HS2 HO2 HP2 q4 q5 f0
      refine (HO5.out V3).mono ?_
      rintro e V3' ⟨rfl, rfl⟩
      obtain ⟨⟨q0, q1, q2, q3, q4, q5, q6⟩, fz⟩ := HS3.out.cells
      have f0 := fz 5
      clear fz q0 q1 q2 q3 q4
      go_wp2_with (fail)
      have HS4 := Lib.hid (HS3.out.set5 m5)
      have HO4 := Lib.hid (own_set' (p := ⟨b, 5, none⟩) HO3.out (by show b < b + 2; omega) (.int .i64 m5))
      have HP4 := Lib.hid (own_set' (p := ⟨b, 5, none⟩) HP3.out (by show b < b + 2; omega) (.int .i64 m5))
      dsimp only at HO4 HP4
      generalize V3.setCell ⟨b, 5, none⟩ (.int .i64 m5) = V4 at *
      clear HS3 HO3 HP3 q5 q6 f0
      refine (HCE.out V4 HS4.out.fr).mono ?_
      rintro e V5 ⟨ea2, ec2, rfl, hown, hf⟩
      have HS5 := Lib.hid (HS4.out.go hf)
      have HO5 := Lib.hid (own_fresh' HO4.out hf)
      have HP5 := Lib.hid (own_fresh' HP4.out hf)
      have HE5 := Lib.hid (World.ownsRow.mono hown HS4.out.sz)
      clear hf HS4 HO4 HP4 hown
      obtain ⟨⟨q0, q1, q2, q3, q4, q5, q6⟩, fz⟩ := HS5.out.cells
      have f0 := fz 6
      clear fz q0 q1 q2 q3 q4 q5
      go_wp2_with (fail)
      have HS6 := Lib.hid (HS5.out.set6 (.slice ea2 le.length ec2))
      have HO6 := Lib.hid (own_set' (p := ⟨b, 6, none⟩) HO5.out (by show b < b + 2; omega) (.slice ea2 le.length ec2))
      have HP6 := Lib.hid (own_set' (p := ⟨b, 6, none⟩) HP5.out (by show b < b + 2; omega) (.slice ea2 le.length ec2))
      have HE6 := Lib.hid (own_set' (p := ⟨b, 6, none⟩) HE5.out (by show b < b + 2; omega) (.slice ea2 le.length ec2))
      dsimp only at HO6 HP6 HE6
      generalize V5.setCell ⟨b, 6, none⟩ (.slice ea2 le.length ec2) = V6 at *
      clear HS5 HO5 HP5 HE5 q6 f0
      obtain ⟨⟨q0, q1, q2, q3, q4, q5, q6⟩, fz⟩ := HS6.out.cells
      clear fz q0 q1 q2 q3 q4 q5
      have hb2 := HL.out.2.2
      go_loopw [53] (fun a53 wr => ∃ (k : Nat), a53 = .int .i64 (k : Int) ∧ k ≤ le.length ∧ Hid (WDS w wr b s0 s1 (.slice ca2 lc.length cc2) (.slice pa2 lp.length pc2) m4 m5 (.slice ea2 le.length ec2)) ∧ Hid (wr.ownsRow (b + 2) 9 1 (.slice ca2 lc.length cc2) lc.length (tcells lc)) ∧ Hid (wr.ownsRow (b + 2) 55 2 (.slice pa2 lp.length pc2) lp.length (pcells lp)) ∧ Hid (wr.ownsRow (b + 2) 64 2 (.slice ea2 le.length ec2) le.length (ecells le))) (fun a53 _ => le.length - (intOf a53).toNat)
      case atStart => exact ⟨0, rfl, Nat.zero_le _, HS6.out, HO6.out, HP6.out, HE6.out⟩
      case round =>
        obtain ⟨k, rfl, hk, HS, HO, HP, HE⟩ := hrel
        by_cases hlt : k < le.length
        · obtain ⟨g, rfl, hgb, hnc⟩ := own_form HE.out hlt
          have hc0 : wr.cell? ⟨g, k * 2, none⟩ = some (.string le[k].1) := by
            rw [World.ownsRow.cellAt HE.out (k * 2) (by omega)]
            exact flat_get ecell 2 (fun _ => rfl) le k hlt 0 (by omega)
          have hc1 : wr.cell? ⟨g, k * 2 + 1, none⟩ = some (.string le[k].2) := by
            rw [World.ownsRow.cellAt HE.out (k * 2 + 1) (by omega)]
            exact flat_get ecell 2 (fun _ => rfl) le k hlt 1 (by omega)
          have HSET := Lib.hid (eset_same le k hlt)
          have HKS := Lib.hid (fun W => clone_any le[k].1 W (by have := (HES.out _ (List.getElem_mem hlt)).1; omega))
          have HKT := Lib.hid (fun W => clone_any le[k].2 W (by have := (HES.out _ (List.getElem_mem hlt)).2; omega))
          have hsw : le[k].1.size ≤ 1048576 ∧ le[k].2.size ≤ 1048576 := HES.out _ (List.getElem_mem hlt)
          clear hsw
          generalize le[k].1 = x at *
          generalize le[k].2 = y at *
          have HZ : Hid (wr.heap.size ≠ b ∧ wr.heap.size ≠ g ∧ g < wr.heap.size) := by
            have h1 := HS.out.sz
            have h2 := World.block_lt_of_cell? wr _ hc0
            exact ⟨by omega, by show wr.heap.size ≠ g; have : g < wr.heap.size := h2; omega, h2⟩
          have HAT := Lib.hid (at_new wr (.cells #[.string x, .string y] 64))
          have HFA := Lib.hid ((Fresh.refl wr).alloc (.cells #[.string x, .string y] 64))
          have q6 := HS.out.cells.1.2.2.2.2.2.2
          have i1 : (0 : Int) ≤ (k : Int) := by omega
          have i2 : (k : Int) < (le.length : Int) := by omega
          go_wp2_with (fail)
          all_goals try (exfalso; omega)
          have HWA : Hid (∀ W, Fresh (wr.alloc (.cells #[.string x, .string y] 64)) W → W.cell? ⟨g, k * 2, none⟩ = some (.string x) ∧ W.cell? ⟨g, k * 2 + 1, none⟩ = some (.string y) ∧ W.frozen? ⟨g, k * 2, none⟩ = false ∧ W.frozen? ⟨g, k * 2 + 1, none⟩ = false ∧ W.cell? ⟨b, 6, none⟩ = some (.slice (some ⟨g, 0, none⟩) le.length ec2) ∧ W.cell? ⟨wr.heap.size, 0, none⟩ = some (.string x) ∧ W.cell? ⟨wr.heap.size, 1, none⟩ = some (.string y)) := fun W f =>
            ⟨(HFA.out.trans f).cell hc0, (HFA.out.trans f).cell hc1, World.ownsRow.frozenAt (own_fresh' HE.out (HFA.out.trans f)) _, World.ownsRow.frozenAt (own_fresh' HE.out (HFA.out.trans f)) _, (HFA.out.trans f).cell q6, f.cell (cell_of_at HAT.out rfl), f.cell (cell_of_at HAT.out rfl)⟩
          have HST : Hid (∀ W, Fresh (wr.alloc (.cells #[.string x, .string y] 64)) W → WDS w ((W.setCell ⟨g, k * 2, none⟩ (.string x)).setCell ⟨g, k * 2 + 1, none⟩ (.string y)) b s0 s1 (.slice ca2 lc.length cc2) (.slice pa2 lp.length pc2) m4 m5 (.slice (some ⟨g, 0, none⟩) le.length ec2)) := fun W f =>
            ((HS.out.go (HFA.out.trans f)).off (i := k * 2) hgb _).off (i := k * 2 + 1) hgb _
          have HROWS : Hid (∀ W, Fresh (wr.alloc (.cells #[.string x, .string y] 64)) W → ((W.setCell ⟨g, k * 2, none⟩ (.string x)).setCell ⟨g, k * 2 + 1, none⟩ (.string y)).ownsRow (b + 2) 9 1 (.slice ca2 lc.length cc2) lc.length (tcells lc) ∧ ((W.setCell ⟨g, k * 2, none⟩ (.string x)).setCell ⟨g, k * 2 + 1, none⟩ (.string y)).ownsRow (b + 2) 55 2 (.slice pa2 lp.length pc2) lp.length (pcells lp) ∧ ((W.setCell ⟨g, k * 2, none⟩ (.string x)).setCell ⟨g, k * 2 + 1, none⟩ (.string y)).ownsRow (b + 2) 64 2 (.slice (some ⟨g, 0, none⟩) le.length ec2) le.length (ecells le)) := fun W f => by
            have e1 := own_fresh' HE.out (HFA.out.trans f)
            have o1 := own_fresh' HO.out (HFA.out.trans f)
            have p1 := own_fresh' HP.out (HFA.out.trans f)
            have s1 := World.ownsRow.stored e1 (k * 2) (.string x)
            have o2 := World.ownsRow.kept o1 s1.2 (own_ne' o1 e1 (by decide))
            have p2 := World.ownsRow.kept p1 s1.2 (own_ne' p1 e1 (by decide))
            have s2 := World.ownsRow.stored s1.1 (k * 2 + 1) (.string y)
            have o3 := World.ownsRow.kept o2 s2.2 (own_ne' o2 s1.1 (by decide))
            have p3 := World.ownsRow.kept p2 s2.2 (own_ne' p2 s1.1 (by decide))
            refine ⟨o3, p3, ?_⟩
            have := s2.1
            rw [HSET.out] at this
            exact this
          have hz := HZ.out
          obtain ⟨hz1, hz2, hz3⟩ := hz
          have hne : ¬ g = b := by omega
          obtain ⟨r0, r1, r2, r3, r4, r5, r6⟩ := HWA.out _ (Fresh.refl _)
          generalize hWW : wr.alloc (.cells #[.string x, .string y] 64) = WW at *
          clear hWW
          generalize wr.heap.size = z at *
          clear q6 hc0 hc1
          have hne2 : ¬ b = g := fun e => hne e.symm
          have hz4 : ¬ z = b := hz1
          have hz5 : ¬ z = g := hz2
          have hz6 : ¬ g = z := fun e => hz2 e.symm
          go_region_held3 (fun w' => w'.cell? ⟨b, 6, none⟩ = some (.slice (some ⟨g, 0, none⟩) le.length ec2) ∧ w'.cell? ⟨z, 0, none⟩ = some (.string x) ∧ w'.cell? ⟨z, 1, none⟩ = some (.string y)) (go_keep)
            (first | (go_at_call 36; (with_reducible refine (HKS.out _).mono ?_); rintro e V1 ⟨rfl, hf⟩; have HG1 := Lib.hid ((Fresh.refl WW).drew.trans hf); obtain ⟨k0, k1, k2, k3, k4, k5, k6⟩ := HWA.out _ HG1.out; clear hf) | (go_at_call 36; (with_reducible refine (HKT.out _).mono ?_); rintro e V2 ⟨rfl, hf⟩; have HG2 := Lib.hid (HG1.out.trans hf); obtain ⟨j0, j1, j2, j3, j4, j5, j6⟩ := HWA.out _ HG2.out; clear hf))
          clear r0 r1 r2 r3 r4 r5 r6
          try clear k0 k1 k2 k3 k4 k5 k6
          try clear j0 j1 j2 j3 j4 j5 j6
          go_wp2
          all_goals try (exfalso; omega)
          go_roundw
          case rel => exact ⟨k + 1, by simp, by omega, HST.out _ HG2.out, (HROWS.out _ HG2.out).1, (HROWS.out _ HG2.out).2.1, (HROWS.out _ HG2.out).2.2⟩
          case measure => simp [intOf]; omega
        · obtain rfl : k = le.length := by omega
          obtain ⟨⟨q0, q1, q2, q3, q4, q5, q6⟩, fz⟩ := HS.out.cells
          obtain ⟨⟨z0, z1, z2, z3, z4, z5, z6⟩, fy⟩ := Box7.cells (show Box7 53 wr (b + 1) ⟨#[]⟩ ⟨#[]⟩ (.slice none 0 0) (.slice none 0 0) 0 0 (.slice none 0 0) from HS.out.at2)
          have y0 := fy 0
          have y1 := fy 1
          have y2 := fy 2
          have y3 := fy 3
          have y4 := fy 4
          have y5 := fy 5
          have y6 := fy 6
          clear fz fy
          go_wp2
          all_goals try (exfalso; omega)
          have hq : ∀ {B k n : Nat} {t : TypeId} {v : Value} {xs : List Value}, wr.ownsRow (b + 2) t k v n xs → ((((((((wr.setCell ⟨b + 1, 0, none⟩ (.string s0)).setCell ⟨b + 1, 1, none⟩ (.string s1)).setCell ⟨b + 1, 2, none⟩ (.slice ca2 lc.length cc2)).setCell ⟨b + 1, 3, none⟩ (.slice pa2 lp.length pc2)).setCell ⟨b + 1, 4, none⟩ (.int .i64 m4)).setCell ⟨b + 1, 5, none⟩ (.int .i64 m5)).setCell ⟨b + 1, 6, none⟩ (.slice ea2 le.length ec2))).ownsRow (b + 2) t k v n xs := fun h => by
            have l1 : ∀ i, (⟨b + 1, i, none⟩ : Addr).block < b + 2 := fun i => Nat.lt_succ_self (b + 1)
            exact own_set' (p := ⟨b + 1, 6, none⟩) (own_set' (p := ⟨b + 1, 5, none⟩) (own_set' (p := ⟨b + 1, 4, none⟩) (own_set' (p := ⟨b + 1, 3, none⟩) (own_set' (p := ⟨b + 1, 2, none⟩) (own_set' (p := ⟨b + 1, 1, none⟩) (own_set' (p := ⟨b + 1, 0, none⟩) h (l1 0) _) (l1 1) _) (l1 2) _) (l1 3) _) (l1 4) _) (l1 5) _) (l1 6) _
          refine bodyPost_ret (v := .agg #[.string s0, .string s1, .slice ca2 lc.length cc2, .slice pa2 lp.length pc2, .int .i64 m4, .int .i64 m5, .slice ea2 le.length ec2]) (by simp [results, Tryd.f39, go_sem, *]) rfl ⟨⟨defC ⟨s0, s1, lc, lp, n4, n5, le⟩, ca2, cc2, pa2, pc2, ea2, ec2⟩, ?_, rfl, ⟨?_, ?_, ?_⟩, ?_⟩
          · rw [HD.out]
          · exact World.ownsRow.mono (hq (B := 0) HO.out) (by have := HBW.out; omega)
          · exact World.ownsRow.mono (hq (B := 0) HP.out) (by have := HBW.out; omega)
          · exact World.ownsRow.mono (hq (B := 0) HE.out) (by have := HBW.out; omega)
          · repeat (refine Fresh.setCell ?_ (by have := HBW.out; simp; omega) _)
            exact HS.out.fr
end Go.Proofs.YtfhhmajkacjbgaaDoor
namespace Go.Proofs.YtfhhmajkacjbgaaDoor
open Go.ChangeShapes Go.WideShapes Go.ChangeAt Go.RowKit

theorem QIn.mono {W : World} {B B' : Nat} {m : CM} (h : QIn W B m) (hb : B' ≤ B) : QIn W B' m := ⟨World.ownsRow.mono h.cmd hb, World.ownsRow.mono h.ports hb, World.ownsRow.mono h.env hb⟩
theorem QIn.fresh {W W' : World} {B : Nat} {m : CM} (h : QIn W B m) (f : Fresh W W') : QIn W' B m := ⟨own_fresh' h.cmd f, own_fresh' h.ports f, own_fresh' h.env f⟩
theorem QIn.set {W : World} {B : Nat} {m : CM} (h : QIn W B m) {p : Addr} (hp : p.block < B) (u : Value) : QIn (W.setCell ⟨p.block, p.off, none⟩ u) B m := ⟨own_set' h.cmd hp u, own_set' h.ports hp u, own_set' h.env hp u⟩
theorem QIn.stored {W : World} {B B' g n cap : Nat} {m : CM} {xs : List Value} (h : QIn W B m) (hr : W.ownsRow B' 53 7 (.slice (some ⟨g, 0, none⟩) n cap) n xs) (j : Nat) (u : Value) : QIn (W.setCell ⟨g, j, none⟩ u) B m :=
  ⟨World.ownsRow.kept h.cmd (World.ownsRow.stored hr j u).2 (own_ne' h.cmd hr (by decide)), World.ownsRow.kept h.ports (World.ownsRow.stored hr j u).2 (own_ne' h.ports hr (by decide)), World.ownsRow.kept h.env (World.ownsRow.stored hr j u).2 (own_ne' h.env hr (by decide))⟩
theorem QIn.inn {W : World} {B : Nat} {m : CM} (h : QIn W B m) : m.In W := ⟨RowAt.owns h.cmd, RowAt.owns h.ports, RowAt.owns h.env, own_le h.ports⟩
/-- A pod whose memory the call owns, from block B on. -/
structure QAt (W : World) (B : Nat) (q : PM) : Prop where
  row : W.ownsRow B 53 7 (.slice q.a q.cs.length q.cap) q.cs.length (ccells q.cs)
  ins : ∀ m ∈ q.cs, QIn W B m
theorem QAt.at {W : World} {B : Nat} {q : PM} (h : QAt W B q) : q.At W := ⟨RowAt.owns h.row, fun m hm => (h.ins m hm).inn, own_le h.row⟩
theorem QAt.fresh {W W' : World} {B : Nat} {q : PM} (h : QAt W B q) (f : Fresh W W') : QAt W' B q := ⟨own_fresh' h.row f, fun m hm => (h.ins m hm).fresh f⟩
theorem QAt.mono {W : World} {B B' : Nat} {q : PM} (h : QAt W B q) (hb : B' ≤ B) : QAt W B' q := ⟨World.ownsRow.mono h.row hb, fun m hm => (h.ins m hm).mono hb⟩
theorem ccells_set7 : ∀ (L : List CM) (k : Nat) (n : CM), k < L.length → (((((((ccells L).set (k * 7) (.string n.c.name)).set (k * 7 + 1) (.string n.c.image)).set (k * 7 + 2) (.slice n.ca n.c.cmd.length n.cc)).set (k * 7 + 3) (.slice n.pa n.c.ports.length n.pc)).set (k * 7 + 4) (.int .i64 n.c.cpu)).set (k * 7 + 5) (.int .i64 n.c.mem)).set (k * 7 + 6) (.slice n.ea n.c.env.length n.ec) = ccells (L.set k n)
  | [], k, n, h => absurd h (Nat.not_lt_zero _)
  | a :: r, 0, n, _ => by simp [ccells, CM.cells]
  | a :: r, k + 1, n, h => by
    have ih := ccells_set7 r k n (by simpa using h)
    have e : ∀ i, (k + 1) * 7 + i = a.cells.length + (k * 7 + i) := fun i => by show (k + 1) * 7 + i = 7 + (k * 7 + i); omega
    have e0 : (k + 1) * 7 = a.cells.length + k * 7 := by show (k + 1) * 7 = 7 + k * 7; omega
    have st : ∀ (l : List Value) (j : Nat) (x : Value), (a.cells ++ l).set (a.cells.length + j) x = a.cells ++ l.set j x := fun l j x => by
      rw [List.set_append_right _ _ (Nat.le_add_right _ _), Nat.add_sub_cancel_left]
    rw [show ccells (a :: r) = a.cells ++ ccells r from List.flatMap_cons, e, e, e, e, e, e, e0, st, st, st, st, st, st, st, ih]
    rfl
theorem mid_set {D R : List CM} {m n : CM} {k : Nat} (h : D.length = k) : (D ++ m :: R).set k n = (D ++ [n]) ++ R := by
  rw [List.set_append_right _ _ (by omega), h, Nat.sub_self, List.set_cons_zero]
  simp
/-- Both boxes, between the steps. -/
structure PDS (w W : World) (b : Nat) (s0 s1 : ByteArray) (n2 n3 : Int) (b4 : Bool) (v5 : Value) : Prop where
  at1 : W.heap[b]? = some (.cells #[.string s0, .string s1, .int .i64 n2, .int .i64 n3, .bool b4, v5] 25)
  at2 : W.heap[b + 1]? = some (.cells #[.string ⟨#[]⟩, .string ⟨#[]⟩, .int .i64 0, .int .i64 0, .bool false, .slice none 0 0] 25)
  fr : Fresh w W
  sz : b + 2 ≤ W.heap.size
  bw : w.heap.size = b
section
variable {w W W' : World} {b : Nat} {s0 s1 : ByteArray} {n2 n3 : Int} {b4 : Bool} {v5 : Value}
theorem PDS.start : PDS w ((w.alloc (.cells #[.string s0, .string s1, .int .i64 n2, .int .i64 n3, .bool b4, v5] 25)).alloc (.cells #[.string ⟨#[]⟩, .string ⟨#[]⟩, .int .i64 0, .int .i64 0, .bool false, .slice none 0 0] 25)) w.heap.size s0 s1 n2 n3 b4 v5 where
  at1 := at_alloc (at_new _ _)
  at2 := by have := at_new (w.alloc (.cells #[.string s0, .string s1, .int .i64 n2, .int .i64 n3, .bool b4, v5] 25)) (.cells #[.string ⟨#[]⟩, .string ⟨#[]⟩, .int .i64 0, .int .i64 0, .bool false, .slice none 0 0] 25); rw [World.size_alloc] at this; exact this
  fr := ((Fresh.refl w).alloc _).alloc _
  sz := by simp
  bw := rfl
theorem PDS.go (h : PDS w W b s0 s1 n2 n3 b4 v5) (f : Fresh W W') : PDS w W' b s0 s1 n2 n3 b4 v5 := ⟨f.at h.at1, f.at h.at2, h.fr.trans f, Nat.le_trans h.sz f.size, h.bw⟩
theorem PDS.off (h : PDS w W b s0 s1 n2 n3 b4 v5) {g i : Nat} (hg : b + 2 ≤ g) (u : Value) : PDS w (W.setCell ⟨g, i, none⟩ u) b s0 s1 n2 n3 b4 v5 :=
  ⟨at_off' h.at1 (by omega) u, at_off' h.at2 (by omega) u, h.fr.setCell (p := ⟨g, i, none⟩) (by have := h.bw; show w.heap.size ≤ g; omega) u, by simpa using h.sz, h.bw⟩
theorem PDS.set0 (h : PDS w W b s0 s1 n2 n3 b4 v5) (s : ByteArray) : PDS w (W.setCell ⟨b, 0, none⟩ (.string s)) b s s1 n2 n3 b4 v5 :=
  ⟨at_set h.at1 0 _, at_off' h.at2 (by omega) _, h.fr.setCell (p := ⟨b, 0, none⟩) (by have := h.bw; show w.heap.size ≤ b; omega) _, by simpa using h.sz, h.bw⟩
theorem PDS.set1 (h : PDS w W b s0 s1 n2 n3 b4 v5) (s : ByteArray) : PDS w (W.setCell ⟨b, 1, none⟩ (.string s)) b s0 s n2 n3 b4 v5 :=
  ⟨at_set h.at1 1 _, at_off' h.at2 (by omega) _, h.fr.setCell (p := ⟨b, 1, none⟩) (by have := h.bw; show w.heap.size ≤ b; omega) _, by simpa using h.sz, h.bw⟩
theorem PDS.set3 (h : PDS w W b s0 s1 n2 n3 b4 v5) (n : Int) : PDS w (W.setCell ⟨b, 3, none⟩ (.int .i64 n)) b s0 s1 n2 n b4 v5 :=
  ⟨at_set h.at1 3 _, at_off' h.at2 (by omega) _, h.fr.setCell (p := ⟨b, 3, none⟩) (by have := h.bw; show w.heap.size ≤ b; omega) _, by simpa using h.sz, h.bw⟩
theorem PDS.set5 (h : PDS w W b s0 s1 n2 n3 b4 v5) (u : Value) : PDS w (W.setCell ⟨b, 5, none⟩ u) b s0 s1 n2 n3 b4 u :=
  ⟨at_set h.at1 5 _, at_off' h.at2 (by omega) _, h.fr.setCell (p := ⟨b, 5, none⟩) (by have := h.bw; show w.heap.size ≤ b; omega) _, by simpa using h.sz, h.bw⟩
theorem PDS.cells (h : PDS w W b s0 s1 n2 n3 b4 v5) :
    (W.cell? ⟨b, 0, none⟩ = some (.string s0) ∧ W.cell? ⟨b, 1, none⟩ = some (.string s1) ∧ W.cell? ⟨b, 2, none⟩ = some (.int .i64 n2) ∧ W.cell? ⟨b, 3, none⟩ = some (.int .i64 n3) ∧ W.cell? ⟨b, 4, none⟩ = some (.bool b4) ∧ W.cell? ⟨b, 5, none⟩ = some v5) ∧ ∀ i, W.frozen? ⟨b, i, none⟩ = false :=
  ⟨⟨cell_of_at h.at1 rfl, cell_of_at h.at1 rfl, cell_of_at h.at1 rfl, cell_of_at h.at1 rfl, cell_of_at h.at1 rfl, cell_of_at h.at1 rfl⟩, fun i => by simp [World.frozen?, h.at1]⟩
end
end Go.Proofs.YtfhhmajkacjbgaaDoor
