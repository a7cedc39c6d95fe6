/-
  slices.Clone at texts, ports, variables and containers: the same, in a row of its own.
-/
import Derived.Test.YtfhhmajkacjbgaaDoorSDef2
import Derived.Deep.Onto
import Derived.Lib.SliceRun
namespace Go.Proofs.YtfhhmajkacjbgaaDoor
open Go.ChangeShapes Go.WideShapes Go.ChangeAt Go.RowKit

theorem infoSP : (Tryd.prog.info? 55).map (fun i => (i.zero, i.size, i.bytes)) = some (some (.agg #[.int .i64 0, .int .i64 0]), 2, 16) := by kernel_rfl
theorem infoSE : (Tryd.prog.info? 64).map (fun i => (i.zero, i.size, i.bytes)) = some (some (.agg #[.string ⟨#[]⟩, .string ⟨#[]⟩]), 2, 32) := by kernel_rfl
theorem infoSC : (Tryd.prog.info? 53).map (fun i => (i.zero, i.size, i.bytes)) = some (some (.agg #[.string ⟨#[]⟩, .string ⟨#[]⟩, .slice none 0 0, .slice none 0 0, .int .i64 0, .int .i64 0, .slice none 0 0]), 7, 120) := by kernel_rfl
theorem own_shape {w : World} {B e k n : Nat} {v : Value} {xs : List Value} (h : w.ownsRow B e k v n xs) : ∃ o c, v = .slice o n c := by
  rcases h.2 with ⟨h1, h2⟩ | ⟨g, cap, c2, h1, _⟩
  · exact ⟨none, 0, by rw [h1, h2]⟩
  · exact ⟨_, _, h1⟩
theorem row_news {w : World} {ad : Addr} {cs : List Value} (h : RowAt w (some ad) cs) : ∀ j u, cs[j]? = some u → w.cell? (ad.add j) = some u := fun j u hj => by
  rcases h with rfl | ⟨g, o, e, h⟩
  · simp at hj
  · cases e
    rw [addr_add]
    exact h j u hj
theorem tcells_one (l : List ByteArray) : ∀ u ∈ tcells l, u.oneCell' = true := fun u hu => by
  obtain ⟨x, _, hx⟩ := List.mem_flatMap.1 hu
  rw [List.mem_singleton.1 hx]; rfl
theorem pcells_one (l : List (Int × Int)) : ∀ u ∈ pcells l, u.oneCell' = true := fun u hu => by
  obtain ⟨x, _, hx⟩ := List.mem_flatMap.1 hu
  simp only [pcell, List.mem_cons, List.not_mem_nil, or_false] at hx
  rcases hx with rfl | rfl <;> rfl
theorem ecells_one (l : List (ByteArray × ByteArray)) : ∀ u ∈ ecells l, u.oneCell' = true := fun u hu => by
  obtain ⟨x, _, hx⟩ := List.mem_flatMap.1 hu
  simp only [ecell, List.mem_cons, List.not_mem_nil, or_false] at hx
  rcases hx with rfl | rfl <;> rfl
theorem ccells_one (l : List CM) : ∀ u ∈ ccells l, u.oneCell' = true := fun u hu => by
  obtain ⟨x, _, hx⟩ := List.mem_flatMap.1 hu
  simp only [CM.cells, List.mem_cons, List.not_mem_nil, or_false] at hx
  rcases hx with rfl | rfl | rfl | rfl | rfl | rfl | rfl <;> rfl
set_option maxRecDepth 100000 in
set_option maxHeartbeats 1000000 in
theorem cloneT_any (l : List ByteArray) (a : Option Addr) (c : Nat) (w : World) (h : RowAt w a (tcells l)) (hl : l.length ≤ 1048576) :
    Calls Tryd.prog 63 #[.slice a l.length c] w fun e w' => ∃ a' c', e = .returned (.slice a' l.length c') ∧ w'.ownsRow w.heap.size 9 1 (.slice a' l.length c') l.length (tcells l) ∧ Fresh w w' := by
  have HL : Hid ((tcells l).length = l.length * 1) := by rw [Hid, Nat.mul_one]; exact tcells_len l
  have HO := Lib.hid (tcells_one l)
  obtain ⟨i0, hi, hz0, hz1, hz2⟩ := info_parts info9
  have qn : ∀ (w : World) (a : Option Addr) (n c n' c' : Nat), (binOp .eql 45 (.slice a n c) (.slice none n' c')).run Tryd.prog w = .ok (.bool a.isNone) w := fun w a n c n' c' => Lib.run_eql_slice_nil w _ _ a n c n' c' Tryd.underlying45
  cases a with
  | none =>
    have h0 : l = [] := by
      rcases h with h | ⟨g, o, e, _⟩
      · have := HL.out
        rw [h, List.length_nil] at this
        exact List.eq_nil_of_length_eq_zero (by omega)
      · cases e
    subst h0
    go_enter Tryd.func63, Tryd.ntmps63
    go_wp2
    go_ret
    exact ⟨none, 0, rfl, World.ownsRow_nil _ _ _ _, Fresh.refl _⟩
  | some ad =>
    have HNEWS := Lib.hid (row_news (h.move ((Fresh.refl w).alloc (.cells #[] 9))))
    clear h
    generalize tcells l = xs at *
    generalize l.length = n at *
    go_enter Tryd.func63, Tryd.ntmps63
    go_wp2_with (at_builtin; refine Hid.out ?_)
    refine Lib.hid ?_
    refine wpList_append_own _ rfl _ _ 45 rfl w.heap.size 9 i0 (.string ⟨#[]⟩) 1 16 Tryd.underlying45 hi hz0 hz1 hz2 rfl (by decide) _ 0 _ rfl (World.ownsRow_made w #[] 0 (Nat.le_refl _) (Nat.zero_le _) rfl) ad n c xs rfl HL.out HNEWS.out HO.out (by unfold maxLen; omega) (by omega) (by rw [World.size_alloc]; omega) ?_
    intro v' w3 hown' hgrow _
    have hown2 : w3.ownsRow w.heap.size 9 1 v' n xs := by
      have := hown'
      rwa [Nat.zero_add, List.nil_append] at this
    obtain ⟨o', c', rfl⟩ := own_shape hown2
    have HOWN := Lib.hid hown2
    have HGROW := Lib.hid hgrow
    clear hown' hown2 hgrow
    go_wp2
    go_ret
    exact ⟨o', c', rfl, HOWN.out, ((Fresh.refl w).alloc _).grown HGROW.out (fun g e => Nat.le_of_eq (Option.some.inj e))⟩
set_option maxRecDepth 100000 in
set_option maxHeartbeats 1000000 in
theorem cloneP_any (l : List (Int × Int)) (a : Option Addr) (c : Nat) (w : World) (h : RowAt w a (pcells l)) (hl : l.length ≤ 1048576) :
    Calls Tryd.prog 64 #[.slice a l.length c] w fun e w' => ∃ a' c', e = .returned (.slice a' l.length c') ∧ w'.ownsRow w.heap.size 55 2 (.slice a' l.length c') l.length (pcells l) ∧ Fresh w w' := by
  have HL : Hid ((pcells l).length = l.length * 2) := pcells_len l
  have HO := Lib.hid (pcells_one l)
  obtain ⟨i0, hi, hz0, hz1, hz2⟩ := info_parts infoSP
  have qn : ∀ (w : World) (a : Option Addr) (n c n' c' : Nat), (binOp .eql 50 (.slice a n c) (.slice none n' c')).run Tryd.prog w = .ok (.bool a.isNone) w := fun w a n c n' c' => Lib.run_eql_slice_nil w _ _ a n c n' c' Tryd.underlying50
  cases a with
  | none =>
    have h0 : l = [] := by
      rcases h with h | ⟨g, o, e, _⟩
      · have := HL.out
        rw [h, List.length_nil] at this
        exact List.eq_nil_of_length_eq_zero (by omega)
      · cases e
    subst h0
    go_enter Tryd.func64, Tryd.ntmps64
    go_wp2
    go_ret
    exact ⟨none, 0, rfl, World.ownsRow_nil _ _ _ _, Fresh.refl _⟩
  | some ad =>
    have HNEWS := Lib.hid (row_news (h.move ((Fresh.refl w).alloc (.cells #[] 55))))
    clear h
    generalize pcells l = xs at *
    generalize l.length = n at *
    go_enter Tryd.func64, Tryd.ntmps64
    go_wp2_with (at_builtin; refine Hid.out ?_)
    refine Lib.hid ?_
    refine wpList_append_own _ rfl _ _ 50 rfl w.heap.size 55 i0 (.agg #[.int .i64 0, .int .i64 0]) 2 16 Tryd.underlying50 hi hz0 hz1 hz2 rfl (by decide) _ 0 _ rfl (World.ownsRow_made w #[] 0 (Nat.le_refl _) (Nat.zero_le _) rfl) ad n c xs rfl HL.out HNEWS.out HO.out (by unfold maxLen; omega) (by omega) (by rw [World.size_alloc]; omega) ?_
    intro v' w3 hown' hgrow _
    have hown2 : w3.ownsRow w.heap.size 55 2 v' n xs := by
      have := hown'
      rwa [Nat.zero_add, List.nil_append] at this
    obtain ⟨o', c', rfl⟩ := own_shape hown2
    have HOWN := Lib.hid hown2
    have HGROW := Lib.hid hgrow
    clear hown' hown2 hgrow
    go_wp2
    go_ret
    exact ⟨o', c', rfl, HOWN.out, ((Fresh.refl w).alloc _).grown HGROW.out (fun g e => Nat.le_of_eq (Option.some.inj e))⟩
set_option maxRecDepth 100000 in
set_option maxHeartbeats 1000000 in
theorem cloneE_any (l : List (ByteArray × ByteArray)) (a : Option Addr) (c : Nat) (w : World) (h : RowAt w a (ecells l)) (hl : l.length ≤ 1048576) :
    Calls Tryd.prog 65 #[.slice a l.length c] w fun e w' => ∃ a' c', e = .returned (.slice a' l.length c') ∧ w'.ownsRow w.heap.size 64 2 (.slice a' l.length c') l.length (ecells l) ∧ Fresh w w' := by
  have HL : Hid ((ecells l).length = l.length * 2) := ecells_len l
  have HO := Lib.hid (ecells_one l)
  obtain ⟨i0, hi, hz0, hz1, hz2⟩ := info_parts infoSE
  have qn : ∀ (w : World) (a : Option Addr) (n c n' c' : Nat), (binOp .eql 51 (.slice a n c) (.slice none n' c')).run Tryd.prog w = .ok (.bool a.isNone) w := fun w a n c n' c' => Lib.run_eql_slice_nil w _ _ a n c n' c' Tryd.underlying51
  cases a with
  | none =>
    have h0 : l = [] := by
      rcases h with h | ⟨g, o, e, _⟩
      · have := HL.out
        rw [h, List.length_nil] at this
        exact List.eq_nil_of_length_eq_zero (by omega)
      · cases e
    subst h0
    go_enter Tryd.func65, Tryd.ntmps65
    go_wp2
    go_ret
    exact ⟨none, 0, rfl, World.ownsRow_nil _ _ _ _, Fresh.refl _⟩
  | some ad =>
    have HNEWS := Lib.hid (row_news (h.move ((Fresh.refl w).alloc (.cells #[] 64))))
    clear h
    generalize ecells l = xs at *
    generalize l.length = n at *
    go_enter Tryd.func65, Tryd.ntmps65
    go_wp2_with (at_builtin; refine Hid.out ?_)
    refine Lib.hid ?_
    refine wpList_append_own _ rfl _ _ 51 rfl w.heap.size 64 i0 (.agg #[.string ⟨#[]⟩, .string ⟨#[]⟩]) 2 32 Tryd.underlying51 hi hz0 hz1 hz2 rfl (by decide) _ 0 _ rfl (World.ownsRow_made w #[] 0 (Nat.le_refl _) (Nat.zero_le _) rfl) ad n c xs rfl HL.out HNEWS.out HO.out (by unfold maxLen; omega) (by omega) (by rw [World.size_alloc]; omega) ?_
    intro v' w3 hown' hgrow _
    have hown2 : w3.ownsRow w.heap.size 64 2 v' n xs := by
      have := hown'
      rwa [Nat.zero_add, List.nil_append] at this
    obtain ⟨o', c', rfl⟩ := own_shape hown2
    have HOWN := Lib.hid hown2
    have HGROW := Lib.hid hgrow
    clear hown' hown2 hgrow
    go_wp2
    go_ret
    exact ⟨o', c', rfl, HOWN.out, ((Fresh.refl w).alloc _).grown HGROW.out (fun g e => Nat.le_of_eq (Option.some.inj e))⟩
set_option maxRecDepth 100000 in
set_option maxHeartbeats 1000000 in
theorem cloneC_any (l : List CM) (a : Option Addr) (c : Nat) (w : World) (h : RowAt w a (ccells l)) (hl : l.length ≤ 1048576) :
    Calls Tryd.prog 38 #[.slice a l.length c] w fun e w' => ∃ a' c', e = .returned (.slice a' l.length c') ∧ w'.ownsRow w.heap.size 53 7 (.slice a' l.length c') l.length (ccells l) ∧ Fresh w w' := by
  have HL : Hid ((ccells l).length = l.length * 7) := ccells_len l
  have HO := Lib.hid (ccells_one l)
  obtain ⟨i0, hi, hz0, hz1, hz2⟩ := info_parts infoSC
  have qn : ∀ (w : World) (a : Option Addr) (n c n' c' : Nat), (binOp .eql 23 (.slice a n c) (.slice none n' c')).run Tryd.prog w = .ok (.bool a.isNone) w := fun w a n c n' c' => Lib.run_eql_slice_nil w _ _ a n c n' c' Tryd.underlying23
  cases a with
  | none =>
    have h0 : l = [] := by
      rcases h with h | ⟨g, o, e, _⟩
      · have := HL.out
        rw [h, List.length_nil] at this
        exact List.eq_nil_of_length_eq_zero (by omega)
      · cases e
    subst h0
    go_enter Tryd.func38, Tryd.ntmps38
    go_wp2
    go_ret
    exact ⟨none, 0, rfl, World.ownsRow_nil _ _ _ _, Fresh.refl _⟩
  | some ad =>
    have HNEWS := Lib.hid (row_news (h.move ((Fresh.refl w).alloc (.cells #[] 53))))
    clear h
    generalize ccells l = xs at *
    generalize l.length = n at *
    go_enter Tryd.func38, Tryd.ntmps38
    go_wp2_with (at_builtin; refine Hid.out ?_)
    refine Lib.hid ?_
    refine wpList_append_own _ rfl _ _ 23 rfl w.heap.size 53 i0 (.agg #[.string ⟨#[]⟩, .string ⟨#[]⟩, .slice none 0 0, .slice none 0 0, .int .i64 0, .int .i64 0, .slice none 0 0]) 7 120 Tryd.underlying23 hi hz0 hz1 hz2 rfl (by decide) _ 0 _ rfl (World.ownsRow_made w #[] 0 (Nat.le_refl _) (Nat.zero_le _) rfl) ad n c xs rfl HL.out HNEWS.out HO.out (by unfold maxLen; omega) (by omega) (by rw [World.size_alloc]; omega) ?_
    intro v' w3 hown' hgrow _
    have hown2 : w3.ownsRow w.heap.size 53 7 v' n xs := by
      have := hown'
      rwa [Nat.zero_add, List.nil_append] at this
    obtain ⟨o', c', rfl⟩ := own_shape hown2
    have HOWN := Lib.hid hown2
    have HGROW := Lib.hid hgrow
    clear hown' hown2 hgrow
    go_wp2
    go_ret
    exact ⟨o', c', rfl, HOWN.out, ((Fresh.refl w).alloc _).grown HGROW.out (fun g e => Nat.le_of_eq (Option.some.inj e))⟩
end Go.Proofs.YtfhhmajkacjbgaaDoor
