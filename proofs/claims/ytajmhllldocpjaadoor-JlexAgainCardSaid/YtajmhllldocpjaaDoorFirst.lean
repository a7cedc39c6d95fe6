/-
  Package jlex: the first word of a text.
-/
import Derived.Test.YtajmhllldocpjaaDoorUnq4
import Derived.Test.YtajmhllldocpjaaDoorWhole
import Derived.Test.YtajmhllldocpjaaDoorSigns
namespace Go.Proofs.YtajmhllldocpjaaDoor
open Go.ChangeShapes Go.WideShapes Go.ChangeAt Go.RowKit
attribute [local go_sem ↓] Go.wp_at_zero Go.wp_at_succ
variable {w : World}

/-- A word but for its place, how many bytes it took, and the code. -/
structure Word where
  kind : Int
  text : List UInt8
  int : Int
  used : Nat
  code : Int
def firstF (l : List UInt8) : Word := match l with
  | [] => ⟨0, [], 0, 1, 6⟩
  | c :: r => if c = 34 then ⟨6, (unqF (c :: r)).1, 0, (unqF (c :: r)).2.1, (unqF (c :: r)).2.2⟩
    else if startB c = true then ⟨10, [], wholeV ((c :: r).take (cnt innB (c :: r))), cnt innB (c :: r), wholeE ((c :: r).take (cnt innB (c :: r)))⟩
    else if letB c = true then ⟨(signK (bs ((c :: r).take (cnt letB (c :: r))))).getD 0, [], 0, cnt letB (c :: r), if (signK (bs ((c :: r).take (cnt letB (c :: r))))).isSome = true then 0 else 6⟩
    else ⟨(signK (bs [c])).getD 0, [], 0, 1, if (signK (bs [c])).isSome = true then 0 else 6⟩
def wordIs (x : Word) : Ending := .returned (.tuple #[.agg #[.int .i64 x.kind, .string (bs x.text), .int .i64 x.int, .int .i64 0], .int .i64 (x.used : Int), .int .i64 x.code])
theorem box_four {w w' : World} {a b c d : Value} {T : TypeId} (f : Fresh (w.alloc (.cells #[a, b, c, d] T)) w') :
    w'.heap[w.heap.size]? = some (.cells #[a, b, c, d] T (0, 0)) := by
  rw [f.block w.heap.size (by simp)]
  exact at_new w _
theorem frozen_of {w : World} {b : Nat} {cs : Array Value} {T : TypeId} (h : w.heap[b]? = some (.cells cs T (0, 0))) (i : Nat) : w.frozen? ⟨b, i, none⟩ = false := by simp [World.frozen?, h]
set_option maxRecDepth 100000 in
set_option maxHeartbeats 2000000 in
theorem first_sign (c : UInt8) (r : List UInt8) (b : Nat) (w : World) (hs : (c :: r).length ≤ 9000000) (h34 : c ≠ 34) (hst : startB c = false) (hk : Known w b) :
    Calls Tryd.prog 19 #[.string (bs (c :: r)), .map (some b)] w fun e w' => e = wordIs (firstF (c :: r)) ∧ Fresh w w' := by
  have e34 : ((c.toNat : Int) == 34) = false := by rw [beq_eq_false_iff_ne]; intro e; exact h34 (UInt8.toNat_inj.1 (by rw [show (34 : UInt8).toNat = 34 from rfl]; omega))
  have HST := Lib.hid (fun W => starts_any c W)
  rw [hst] at HST
  have HLT := Lib.hid (fun W => isLetter_any c W)
  have hZ : firstF (c :: r) = if letB c = true then ⟨(signK (bs ((c :: r).take (cnt letB (c :: r))))).getD 0, [], 0, cnt letB (c :: r), if (signK (bs ((c :: r).take (cnt letB (c :: r))))).isSome = true then 0 else 6⟩
    else ⟨(signK (bs [c])).getD 0, [], 0, 1, if (signK (bs [c])).isSome = true then 0 else 6⟩ := by rw [firstF, if_neg h34, if_neg (by rw [hst]; simp)]
  have hsz := bs_size (c :: r)
  obtain ⟨p1, p2, _, p4⟩ := bs_cons c r
  have hkn := hk.move (Below.heap_alloc w (.cells #[.int .i64 0, .string ⟨#[]⟩, .int .i64 0, .int .i64 0] 34) _ hk.lt)
  have HF := Lib.hid (fun o => (Fresh.refl w).alloc o)
  cases hl : letB c with
  | true =>
    rw [hl] at HLT hZ
    rw [if_pos rfl] at hZ
    have HA := Lib.hid (fun W => ahead_letter (bs (c :: r)) W (by omega))
    rw [bs_toList] at HA
    have hq := cnt_le letB (c :: r)
    have q1 : (bs (c :: r)).extract 0 (cnt letB (c :: r)) = bs ((c :: r).take (cnt letB (c :: r))) := bs_take _ _
    have q2 : cnt letB (c :: r) ≤ (bs (c :: r)).size := by omega
    have hlook := hkn.look (bs ((c :: r).take (cnt letB (c :: r)))) (by rw [bs_size, List.length_take]; omega)
    have HZ := Lib.hid hZ
    generalize firstF (c :: r) = Z at *
    generalize bs ((c :: r).take (cnt letB (c :: r))) = q at *
    generalize cnt letB (c :: r) = n at *
    generalize bs (c :: r) = s at *
    clear hk hkn hZ hst h34 hl hsz hq
    cases hso : signK q with
    | none =>
      rw [hso] at hlook HZ
      clear hso
      go_enter Tryd.func19, Tryd.ntmps19
      go_wp2_with fail
      refine (HST.out _).mono ?_
      rintro e w' ⟨rfl, rfl⟩
      go_wp2_with fail
      refine (HLT.out _).mono ?_
      rintro e w' ⟨rfl, rfl⟩
      go_wp2_with fail
      refine (HA.out _).mono ?_
      rintro e w' ⟨rfl, rfl⟩
      go_wp2
      refine bodyPost_ret (v := .tuple #[.agg #[.int .i64 0, .string ⟨#[]⟩, .int .i64 0, .int .i64 0], .int .i64 n, .int .i64 6]) (by simp [results, Tryd.results19, go_sem]) rfl ⟨?_, HF.out _⟩
      rw [HZ.out]; rfl
    | some k =>
      rw [hso] at hlook HZ
      clear hso
      go_enter Tryd.func19, Tryd.ntmps19
      go_wp2_with fail
      refine (HST.out _).mono ?_
      rintro e w' ⟨rfl, rfl⟩
      go_wp2_with fail
      refine (HLT.out _).mono ?_
      rintro e w' ⟨rfl, rfl⟩
      go_wp2_with fail
      refine (HA.out _).mono ?_
      rintro e w' ⟨rfl, rfl⟩
      go_wp2
      refine bodyPost_ret (v := .tuple #[.agg #[.int .i64 k, .string ⟨#[]⟩, .int .i64 0, .int .i64 0], .int .i64 n, .int .i64 0]) (by simp [results, Tryd.results19, go_sem]) rfl ⟨?_, HF.out _⟩
      rw [HZ.out]; rfl
  | false =>
    rw [hl] at HLT hZ
    rw [if_neg (by simp)] at hZ
    have q1 : (bs (c :: r)).extract 0 1 = bs [c] := bs_take 1 (c :: r)
    have q2 : 1 ≤ (bs (c :: r)).size := by omega
    have hlook := hkn.look (bs [c]) (by rw [bs_size]; simp)
    have HZ := Lib.hid hZ
    generalize firstF (c :: r) = Z at *
    generalize bs [c] = q at *
    generalize bs (c :: r) = s at *
    clear hk hkn hZ hst h34 hl hsz
    cases hso : signK q with
    | none =>
      rw [hso] at hlook HZ
      clear hso
      go_enter Tryd.func19, Tryd.ntmps19
      go_wp2_with fail
      refine (HST.out _).mono ?_
      rintro e w' ⟨rfl, rfl⟩
      go_wp2_with fail
      refine (HLT.out _).mono ?_
      rintro e w' ⟨rfl, rfl⟩
      go_wp2
      refine bodyPost_ret (v := .tuple #[.agg #[.int .i64 0, .string ⟨#[]⟩, .int .i64 0, .int .i64 0], .int .i64 1, .int .i64 6]) (by simp [results, Tryd.results19, go_sem]) rfl ⟨?_, HF.out _⟩
      rw [HZ.out]; rfl
    | some k =>
      rw [hso] at hlook HZ
      clear hso
      go_enter Tryd.func19, Tryd.ntmps19
      go_wp2_with fail
      refine (HST.out _).mono ?_
      rintro e w' ⟨rfl, rfl⟩
      go_wp2_with fail
      refine (HLT.out _).mono ?_
      rintro e w' ⟨rfl, rfl⟩
      go_wp2
      refine bodyPost_ret (v := .tuple #[.agg #[.int .i64 k, .string ⟨#[]⟩, .int .i64 0, .int .i64 0], .int .i64 1, .int .i64 0]) (by simp [results, Tryd.results19, go_sem]) rfl ⟨?_, HF.out _⟩
      rw [HZ.out]; rfl
set_option maxRecDepth 100000 in
set_option maxHeartbeats 2000000 in
theorem first_num (c : UInt8) (r : List UInt8) (b : Nat) (w : World) (hs : (c :: r).length ≤ 9000000) (h34 : c ≠ 34) (hst : startB c = true) (hr : RangeVar w) :
    Calls Tryd.prog 19 #[.string (bs (c :: r)), .map (some b)] w fun e w' => e = wordIs (firstF (c :: r)) ∧ Fresh w w' := by
  have e34 : ((c.toNat : Int) == 34) = false := by rw [beq_eq_false_iff_ne]; intro e; exact h34 (UInt8.toNat_inj.1 (by rw [show (34 : UInt8).toNat = 34 from rfl]; omega))
  have HST := Lib.hid (fun W => starts_any c W)
  rw [hst] at HST
  have hZ : firstF (c :: r) = ⟨10, [], wholeV ((c :: r).take (cnt innB (c :: r))), cnt innB (c :: r), wholeE ((c :: r).take (cnt innB (c :: r)))⟩ := by rw [firstF, if_neg h34, if_pos hst]
  have hsz := bs_size (c :: r)
  obtain ⟨p1, p2, _, p4⟩ := bs_cons c r
  have HA := Lib.hid (fun W => ahead_number (bs (c :: r)) W (by omega))
  rw [bs_toList] at HA
  have hq := cnt_le innB (c :: r)
  have q1 : (bs (c :: r)).extract 0 (cnt innB (c :: r)) = bs ((c :: r).take (cnt innB (c :: r))) := bs_take _ _
  have q2 : cnt innB (c :: r) ≤ (bs (c :: r)).size := by omega
  have HW := Lib.hid (whole_any (bs ((c :: r).take (cnt innB (c :: r)))) (w.alloc (.cells #[.int .i64 10, .string ⟨#[]⟩, .int .i64 0, .int .i64 0] 34)) (by rw [bs_size, List.length_take]; omega) (hr.move ((Fresh.refl w).alloc _)))
  rw [bs_toList] at HW
  have HZ := Lib.hid hZ
  have HF := Lib.hid (fun o => (Fresh.refl w).alloc o)
  generalize firstF (c :: r) = Z at *
  generalize wholeV ((c :: r).take (cnt innB (c :: r))) = v at *
  generalize wholeE ((c :: r).take (cnt innB (c :: r))) = x at *
  generalize bs ((c :: r).take (cnt innB (c :: r))) = q at *
  generalize cnt innB (c :: r) = n at *
  generalize bs (c :: r) = s at *
  clear hZ hst h34 hsz hq hr
  go_enter Tryd.func19, Tryd.ntmps19
  go_wp2_with fail
  refine (HST.out _).mono ?_
  rintro e w' ⟨rfl, rfl⟩
  go_wp2_with fail
  refine (HA.out _).mono ?_
  rintro e w' ⟨rfl, rfl⟩
  go_wp2_with fail
  refine HW.out.mono ?_
  rintro e w1 ⟨rfl, hf⟩
  have hb := box_four hf
  have c0 := cell_of_at hb (i := 0) rfl
  have c1 := cell_of_at hb (i := 1) rfl
  have c2 := cell_of_at hb (i := 2) rfl
  have c3 := cell_of_at hb (i := 3) rfl
  have f0 := frozen_of hb 0
  have f1 := frozen_of hb 1
  have f2 := frozen_of hb 2
  have f3 := frozen_of hb 3
  have hlt := lt_of_at hb
  have HF1 := Lib.hid ((HF.out _).trans hf)
  clear hf hb
  go_wp2
  refine bodyPost_ret (v := .tuple #[.agg #[.int .i64 10, .string ⟨#[]⟩, .int .i64 v, .int .i64 0], .int .i64 n, .int .i64 x]) (by simp [results, Tryd.results19, go_sem, *]) rfl ⟨?_, ?_⟩
  · rw [HZ.out]; rfl
  · repeat' first | exact HF1.out | (refine Fresh.setCell ?_ (Nat.le_refl _) _)
set_option maxRecDepth 100000 in
set_option maxHeartbeats 2000000 in
theorem first_text (r : List UInt8) (b : Nat) (w : World) (hs : r.length ≤ 90000) (hT : Tabs w) :
    Calls Tryd.prog 19 #[.string (bs (34 :: r)), .map (some b)] w fun e w' => e = wordIs (firstF (34 :: r)) ∧ Fresh w w' := by
  have hZ : firstF (34 :: r) = ⟨6, (unqF (34 :: r)).1, 0, (unqF (34 :: r)).2.1, (unqF (34 :: r)).2.2⟩ := by rw [firstF, if_pos rfl]
  have HU := Lib.hid (unquote_mark r (w.alloc (.cells #[.int .i64 6, .string ⟨#[]⟩, .int .i64 0, .int .i64 0] 34)) hs (hT.move ((Fresh.refl w).alloc _)))
  obtain ⟨p1, p2, _, p4⟩ := bs_cons 34 r
  have HZ := Lib.hid hZ
  have HF := Lib.hid (fun o => (Fresh.refl w).alloc o)
  generalize firstF (34 :: r) = Z at *
  generalize unqF (34 :: r) = U at *
  obtain ⟨t, n, x⟩ := U
  dsimp only at HZ
  have HU2 : Hid (Calls Tryd.prog 22 #[.string (bs (34 :: r))] (w.alloc (.cells #[.int .i64 6, .string ⟨#[]⟩, .int .i64 0, .int .i64 0] 34)) fun e w' => e = .returned (.tuple #[.string (bs t), .int .i64 (n : Int), .int .i64 x]) ∧ Fresh (w.alloc (.cells #[.int .i64 6, .string ⟨#[]⟩, .int .i64 0, .int .i64 0] 34)) w') := HU.out
  generalize bs (34 :: r) = s at *
  clear hZ hs hT HU
  have HZ2 : Hid (wordIs Z = .returned (.tuple #[.agg #[.int .i64 6, .string (bs t), .int .i64 0, .int .i64 0], .int .i64 (n : Int), .int .i64 x])) := by rw [Hid, HZ.out]; rfl
  generalize bs t = q at *
  go_enter Tryd.func19, Tryd.ntmps19
  go_wp2_with fail
  refine HU2.out.mono ?_
  rintro e w1 ⟨rfl, hf⟩
  have hb := box_four hf
  have c0 := cell_of_at hb (i := 0) rfl
  have c1 := cell_of_at hb (i := 1) rfl
  have c2 := cell_of_at hb (i := 2) rfl
  have c3 := cell_of_at hb (i := 3) rfl
  have f0 := frozen_of hb 0
  have f1 := frozen_of hb 1
  have f2 := frozen_of hb 2
  have f3 := frozen_of hb 3
  have hlt := lt_of_at hb
  have HF1 := Lib.hid ((HF.out _).trans hf)
  clear hf hb
  go_wp2
  refine bodyPost_ret (v := .tuple #[.agg #[.int .i64 6, .string q, .int .i64 0, .int .i64 0], .int .i64 n, .int .i64 x]) (by simp [results, Tryd.results19, go_sem, *]) rfl ⟨?_, ?_⟩
  · rw [HZ2.out]
  · repeat' first | exact HF1.out | (refine Fresh.setCell ?_ (Nat.le_refl _) _)
theorem first_all' (c : UInt8) (r : List UInt8) (b : Nat) (w : World) (hs : (c :: r).length ≤ 90000) (hT : Tabs w) (hr : RangeVar w) (hk : Known w b) :
    Calls Tryd.prog 19 #[.string (bs (c :: r)), .map (some b)] w fun e w' => e = wordIs (firstF (c :: r)) ∧ Fresh w w' := by
  by_cases h34 : c = 34
  · subst h34
    exact first_text r b w (by rw [List.length_cons] at hs; omega) hT
  · cases hst : startB c with
    | true => exact first_num c r b w (by omega) h34 hst hr
    | false => exact first_sign c r b w (by omega) h34 hst hk
end Go.Proofs.YtajmhllldocpjaaDoor
