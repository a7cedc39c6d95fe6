/-
  Parts of the proof: First Lex Quote2 Pieces YJawake VSame.
-/
import Derived.Test.YtcljplkkgpjhlaaGreatDoorRCat08
import Derived.Test.YtcljplkkgpjhlaaGreatDoorRCat10
import Derived.Test.YtcljplkkgpjhlaaGreatDoorRCat32
import Derived.Test.YtcljplkkgpjhlaaGreatDoorRCat06
import Derived.Test.YtcljplkkgpjhlaaGreatDoorRCat07
import Derived.Test.YtcljplkkgpjhlaaGreatDoorRCat02
import Derived.Test.YtcljplkkgpjhlaaGreatDoorRCat18
import Derived.RegionTactic
import Derived.Deep.RegionHeld3
import Derived.Deep.RegionHeldLaw
import Derived.Deep.DrawnRows
set_option maxRecDepth 100000
set_option maxHeartbeats 8000000
namespace Go.Proofs.YtcljplkkgpjhlaaGreatDoorR
section
open Go.ChangeShapes Go.WideShapes Go.ChangeAt Go.RowKit
attribute [local go_sem ↓] Go.wp_at_zero Go.wp_at_succ
variable {w : World}
structure Word where
  kind : Int
  text : List UInt8
  int : Int
  used : Nat
  code : Int
def firstF (l : List UInt8) : Word := match l with
  | [] => ⟨0, [], 0, 1, 6⟩
  | c :: r => if c = 34 then ⟨6, (unqF (c :: r)).1, 0, (unqF (c :: r)).2.1, (unqF (c :: r)).2.2⟩
    else if startB c = true then ⟨10, [], wholeV ((c :: r).take (cnt innB (c :: r))), cnt innB (c :: r), wholeE ((c :: r).take (cnt innB (c :: r)))⟩
    else if letB c = true then ⟨(signK (bs ((c :: r).take (cnt letB (c :: r))))).getD 0, [], 0, cnt letB (c :: r), if (signK (bs ((c :: r).take (cnt letB (c :: r))))).isSome = true then 0 else 6⟩
    else ⟨(signK (bs [c])).getD 0, [], 0, 1, if (signK (bs [c])).isSome = true then 0 else 6⟩
def wordIs (x : Word) : Ending := .returned (.tuple #[.agg #[.int .i64 x.kind, .string (bs x.text), .int .i64 x.int, .int .i64 0], .int .i64 (x.used : Int), .int .i64 x.code])
theorem box_four {w w' : World} {a b c d : Value} {T : TypeId} (f : Fresh (w.alloc (.cells #[a, b, c, d] T)) w') :
    w'.heap[w.heap.size]? = some (.cells #[a, b, c, d] T (0, 0)) := by
  rw [f.block w.heap.size (by simp)]
  exact at_new w _
theorem frozen_of {w : World} {b : Nat} {cs : Array Value} {T : TypeId} (h : w.heap[b]? = some (.cells cs T (0, 0))) (i : Nat) : w.frozen? ⟨b, i, none⟩ = false := by simp [World.frozen?, h]
theorem first_sign (c : UInt8) (r : List UInt8) (b : Nat) (w : World) (hs : (c :: r).length ≤ 9000000) (h34 : c ≠ 34) (hst : startB c = false) (hk : Known w b) :
    Calls Tryz.prog 73 #[.string (bs (c :: r)), .map (some b)] w fun e w' => e = wordIs (firstF (c :: r)) ∧ Fresh w w' := by
  have e34 : ((c.toNat : Int) == 34) = false := by rw [beq_eq_false_iff_ne]; intro e; exact h34 (UInt8.toNat_inj.1 (by rw [show (34 : UInt8).toNat = 34 from rfl]; omega))
  have HST := Lib.hid (fun W => starts_any c W)
  rw [hst] at HST
  have HLT := Lib.hid (fun W => isLetter_any c W)
  have hZ : firstF (c :: r) = if letB c = true then ⟨(signK (bs ((c :: r).take (cnt letB (c :: r))))).getD 0, [], 0, cnt letB (c :: r), if (signK (bs ((c :: r).take (cnt letB (c :: r))))).isSome = true then 0 else 6⟩
    else ⟨(signK (bs [c])).getD 0, [], 0, 1, if (signK (bs [c])).isSome = true then 0 else 6⟩ := by rw [firstF, if_neg h34, if_neg (by rw [hst]; simp)]
  have hsz := bs_size (c :: r)
  obtain ⟨p1, p2, _, p4⟩ := bs_cons c r
  have hkn := hk.move (Below.heap_alloc w (.cells #[.int .i64 0, .string ⟨#[]⟩, .int .i64 0, .int .i64 0] 89) _ hk.lt)
  have HF := Lib.hid (fun o => (Fresh.refl w).alloc o)
  cases hl : letB c with
  | true =>
    rw [hl] at HLT hZ
    rw [if_pos rfl] at hZ
    have HA := Lib.hid (fun W => ahead_letter (bs (c :: r)) W (by omega))
    rw [bs_toList] at HA
    have hq := cnt_le letB (c :: r)
    have q1 : (bs (c :: r)).extract 0 (cnt letB (c :: r)) = bs ((c :: r).take (cnt letB (c :: r))) := bs_take _ _
    have q2 : cnt letB (c :: r) ≤ (bs (c :: r)).size := by omega
    have hlook := hkn.look (bs ((c :: r).take (cnt letB (c :: r)))) (by rw [bs_size, List.length_take]; omega)
    have HZ := Lib.hid hZ
    generalize firstF (c :: r) = Z at *
    generalize bs ((c :: r).take (cnt letB (c :: r))) = q at *
    generalize cnt letB (c :: r) = n at *
    generalize bs (c :: r) = s at *
    clear hk hkn hZ hst h34 hl hsz hq
    cases hso : signK q with
    | none =>
      rw [hso] at hlook HZ
      clear hso
      go_enter Tryz.func73, Tryz.ntmps73
      go_wp2_with fail
      refine (HST.out _).mono ?_
      rintro e w' ⟨rfl, rfl⟩
      go_wp2_with fail
      refine (HLT.out _).mono ?_
      rintro e w' ⟨rfl, rfl⟩
      go_wp2_with fail
      refine (HA.out _).mono ?_
      rintro e w' ⟨rfl, rfl⟩
      go_wp2
      refine bodyPost_ret (v := .tuple #[.agg #[.int .i64 0, .string ⟨#[]⟩, .int .i64 0, .int .i64 0], .int .i64 n, .int .i64 6]) (by simp [results, Tryz.results73, go_sem]) rfl ⟨?_, HF.out _⟩
      rw [HZ.out]; rfl
    | some k =>
      rw [hso] at hlook HZ
      clear hso
      go_enter Tryz.func73, Tryz.ntmps73
      go_wp2_with fail
      refine (HST.out _).mono ?_
      rintro e w' ⟨rfl, rfl⟩
      go_wp2_with fail
      refine (HLT.out _).mono ?_
      rintro e w' ⟨rfl, rfl⟩
      go_wp2_with fail
      refine (HA.out _).mono ?_
      rintro e w' ⟨rfl, rfl⟩
      go_wp2
      refine bodyPost_ret (v := .tuple #[.agg #[.int .i64 k, .string ⟨#[]⟩, .int .i64 0, .int .i64 0], .int .i64 n, .int .i64 0]) (by simp [results, Tryz.results73, go_sem]) rfl ⟨?_, HF.out _⟩
      rw [HZ.out]; rfl
  | false =>
    rw [hl] at HLT hZ
    rw [if_neg (by simp)] at hZ
    have q1 : (bs (c :: r)).extract 0 1 = bs [c] := bs_take 1 (c :: r)
    have q2 : 1 ≤ (bs (c :: r)).size := by omega
    have hlook := hkn.look (bs [c]) (by rw [bs_size]; simp)
    have HZ := Lib.hid hZ
    generalize firstF (c :: r) = Z at *
    generalize bs [c] = q at *
    generalize bs (c :: r) = s at *
    clear hk hkn hZ hst h34 hl hsz
    cases hso : signK q with
    | none =>
      rw [hso] at hlook HZ
      clear hso
      go_enter Tryz.func73, Tryz.ntmps73
      go_wp2_with fail
      refine (HST.out _).mono ?_
      rintro e w' ⟨rfl, rfl⟩
      go_wp2_with fail
      refine (HLT.out _).mono ?_
      rintro e w' ⟨rfl, rfl⟩
      go_wp2
      refine bodyPost_ret (v := .tuple #[.agg #[.int .i64 0, .string ⟨#[]⟩, .int .i64 0, .int .i64 0], .int .i64 1, .int .i64 6]) (by simp [results, Tryz.results73, go_sem]) rfl ⟨?_, HF.out _⟩
      rw [HZ.out]; rfl
    | some k =>
      rw [hso] at hlook HZ
      clear hso
      go_enter Tryz.func73, Tryz.ntmps73
      go_wp2_with fail
      refine (HST.out _).mono ?_
      rintro e w' ⟨rfl, rfl⟩
      go_wp2_with fail
      refine (HLT.out _).mono ?_
      rintro e w' ⟨rfl, rfl⟩
      go_wp2
      refine bodyPost_ret (v := .tuple #[.agg #[.int .i64 k, .string ⟨#[]⟩, .int .i64 0, .int .i64 0], .int .i64 1, .int .i64 0]) (by simp [results, Tryz.results73, go_sem]) rfl ⟨?_, HF.out _⟩
      rw [HZ.out]; rfl
theorem first_num (c : UInt8) (r : List UInt8) (b : Nat) (w : World) (hs : (c :: r).length ≤ 9000000) (h34 : c ≠ 34) (hst : startB c = true) (hr : RangeVar w) :
    Calls Tryz.prog 73 #[.string (bs (c :: r)), .map (some b)] w fun e w' => e = wordIs (firstF (c :: r)) ∧ Fresh w w' := by
  have e34 : ((c.toNat : Int) == 34) = false := by rw [beq_eq_false_iff_ne]; intro e; exact h34 (UInt8.toNat_inj.1 (by rw [show (34 : UInt8).toNat = 34 from rfl]; omega))
  have HST := Lib.hid (fun W => starts_any c W)
  rw [hst] at HST
  have hZ : firstF (c :: r) = ⟨10, [], wholeV ((c :: r).take (cnt innB (c :: r))), cnt innB (c :: r), wholeE ((c :: r).take (cnt innB (c :: r)))⟩ := by rw [firstF, if_neg h34, if_pos hst]
  have hsz := bs_size (c :: r)
  obtain ⟨p1, p2, _, p4⟩ := bs_cons c r
  have HA := Lib.hid (fun W => ahead_number (bs (c :: r)) W (by omega))
  rw [bs_toList] at HA
  have hq := cnt_le innB (c :: r)
  have q1 : (bs (c :: r)).extract 0 (cnt innB (c :: r)) = bs ((c :: r).take (cnt innB (c :: r))) := bs_take _ _
  have q2 : cnt innB (c :: r) ≤ (bs (c :: r)).size := by omega
  have HW := Lib.hid (whole_any (bs ((c :: r).take (cnt innB (c :: r)))) (w.alloc (.cells #[.int .i64 10, .string ⟨#[]⟩, .int .i64 0, .int .i64 0] 89)) (by rw [bs_size, List.length_take]; omega) (hr.move ((Fresh.refl w).alloc _)))
  rw [bs_toList] at HW
  have HZ := Lib.hid hZ
  have HF := Lib.hid (fun o => (Fresh.refl w).alloc o)
  generalize firstF (c :: r) = Z at *
  generalize wholeV ((c :: r).take (cnt innB (c :: r))) = v at *
  generalize wholeE ((c :: r).take (cnt innB (c :: r))) = x at *
  generalize bs ((c :: r).take (cnt innB (c :: r))) = q at *
  generalize cnt innB (c :: r) = n at *
  generalize bs (c :: r) = s at *
  clear hZ hst h34 hsz hq hr
  go_enter Tryz.func73, Tryz.ntmps73
  go_wp2_with fail
  refine (HST.out _).mono ?_
  rintro e w' ⟨rfl, rfl⟩
  go_wp2_with fail
  refine (HA.out _).mono ?_
  rintro e w' ⟨rfl, rfl⟩
  go_wp2_with fail
  refine HW.out.mono ?_
  rintro e w1 ⟨rfl, hf⟩
  have hb := box_four hf
  have c0 := cell_of_at hb (i := 0) rfl
  have c1 := cell_of_at hb (i := 1) rfl
  have c2 := cell_of_at hb (i := 2) rfl
  have c3 := cell_of_at hb (i := 3) rfl
  have f0 := frozen_of hb 0
  have f1 := frozen_of hb 1
  have f2 := frozen_of hb 2
  have f3 := frozen_of hb 3
  have hlt := lt_of_at hb
  have HF1 := Lib.hid ((HF.out _).trans hf)
  clear hf hb
  go_wp2
  refine bodyPost_ret (v := .tuple #[.agg #[.int .i64 10, .string ⟨#[]⟩, .int .i64 v, .int .i64 0], .int .i64 n, .int .i64 x]) (by simp [results, Tryz.results73, go_sem, *]) rfl ⟨?_, ?_⟩
  · rw [HZ.out]; rfl
  · repeat' first | exact HF1.out | (refine Fresh.setCell ?_ (Nat.le_refl _) _)
theorem first_text (r : List UInt8) (b : Nat) (w : World) (hs : r.length ≤ 90000) (hT : Tabs w) :
    Calls Tryz.prog 73 #[.string (bs (34 :: r)), .map (some b)] w fun e w' => e = wordIs (firstF (34 :: r)) ∧ Fresh w w' := by
  have hZ : firstF (34 :: r) = ⟨6, (unqF (34 :: r)).1, 0, (unqF (34 :: r)).2.1, (unqF (34 :: r)).2.2⟩ := by rw [firstF, if_pos rfl]
  have HU := Lib.hid (unquote_mark r (w.alloc (.cells #[.int .i64 6, .string ⟨#[]⟩, .int .i64 0, .int .i64 0] 89)) hs (hT.move ((Fresh.refl w).alloc _)))
  obtain ⟨p1, p2, _, p4⟩ := bs_cons 34 r
  have HZ := Lib.hid hZ
  have HF := Lib.hid (fun o => (Fresh.refl w).alloc o)
  generalize firstF (34 :: r) = Z at *
  generalize unqF (34 :: r) = U at *
  obtain ⟨t, n, x⟩ := U
  dsimp only at HZ
  have HU2 : Hid (Calls Tryz.prog 74 #[.string (bs (34 :: r))] (w.alloc (.cells #[.int .i64 6, .string ⟨#[]⟩, .int .i64 0, .int .i64 0] 89)) fun e w' => e = .returned (.tuple #[.string (bs t), .int .i64 (n : Int), .int .i64 x]) ∧ Fresh (w.alloc (.cells #[.int .i64 6, .string ⟨#[]⟩, .int .i64 0, .int .i64 0] 89)) w') := HU.out
  generalize bs (34 :: r) = s at *
  clear hZ hs hT HU
  have HZ2 : Hid (wordIs Z = .returned (.tuple #[.agg #[.int .i64 6, .string (bs t), .int .i64 0, .int .i64 0], .int .i64 (n : Int), .int .i64 x])) := by rw [Hid, HZ.out]; rfl
  generalize bs t = q at *
  go_enter Tryz.func73, Tryz.ntmps73
  go_wp2_with fail
  refine HU2.out.mono ?_
  rintro e w1 ⟨rfl, hf⟩
  have hb := box_four hf
  have c0 := cell_of_at hb (i := 0) rfl
  have c1 := cell_of_at hb (i := 1) rfl
  have c2 := cell_of_at hb (i := 2) rfl
  have c3 := cell_of_at hb (i := 3) rfl
  have f0 := frozen_of hb 0
  have f1 := frozen_of hb 1
  have f2 := frozen_of hb 2
  have f3 := frozen_of hb 3
  have hlt := lt_of_at hb
  have HF1 := Lib.hid ((HF.out _).trans hf)
  clear hf hb
  go_wp2
  refine bodyPost_ret (v := .tuple #[.agg #[.int .i64 6, .string q, .int .i64 0, .int .i64 0], .int .i64 n, .int .i64 x]) (by simp [results, Tryz.results73, go_sem, *]) rfl ⟨?_, ?_⟩
  · rw [HZ2.out]
  · repeat' first | exact HF1.out | (refine Fresh.setCell ?_ (Nat.le_refl _) _)
theorem first_all' (c : UInt8) (r : List UInt8) (b : Nat) (w : World) (hs : (c :: r).length ≤ 90000) (hT : Tabs w) (hr : RangeVar w) (hk : Known w b) :
    Calls Tryz.prog 73 #[.string (bs (c :: r)), .map (some b)] w fun e w' => e = wordIs (firstF (c :: r)) ∧ Fresh w w' := by
  by_cases h34 : c = 34
  · subst h34
    exact first_text r b w (by rw [List.length_cons] at hs; omega) hT
  · cases hst : startB c with
    | true => exact first_num c r b w (by omega) h34 hst hr
    | false => exact first_sign c r b w (by omega) h34 hst hk
structure Tok where
  kind : Int
  text : List UInt8
  int : Int
  at_ : Nat
def tcell (t : Tok) : List Value := [.int .i64 t.kind, .string (bs t.text), .int .i64 t.int, .int .i64 (t.at_ : Int)]
def tcells (l : List Tok) : List Value := l.flatMap tcell
theorem tcells_snoc (l : List Tok) (t : Tok) : tcells (l ++ [t]) = tcells l ++ tcell t := by simp [tcells]
theorem tcell_one (t : Tok) : ∀ u ∈ tcell t, u.oneCell' = true := fun u hu => by
  simp only [tcell, List.mem_cons, List.not_mem_nil, or_false] at hu
  rcases hu with rfl | rfl | rfl | rfl <;> rfl
def TBuf (w : World) (B : Nat) (v : Value) (l : List Tok) : Prop := w.ownsRow B 89 4 v l.length (tcells l)
theorem TBuf.lt {w : World} {B : Nat} {v : Value} {l : List Tok} (h : TBuf w B v l) : ∀ g, v.ownBlock = some g → B ≤ g ∧ g < w.heap.size := World.ownsRow.lt h
theorem TBuf.fresh {w w' : World} {B : Nat} {v : Value} {l : List Tok} (h : TBuf w B v l) (hf : Fresh w w') : TBuf w' B v l := by
  refine World.ownsRow.kept (row := none) h ⟨hf.os, hf.tape, hf.output, hf.size, fun k hk _ => hf.block k hk⟩ ?_
  rcases h' : v.ownBlock with _ | g
  · exact .inl rfl
  · exact .inr (by simp)
theorem TBuf.more {w' : World} {B : Nat} {v : Value} {l : List Tok} {t : Tok} (h : w'.ownsRow B 89 4 v (l.length + 1) (tcells l ++ tcell t)) : TBuf w' B v (l ++ [t]) := by
  unfold TBuf
  rw [tcells_snoc, List.length_append]
  exact h
theorem info34 : (Tryz.prog.info? 89).map (fun i => (i.zero, i.size, i.bytes)) = some (some (.agg #[.int .i64 0, .string ⟨#[]⟩, .int .i64 0, .int .i64 0]), 4, 40) := by kernel_rfl
theorem info34_parts : ∃ i, Tryz.prog.info? 89 = some i ∧ i.zero = some (.agg #[.int .i64 0, .string ⟨#[]⟩, .int .i64 0, .int .i64 0]) ∧ i.size = 4 ∧ i.bytes = 40 := by
  obtain ⟨i, h1, h2⟩ := Option.map_eq_some_iff.1 info34
  simp only [Prod.mk.injEq] at h2
  exact ⟨i, h1, h2.1, h2.2.1, h2.2.2⟩
def lexA : Nat → List UInt8 → Nat → List Tok → List Tok × Nat × Int
  | 0, _, _, _ => ([], 0, 6)
  | f + 1, l, a, acc => match l.drop (cnt blankB l) with
    | [] => (acc ++ [⟨11, [], 0, a + cnt blankB l⟩], 0, 0)
    | c :: r => if (firstF (c :: r)).code ≠ 0 then ([], a + cnt blankB l, (firstF (c :: r)).code)
      else lexA f ((c :: r).drop (firstF (c :: r)).used) (a + cnt blankB l + (firstF (c :: r)).used) (acc ++ [⟨(firstF (c :: r)).kind, (firstF (c :: r)).text, (firstF (c :: r)).int, a + cnt blankB l⟩])
theorem lexA_end (f : Nat) (l : List UInt8) (a : Nat) (acc : List Tok) (h : l.drop (cnt blankB l) = []) : lexA (f + 1) l a acc = (acc ++ [⟨11, [], 0, a + cnt blankB l⟩], 0, 0) := by
  rw [lexA, h]
theorem lexA_step (f : Nat) (l : List UInt8) (a : Nat) (acc : List Tok) (c : UInt8) (r : List UInt8) (h : l.drop (cnt blankB l) = c :: r) : lexA (f + 1) l a acc = if (firstF (c :: r)).code ≠ 0 then ([], a + cnt blankB l, (firstF (c :: r)).code)
      else lexA f ((c :: r).drop (firstF (c :: r)).used) (a + cnt blankB l + (firstF (c :: r)).used) (acc ++ [⟨(firstF (c :: r)).kind, (firstF (c :: r)).text, (firstF (c :: r)).int, a + cnt blankB l⟩]) := by
  rw [lexA, h]
theorem loopF_len : ∀ (f : Nat) (l acc : List UInt8), (loopF f l acc).1 = 0 → (loopF f l acc).2.2.length < l.length
  | 0, l, acc, h => by simp [loopF] at h
  | f + 1, [], acc, h => by simp [loopF] at h
  | f + 1, c :: r, acc, h => by
    rw [loopF] at h ⊢
    by_cases hc : c = 34
    · rw [if_pos hc]; simp
    · rw [if_neg hc] at h ⊢
      have hl := chrF_len (c :: r)
      by_cases hx : (chrF (c :: r)).1 ≠ 0
      · rw [if_pos hx] at h; exact absurd h hx
      · rw [if_neg hx] at h ⊢
        have h1 := (hl (by simpa using hx)).2
        have h2 := loopF_len f _ _ h
        omega
theorem first_used (c : UInt8) (r : List UInt8) (h : (firstF (c :: r)).code = 0) : 1 ≤ (firstF (c :: r)).used ∧ (firstF (c :: r)).used ≤ (c :: r).length := by
  unfold firstF at h ⊢
  dsimp only at h ⊢
  by_cases h1 : c = 34
  · subst h1
    rw [if_pos rfl] at h ⊢
    dsimp only at h ⊢
    have hl := loopF_len (r.length + 1) r []
    unfold unqF at h ⊢
    dsimp only at h ⊢
    rw [if_neg (by simp)] at h ⊢
    by_cases a : (loopF (r.length + 1) r []).1 ≠ 0
    · rw [if_pos a] at h; exact absurd h a
    rw [if_neg a] at h ⊢
    by_cases b : 4096 < (loopF (r.length + 1) r []).2.1.length
    · rw [if_pos b] at h; simp at h
    rw [if_neg b]
    have := hl (by simpa using a)
    dsimp only
    rw [List.length_cons]
    omega
  rw [if_neg h1] at h ⊢
  by_cases h2 : startB c = true
  · rw [if_pos h2]
    have hi : innB c = true := by simp [innB, h2]
    have := cnt_le innB (c :: r)
    refine ⟨?_, this⟩
    show 1 ≤ cnt innB (c :: r)
    rw [cnt, if_pos hi]; omega
  rw [if_neg h2]
  by_cases h3 : letB c = true
  · rw [if_pos h3]
    refine ⟨?_, cnt_le letB (c :: r)⟩
    show 1 ≤ cnt letB (c :: r)
    rw [cnt, if_pos h3]; omega
  · rw [if_neg h3]
    simp
def LexIs (w : World) (x : List Tok × Nat × Int) (e : Ending) (w' : World) : Prop :=
  (if x.2.2 = 0 then ∃ B g cap, w.heap.size ≤ B ∧ e = .returned (.tuple #[.slice (some ⟨g, 0, none⟩) x.1.length cap, .int .i64 0, .int .i64 0]) ∧ TBuf w' B (.slice (some ⟨g, 0, none⟩) x.1.length cap) x.1
    else e = .returned (.tuple #[.slice none 0 0, .int .i64 (x.2.1 : Int), .int .i64 x.2.2])) ∧ Fresh w w'
theorem tnews (w : World) (t : Tok) : ∀ j u, (tcell t)[j]? = some u → (w.alloc (.cells #[.int .i64 t.kind, .string (bs t.text), .int .i64 t.int, .int .i64 (t.at_ : Int)] 89)).cell? ((⟨w.heap.size, 0, none⟩ : Addr).add j) = some u :=
  World.news_of_block (at_new w (.cells #[.int .i64 t.kind, .string (bs t.text), .int .i64 t.int, .int .i64 (t.at_ : Int)] 89))
theorem lex_any (l : List UInt8) (w : World) (hs : l.length ≤ 90000) (hT : Tabs w) (hr : RangeVar w) : Calls Tryz.prog 44 #[.string (bs l)] w (LexIs w (lexA (l.length + 1) l 0 [])) := by
  obtain ⟨i0, hi, hz0, hz1, hz2⟩ := info34_parts
  have HT := Lib.hid hT
  have HR := Lib.hid hr
  have hsz := bs_size l
  have HSZ := Lib.hid hsz
  have hsz2 : (bs l).size ≤ 90000 := by omega
  have HCUT : Hid (∀ a : Nat, (bs l).extract a (bs l).size = bs (l.drop a)) := fun a => bs_drop a l
  generalize bs l = s at *
  generalize hL : lexA (l.length + 1) l 0 [] = L at *
  have HL := Lib.hid hL
  have HSL := Lib.hid hs
  clear hT hr hsz hL hs
  go_enter Tryz.func44, Tryz.ntmps44
  go_wp2_with fail
  refine (signs_any w).mono ?_
  rintro e wk ⟨rfl, hkn, hfk⟩
  have HKN := Lib.hid hkn
  have HFK := Lib.hid hfk
  clear hkn hfk
  obtain ⟨kb, hkb⟩ : ∃ kb, kb = w.heap.size := ⟨_, rfl⟩
  rw [← hkb] at HKN ⊢
  have HKB := Lib.hid hkb
  clear hkb
  go_wp2
  go_loopw [2, 3] (fun a2 a3 wr => ∃ (a f : Nat) (acc : List Tok) (v : Value), a ≤ 90000 ∧ a3 = .int .i64 a ∧ v = a2 ∧ Hid (a ≤ l.length ∧ l.length - a < f ∧ acc.length ≤ a) ∧ Hid (L = lexA f (l.drop a) a acc) ∧ Hid (TBuf wr wk.heap.size v acc) ∧ Hid (Fresh wk wr)) (fun _ a3 _ => s.size - (intOf a3).toNat)
  case atStart => exact ⟨0, l.length + 1, [], .slice none 0 0, by omega, rfl, rfl, ⟨by omega, by omega, by simp⟩, HL.out.symm, World.ownsRow_nil _ _ _ _, Fresh.refl _⟩
  case round =>
    obtain ⟨a, f, acc, v, ha, rfl, rfl, HA, HE, HB, HF⟩ := hrel
    obtain ⟨f, rfl⟩ : ∃ g, f = g + 1 := ⟨f - 1, by have := HA.out.2.1; omega⟩
    have q0 := HCUT.out a
    have k0 : a ≤ s.size := by rw [HSZ.out]; exact HA.out.1
    have hcnt := cnt_le blankB (l.drop a)
    have hdl : (l.drop a).length = l.length - a := by simp
    have hm1 : a + cnt blankB (l.drop a) ≤ l.length := by have := HA.out.1; omega
    have HAB := Lib.hid (fun W => ahead_blank (bs (l.drop a)) W (by rw [bs_size]; have := HSL.out; omega))
    rw [bs_toList] at HAB
    have hdd : (l.drop a).drop (cnt blankB (l.drop a)) = l.drop (a + cnt blankB (l.drop a)) := by rw [List.drop_drop]
    have hend := lexA_end f (l.drop a) a acc
    have hstep := lexA_step f (l.drop a) a acc
    rw [hdd] at hend hstep
    generalize cnt blankB (l.drop a) = n at *
    generalize bs (l.drop a) = r0 at *
    obtain ⟨m, hm⟩ : ∃ m : Nat, m = a + n := ⟨_, rfl⟩
    rw [← hm] at hend hstep hm1
    have hmi : (a : Int) + (n : Int) = (m : Int) := by omega
    have hn9 : n ≤ 90000 := by have := HSL.out; omega
    have hm9 : m ≤ 90000 := by have := HSL.out; omega
    have q1 := HCUT.out m
    have k1 : m ≤ s.size := by rw [HSZ.out]; exact hm1
    have HM1 := Lib.hid hm1
    have HMA : Hid (a ≤ m) := by rw [Hid, hm]; omega
    clear hcnt hdl hdd hm hm1
    rcases hd : l.drop m with _ | ⟨c, r⟩
    · have HX : Hid (L = (acc ++ [⟨11, [], 0, m⟩], 0, 0)) := by rw [Hid, HE.out]; exact hend hd
      have e0 : ((m : Int) == (s.size : Int)) = true := by
        have := congrArg List.length hd
        simp at this
        have h2 := HM1.out
        rw [beq_iff_eq, HSZ.out]; omega
      clear hend hstep q1
      have HCELL := Lib.hid (tnews wr ⟨11, [], 0, m⟩)
      have HAC : Hid (acc.length ≤ 90000) := Nat.le_trans HA.out.2.2 ha
      have hac := HAC.out
      go_wp2_with fail
      refine (HAB.out _).mono ?_
      rintro e w' ⟨rfl, rfl⟩
      go_wp2_with (at_builtin; refine Hid.out ?_)
      refine Lib.hid ?_
      refine wpList_append_lies _ rfl _ _ 84 rfl wk.heap.size 89 i0 (.agg #[.int .i64 0, .string ⟨#[]⟩, .int .i64 0, .int .i64 0]) 4 40 Tryz.underlying84 hi hz0 hz1 hz2 rfl (by decide) v acc.length (tcells acc) rfl (World.ownsRow.alloc HB.out _) ⟨wr.heap.size, 0, none⟩ 1 1 (tcell ⟨11, [], 0, m⟩) rfl rfl HCELL.out (tcell_one _) (by decide) (by unfold maxLen; omega) (by omega) (by rw [World.size_alloc]; have := HF.out.size; omega) (wr.heap.size + 1) (by simp) ?_
      intro g cap w2 hown hgrow hat hlt
      have HT2 := Lib.hid (TBuf.more hown)
      have HF2 := Lib.hid ((HF.out.alloc (.cells #[.int .i64 11, .string (bs []), .int .i64 0, .int .i64 m] 89)).grown hgrow (fun g e => (HB.out.lt g e).1))
      clear hown hgrow hat hlt
      go_wp2
      refine bodyPost_ret (v := .tuple #[.slice (some ⟨g, 0, none⟩) (acc.length + 1) cap, .int .i64 0, .int .i64 0]) (by simp [results, Tryz.results44, go_sem]) rfl ⟨?_, HFK.out.trans HF2.out⟩
      rw [HX.out, if_pos rfl]
      refine ⟨wk.heap.size, g, cap, HFK.out.size, ?_, ?_⟩
      · rw [List.length_append]; rfl
      · have e1 : (acc ++ [(⟨11, [], 0, m⟩ : Tok)]).length = acc.length + 1 := by rw [List.length_append]; rfl
        rw [e1]
        exact HT2.out
    · have hS := hstep c r hd
      have hused := first_used c r
      have hcl : (c :: r).length = l.length - m := by rw [← hd]; simp
      have HFI := Lib.hid (fun W h1 h2 h3 => first_all' c r kb W (by have := HSL.out; omega) h1 h2 h3)
      rw [hd] at q1
      have e0 : ((m : Int) == (s.size : Int)) = false := by
        have h2 := HM1.out
        rw [beq_eq_false_iff_ne, HSZ.out]; simp only [List.length_cons] at hcl; omega
      have hdr : ∀ u : Nat, (c :: r).drop u = l.drop (m + u) := fun u => by rw [← hd, List.drop_drop]
      clear hend hstep hd
      generalize bs (c :: r) = r1 at *
      generalize firstF (c :: r) = X at *
      obtain ⟨xk, xt, xn, xu, xc⟩ := X
      dsimp only at hS hused
      have HFI2 : Hid (∀ W, Tabs W → RangeVar W → Known W kb → Calls Tryz.prog 73 #[.string r1, .map (some kb)] W fun e w' => e = .returned (.tuple #[.agg #[.int .i64 xk, .string (bs xt), .int .i64 xn, .int .i64 0], .int .i64 (xu : Int), .int .i64 xc]) ∧ Fresh W w') := HFI.out
      clear HFI
      by_cases hx : xc = 0
      · subst hx
        rw [if_neg (by simp), hdr] at hS
        have hu := hused rfl
        have HX : Hid (L = lexA f (l.drop (m + xu)) (m + xu) (acc ++ [⟨xk, xt, xn, m⟩])) := by rw [Hid, HE.out]; exact hS
        obtain ⟨m2, hm2⟩ : ∃ m2 : Nat, m2 = m + xu := ⟨_, rfl⟩
        rw [← hm2] at HX
        have hmi2 : (m : Int) + (xu : Int) = (m2 : Int) := by omega
        have HM2 : Hid (m2 ≤ l.length ∧ m < m2) := by rw [Hid, hm2]; have := HM1.out; omega
        have hm29 : m2 ≤ 90000 := by have := HM2.out.1; have := HSL.out; omega
        have hxu : xu ≤ 90000 := by omega
        have hac : acc.length ≤ 90000 := by have := HA.out.2.2; omega
        clear hS hused hu hm2 hcl hdr
        go_wp2_with fail
        refine (HAB.out _).mono ?_
        rintro e w' ⟨rfl, rfl⟩
        go_wp2_with fail
        refine (HFI2.out _ (HT.out.move (HFK.out.trans HF.out)) (HR.out.move (HFK.out.trans HF.out)) (HKN.out.fresh HF.out)).mono ?_
        rintro e w1 ⟨rfl, hf⟩
        have HF1 := Lib.hid (HF.out.trans hf)
        have HB1 := Lib.hid (HB.out.fresh hf)
        clear hf
        have hcell := tnews (w1.alloc (.cells #[.int .i64 xk, .string (bs xt), .int .i64 xn, .int .i64 (m : Int)] 89)) ⟨xk, xt, xn, m⟩
        rw [World.size_alloc] at hcell
        have HCELL := Lib.hid hcell
        clear hcell
        go_wp2_with (at_builtin; refine Hid.out ?_)
        refine Lib.hid ?_
        refine wpList_append_lies _ rfl _ _ 84 rfl wk.heap.size 89 i0 (.agg #[.int .i64 0, .string ⟨#[]⟩, .int .i64 0, .int .i64 0]) 4 40 Tryz.underlying84 hi hz0 hz1 hz2 rfl (by decide) v acc.length (tcells acc) rfl (World.ownsRow.alloc (World.ownsRow.alloc HB1.out _) _) ⟨w1.heap.size + 1, 0, none⟩ 1 1 (tcell ⟨xk, xt, xn, m⟩) rfl rfl HCELL.out (tcell_one _) (by decide) (by unfold maxLen; omega) (by omega) (by rw [World.size_alloc, World.size_alloc]; have := HF1.out.size; omega) (w1.heap.size + 1 + 1) (by simp) ?_
        intro g cap w2 hown hgrow hat hlt
        have HT2 := Lib.hid (TBuf.more hown)
        have HF2 := Lib.hid (((HF1.out.alloc (.cells #[.int .i64 xk, .string (bs xt), .int .i64 xn, .int .i64 m] 89)).alloc (.cells #[.int .i64 xk, .string (bs xt), .int .i64 xn, .int .i64 m] 89)).grown hgrow (fun g e => (HB1.out.lt g e).1))
        clear hown hgrow hat hlt
        go_wp2
        go_roundw
        case rel => exact ⟨m2, f, acc ++ [Tok.mk xk xt xn m], _, hm29, rfl, rfl, ⟨HM2.out.1, by have h1 := HA.out; have h2 := HM2.out; have h3 := HMA.out; omega, by rw [List.length_append]; have h1 := HA.out.2.2; have h2 := HM2.out.2; have h3 := HMA.out; simp; omega⟩, HX.out, HT2.out, HF2.out⟩
        case measure => rw [HSZ.out]; simp [intOf]; have h2 := HM2.out; have h3 := HMA.out; omega
      · rw [if_pos hx] at hS
        have HX : Hid (L = ([], m, xc)) := by rw [Hid, HE.out]; exact hS
        have e1 : (xc != 0) = true := by simpa using hx
        have HY := Lib.hid hx
        clear hS hused hcl hdr hx
        go_wp2_with fail
        refine (HAB.out _).mono ?_
        rintro e w' ⟨rfl, rfl⟩
        go_wp2_with fail
        refine (HFI2.out _ (HT.out.move (HFK.out.trans HF.out)) (HR.out.move (HFK.out.trans HF.out)) (HKN.out.fresh HF.out)).mono ?_
        rintro e w1 ⟨rfl, hf⟩
        have HF1 := Lib.hid ((HFK.out.trans HF.out).trans hf)
        clear hf
        go_wp2
        refine bodyPost_ret (v := .tuple #[.slice none 0 0, .int .i64 m, .int .i64 xc]) (by simp [results, Tryz.results44, go_sem]) rfl ⟨?_, HF1.out.alloc _⟩
        rw [HX.out, if_neg HY.out]
theorem appq_34 (B : Nat) (v : Value) (l : List UInt8) (w : World) (h : Rd w B v l) : Calls Tryz.prog 102 #[v, .int .u8 34] w (Put w B l [92, 34]) := by
  obtain ⟨i0, hi, hz0, hz1, hz2⟩ := info_parts info5
  have H := Lib.hid h
  have hx := Lib.hid (show Lib.indexByte (⟨#[8, 12, 10, 13, 9]⟩ : ByteArray).data.toList (34 : Int).toNat.toUInt8 = -1 by decide)
  clear h
  go_enter Tryz.func102, Tryz.ntmps102
  go_wp2_with (first
    | (go_at_call 65; refine (idx_any _ _ _ _ hx.out).mono ?_; rintro e w' ⟨rfl, rfl⟩)
    | (at_builtin; refine wpList_append_lies _ rfl _ _ 145 rfl B 5 i0 (.int .u8 0) 1 1 Tryz.underlying145 hi hz0 hz1 hz2 rfl (by decide) v l.length (vals l) rfl (H.out.buf.alloc _) ⟨w.heap.size, 0, none⟩ 2 2 (vals [92, 34]) rfl rfl (news_at w _ _ rfl) (vals_one _) (by decide) (H.out.m1 (by decide)) (H.out.m2 (by decide)) H.out.m3 (w.heap.size + 1) (by simp) ?_; intro g cap w1 hown hgrow hat hlt; have HP := Lib.hid (put_of H.out.buf H.out.low rfl hown hgrow); clear hown hgrow hat hlt))
  go_ret
  exact HP.out
theorem appq_92 (B : Nat) (v : Value) (l : List UInt8) (w : World) (h : Rd w B v l) : Calls Tryz.prog 102 #[v, .int .u8 92] w (Put w B l [92, 92]) := by
  obtain ⟨i0, hi, hz0, hz1, hz2⟩ := info_parts info5
  have H := Lib.hid h
  have hx := Lib.hid (show Lib.indexByte (⟨#[8, 12, 10, 13, 9]⟩ : ByteArray).data.toList (92 : Int).toNat.toUInt8 = -1 by decide)
  clear h
  go_enter Tryz.func102, Tryz.ntmps102
  go_wp2_with (first
    | (go_at_call 65; refine (idx_any _ _ _ _ hx.out).mono ?_; rintro e w' ⟨rfl, rfl⟩)
    | (at_builtin; refine wpList_append_lies _ rfl _ _ 145 rfl B 5 i0 (.int .u8 0) 1 1 Tryz.underlying145 hi hz0 hz1 hz2 rfl (by decide) v l.length (vals l) rfl (H.out.buf.alloc _) ⟨w.heap.size, 0, none⟩ 2 2 (vals [92, 92]) rfl rfl (news_at w _ _ rfl) (vals_one _) (by decide) (H.out.m1 (by decide)) (H.out.m2 (by decide)) H.out.m3 (w.heap.size + 1) (by simp) ?_; intro g cap w1 hown hgrow hat hlt; have HP := Lib.hid (put_of H.out.buf H.out.low rfl hown hgrow); clear hown hgrow hat hlt))
  go_ret
  exact HP.out
theorem idx_none (c : UInt8) (h : 32 ≤ c.toNat) : Lib.indexByte (⟨#[8, 12, 10, 13, 9]⟩ : ByteArray).data.toList (c.toNat : Int).toNat.toUInt8 = -1 := by
  have e : (c.toNat : Int).toNat.toUInt8 = c := by simp
  rw [e]
  have n : ∀ d : UInt8, d.toNat < 32 → (d == c) = false := fun d hd => by
    rw [beq_eq_false_iff_ne]; intro e; subst e; omega
  show Lib.indexByte [8, 12, 10, 13, 9] c = -1
  simp [Lib.indexByte, n 8 (by decide), n 12 (by decide), n 10 (by decide), n 13 (by decide), n 9 (by decide)]
theorem appq_plain (c : UInt8) (h0 : 32 ≤ c.toNat) (h1 : c.toNat ≠ 34) (h2 : c.toNat ≠ 92) (B : Nat) (v : Value) (l : List UInt8) (w : World) (h : Rd w B v l) : Calls Tryz.prog 102 #[v, .int .u8 (c.toNat : Int)] w (Put w B l [c]) := by
  obtain ⟨i0, hi, hz0, hz1, hz2⟩ := info_parts info5
  have H := Lib.hid h
  have hx := Lib.hid (idx_none c h0)
  have e1 : ((c.toNat : Int) == 34) = false := by rw [beq_eq_false_iff_ne]; omega
  have e2 : ((c.toNat : Int) == 92) = false := by rw [beq_eq_false_iff_ne]; omega
  have e3 : ¬ (c.toNat : Int) < 32 := by omega
  clear h h0 h1 h2
  go_enter Tryz.func102, Tryz.ntmps102
  go_wp2_with (first
    | (go_at_call 65; refine (idx_any _ _ _ _ hx.out).mono ?_; rintro e w' ⟨rfl, rfl⟩)
    | (at_builtin; refine wpList_append_lies _ rfl _ _ 145 rfl B 5 i0 (.int .u8 0) 1 1 Tryz.underlying145 hi hz0 hz1 hz2 rfl (by decide) v l.length (vals l) rfl (H.out.buf.alloc _) ⟨w.heap.size, 0, none⟩ 1 1 (vals [c]) rfl rfl (news_at w _ _ rfl) (vals_one _) (by decide) (H.out.m1 (by decide)) (H.out.m2 (by decide)) H.out.m3 (w.heap.size + 1) (by simp) ?_; intro g cap w1 hown hgrow hat hlt; have HP := Lib.hid (put_of H.out.buf H.out.low rfl hown hgrow); clear hown hgrow hat hlt))
  go_ret
  exact HP.out
theorem appq_any (c : UInt8) (B : Nat) (v : Value) (l : List UInt8) (w : World) (h : Rd w B v l) : Calls Tryz.prog 102 #[v, .int .u8 (c.toNat : Int)] w (Put w B l (qB c)) := by
  by_cases h0 : 32 ≤ c.toNat
  · by_cases h1 : c.toNat = 34
    · obtain rfl := c_of h1
      exact appq_34 B v l w h
    by_cases h2 : c.toNat = 92
    · obtain rfl := c_of h2
      exact appq_92 B v l w h
    have e : qB c = [c] := by
      have n : ∀ d : UInt8, d.toNat < 32 → ¬ c = d := fun d hd e => by subst e; omega
      rw [qB, if_neg (by rintro (rfl | rfl); exact h1 rfl; exact h2 rfl), if_neg (n 10 (by decide)), if_neg (n 13 (by decide)), if_neg (n 9 (by decide)), if_neg (n 8 (by decide)), if_neg (n 12 (by decide)), if_neg (by omega)]
    rw [e]
    exact appq_plain c h0 h1 h2 B v l w h
  · have hn : c.toNat = 0 ∨ c.toNat = 1 ∨ c.toNat = 2 ∨ c.toNat = 3 ∨ c.toNat = 4 ∨ c.toNat = 5 ∨ c.toNat = 6 ∨ c.toNat = 7 ∨ c.toNat = 8 ∨ c.toNat = 9 ∨ c.toNat = 10 ∨ c.toNat = 11 ∨ c.toNat = 12 ∨ c.toNat = 13 ∨ c.toNat = 14 ∨ c.toNat = 15 ∨ c.toNat = 16 ∨ c.toNat = 17 ∨ c.toNat = 18 ∨ c.toNat = 19 ∨ c.toNat = 20 ∨ c.toNat = 21 ∨ c.toNat = 22 ∨ c.toNat = 23 ∨ c.toNat = 24 ∨ c.toNat = 25 ∨ c.toNat = 26 ∨ c.toNat = 27 ∨ c.toNat = 28 ∨ c.toNat = 29 ∨ c.toNat = 30 ∨ c.toNat = 31 := by omega
    rcases hn with h1 | h1 | h1 | h1 | h1 | h1 | h1 | h1 | h1 | h1 | h1 | h1 | h1 | h1 | h1 | h1 | h1 | h1 | h1 | h1 | h1 | h1 | h1 | h1 | h1 | h1 | h1 | h1 | h1 | h1 | h1 | h1
    all_goals obtain rfl := c_of h1
    · exact appq_0 B v l w h
    · exact appq_1 B v l w h
    · exact appq_2 B v l w h
    · exact appq_3 B v l w h
    · exact appq_4 B v l w h
    · exact appq_5 B v l w h
    · exact appq_6 B v l w h
    · exact appq_7 B v l w h
    · exact appq_8 B v l w h
    · exact appq_9 B v l w h
    · exact appq_10 B v l w h
    · exact appq_11 B v l w h
    · exact appq_12 B v l w h
    · exact appq_13 B v l w h
    · exact appq_14 B v l w h
    · exact appq_15 B v l w h
    · exact appq_16 B v l w h
    · exact appq_17 B v l w h
    · exact appq_18 B v l w h
    · exact appq_19 B v l w h
    · exact appq_20 B v l w h
    · exact appq_21 B v l w h
    · exact appq_22 B v l w h
    · exact appq_23 B v l w h
    · exact appq_24 B v l w h
    · exact appq_25 B v l w h
    · exact appq_26 B v l w h
    · exact appq_27 B v l w h
    · exact appq_28 B v l w h
    · exact appq_29 B v l w h
    · exact appq_30 B v l w h
    · exact appq_31 B v l w h
theorem quote_any (s : ByteArray) (w : World) (hs : s.size ≤ 6000) : Calls Tryz.prog 75 #[.string s] w fun e w' => e = .returned (.string ⟨(quoted s.data.toList).toArray⟩) ∧ Fresh w w' := by
  obtain ⟨i0, hi, hz0, hz1, hz2⟩ := info_parts info5
  have hmk : (Instr.makeSlice 145 (.int .i64 0) (.int .i64 ((s.size : Int) + 2))).run Tryz.prog w = .ok (.slice (some ⟨w.heap.size, 0, none⟩) 0 (s.size + 2)) (w.alloc (.cells (madeCells #[.int .u8 0] (s.size + 2)) 5)) := by
    have := run_make (P := Tryz.prog) w 145 5 i0 (.int .u8 0) Tryz.underlying145 hi hz0 .i64 .i64 0 ((s.size : Int) + 2) (by omega) (by omega) (by rw [hz2]; omega) (by omega)
    rw [hz1, Nat.mul_one, show ((s.size : Int) + 2).toNat = s.size + 2 by omega] at this
    exact this
  have HM : Hid (Buf (w.alloc (.cells (madeCells #[.int .u8 0] (s.size + 2)) 5)) w.heap.size (.slice (some ⟨w.heap.size, 0, none⟩) 0 (s.size + 2)) []) :=
    World.ownsRow_made w _ (s.size + 2) (Nat.le_refl _) (by unfold maxLen; omega) (by rw [size_madeCells, Nat.mul_one])
  go_enter Tryz.func75, Tryz.ntmps75
  go_wp2_with (at_builtin; refine wpList_append_lies _ rfl _ _ 145 rfl w.heap.size 5 i0 (.int .u8 0) 1 1 Tryz.underlying145 hi hz0 hz1 hz2 rfl (by decide) (.slice (some ⟨w.heap.size, 0, none⟩) 0 (s.size + 2)) 0 (vals []) rfl (HM.out.alloc _) ⟨w.heap.size + 1, 0, none⟩ 1 1 (vals [34]) rfl rfl (by have := news_at (w.alloc (.cells (madeCells #[.int .u8 0] (s.size + 2)) 5)) #[.int .u8 34] [34] rfl; rw [World.size_alloc] at this; exact this) (vals_one _) (by decide) (by unfold maxLen; omega) (by omega) (by simp; omega) (w.heap.size + 1 + 1) (by simp) ?_; intro g cap w1 hown hgrow hat hlt; have HB1 := Lib.hid (show Buf w1 w.heap.size (.slice (some ⟨g, 0, none⟩) 1 cap) [34] from Buf.more (l := []) hown rfl); have HF1 := Lib.hid ((((Fresh.refl w).alloc _).alloc _).below (Below.grown (Below.refl w.heap.size _) hgrow (by simp; omega) (fun k e => by cases e; exact Nat.le_refl _)) (Nat.le_refl _)); clear hown hgrow hat hlt)
  clear hmk HM
  go_loopw [3, 13] (fun a3 a13 wr => ∃ g n cap k : Nat, k ≤ s.size ∧ a3 = .slice (some ⟨g, 0, none⟩) n cap ∧ a13 = .int .i64 k ∧ Hid (Buf wr w.heap.size (.slice (some ⟨g, 0, none⟩) n cap) (34 :: qL (s.data.toList.take k))) ∧ Hid (Fresh w wr)) (fun _ a13 _ => s.size - (intOf a13).toNat)
  case atStart => exact ⟨_, _, _, 0, Nat.zero_le _, rfl, rfl, HB1.out, HF1.out⟩
  case round =>
    obtain ⟨g, n, cap, k, hk, rfl, rfl, HB, HF⟩ := hrel
    clear HB1 HF1
    have HL : Hid ((34 :: qL (s.data.toList.take k)).length ≤ 60000) := by
      have h1 := qL_len (s.data.toList.take k)
      have h2 : (s.data.toList.take k).length ≤ k := List.length_take_le _ _
      rw [Hid, List.length_cons]; omega
    have HRD : Hid (Rd wr w.heap.size (.slice (some ⟨g, 0, none⟩) n cap) (34 :: qL (s.data.toList.take k))) := ⟨HB.out, HF.out.size, by have := HL.out; omega⟩
    by_cases hlt : k < s.size
    · have HT := Lib.hid (take_snoc s k hlt)
      go_wp2_with fail
      refine (appq_any _ w.heap.size _ _ _ HRD.out).mono ?_
      rintro e w2 ⟨g2, cap2, he, hb2, hf2⟩
      have hb3 : Buf w2 w.heap.size (.slice (some ⟨g2, 0, none⟩) ((34 :: qL (s.data.toList.take k)).length + (qB s[k]).length) cap2) (34 :: qL (s.data.toList.take (k + 1))) := by
        rw [HT.out, qL_snoc]; exact hb2
      clear hb2
      generalize (34 :: qL (s.data.toList.take k)).length + (qB s[k]).length = n2 at he hb3
      subst he
      have HB3 := Lib.hid hb3
      have HF3 := Lib.hid (HF.out.below hf2 (Nat.le_refl _))
      clear hb3 hf2
      go_wp2
      go_roundw
      case rel => exact ⟨g2, n2, cap2, k + 1, by omega, rfl, by go_num, HB3.out, HF3.out⟩
      case measure => simp [intOf]; omega
    · obtain rfl : k = s.size := by omega
      have HQ : Hid ((34 :: qL (s.data.toList.take s.size)) ++ [34] = quoted s.data.toList) := by
        rw [Hid, List.take_of_length_le (by simp), quoted]; rfl
      have hw1 := HF.out.size
      have HN : Hid (n = (34 :: qL (s.data.toList.take s.size)).length) := (Buf.text HB.out).1
      generalize 34 :: qL (s.data.toList.take s.size) = L at *
      obtain rfl : n = L.length := HN.out
      have hL := HL.out
      go_wp2_with (at_builtin; refine wpList_append_lies _ rfl _ _ 145 rfl w.heap.size 5 i0 (.int .u8 0) 1 1 Tryz.underlying145 hi hz0 hz1 hz2 rfl (by decide) (.slice (some ⟨g, 0, none⟩) L.length cap) L.length (vals L) rfl (HB.out.alloc _) ⟨wr.heap.size, 0, none⟩ 1 1 (vals [34]) rfl rfl (news_at wr _ _ rfl) (vals_one _) (by decide) (HRD.out.m1 (by decide)) (by omega) HRD.out.m3 (wr.heap.size + 1) (by simp) ?_; intro g2 cap2 w2 hown hgrow hat hlt2; have HB2 := Lib.hid (show Buf w2 w.heap.size (.slice (some ⟨g2, 0, none⟩) (L.length + 1) cap2) (L ++ [34]) from Buf.more hown rfl); have HF2 := Lib.hid ((HF.out.alloc _).below (Below.grown (Below.refl w.heap.size _) hgrow HRD.out.m3 (fun k e => (HB.out.lt k e).1)) (Nat.le_refl _)); clear hown hgrow hat hlt2; have hcv := (Buf.text HB2.out).2)
      go_ret
      exact ⟨ret_string (by rw [HQ.out]), HF2.out⟩
theorem item_u {ds m : List UInt8} (h4 : ds.length = 4) (hd : ∀ c ∈ ds, isDig c) (h0 : 0 ≤ valD ds) (h1 : valD ds < 55296) (hm : Lib.runeCells (valD ds) = vals m) (hm0 : 0 < m.length) : Item (92 :: 117 :: ds) m :=
  ⟨⟨92, 117 :: ds, rfl, by decide⟩, fun b rest v text w _ hl hr => char_esc b (117 :: (ds ++ rest)) rest v text (text ++ m) w hr (fun W h => escape_u b (ds ++ rest) rest v text (text ++ m) W h (fun W2 h2 => byNumber_any b ds rest v text m W2 h4 hd h0 h1 hm hm0 (by omega) h2))⟩
theorem un_awake : Un [92, 117, 48, 48, 101, 57] [195, 169] := by
  have hv : valD [48, 48, 101, 57] = 233 := by decide
  exact .step [92, 117, 48, 48, 101, 57] [195, 169] [] [] (item_u rfl (by
    intro x hx
    simp only [List.mem_cons, List.not_mem_nil, or_false] at hx
    rcases hx with rfl | rfl | rfl | rfl <;> (unfold isDig; decide)) (by rw [hv]; decide) (by rw [hv]; decide) (by rw [hv]; rfl) (by decide)) .nil
theorem awake_any (w : World) (hT : Tabs w) : Calls Tryz.prog 45 #[] w fun e w' => e = .returned (.bool true) ∧ Fresh w w' := by
  have HU : Hid (Calls Tryz.prog 74 #[.string ⟨#[34, 92, 117, 48, 48, 101, 57, 34]⟩] w fun e w' => e = .returned (.tuple #[.string ⟨#[195, 169]⟩, .int .i64 8, .int .i64 0]) ∧ Fresh w w') :=
    unquote_any [92, 117, 48, 48, 101, 57] [195, 169] [] w un_awake (by decide) (by decide) hT
  have HQ : Hid (∀ W, Calls Tryz.prog 75 #[.string ⟨#[97, 34, 10]⟩] W fun e w' => e = .returned (.string ⟨#[34, 97, 92, 34, 92, 110, 34]⟩) ∧ Fresh W w') := fun W => quote_any ⟨#[97, 34, 10]⟩ W (by decide)
  clear hT
  go_enter Tryz.func45, Tryz.ntmps45
  go_wp2_with fail
  refine HU.out.mono ?_
  rintro e w1 ⟨rfl, hf1⟩
  have HF1 := Lib.hid hf1
  clear hf1
  go_wp2_with fail
  refine (HQ.out _).mono ?_
  rintro e w2 ⟨rfl, hf2⟩
  have HF2 := Lib.hid (HF1.out.trans hf2)
  clear hf2
  go_wp2
  go_ret
  exact ⟨rfl, HF2.out⟩
end
namespace y
open Go.ChangeShapes Go.WideShapes Go.ChangeAt Go.RowKit
attribute [local go_sem ↓] Go.wp_at_zero Go.wp_at_succ
variable {w : World}
theorem lex_one : lexA 4 [91, 49, 93] 0 [] = ([⟨2, [], 0, 0⟩, ⟨10, [], 1, 1⟩, ⟨3, [], 0, 2⟩, ⟨11, [], 0, 3⟩], 0, 0) := by kernel_rfl
theorem jawake_any (w : World) (hT : Tabs w) (hr : RangeVar w) : Calls Tryz.prog 19 #[] w fun e w' => e = .returned (.bool true) ∧ Fresh w w' := by
  have HL := Lib.hid (lex_any [91, 49, 93] w (by decide) hT hr)
  have hx : lexA ([91, 49, 93] : List UInt8).length.succ [91, 49, 93] 0 [] = ([⟨2, [], 0, 0⟩, ⟨10, [], 1, 1⟩, ⟨3, [], 0, 2⟩, ⟨11, [], 0, 3⟩], 0, 0) := lex_one
  have HX := Lib.hid hx
  have HT := Lib.hid hT
  have HL2 : Hid (Calls Tryz.prog 44 #[.string ⟨#[91, 49, 93]⟩] w (LexIs w ([⟨2, [], 0, 0⟩, ⟨10, [], 1, 1⟩, ⟨3, [], 0, 2⟩, ⟨11, [], 0, 3⟩], 0, 0))) := by
    rw [Hid, ← HX.out]
    exact HL.out
  clear HL hx HX hT hr
  go_enter Tryz.func19, Tryz.ntmps19
  go_wp2_with fail
  refine HL2.out.mono ?_
  rintro e w1 ⟨he, hf1⟩
  rw [if_pos rfl] at he
  obtain ⟨B, g, cap, hB, rfl, hb⟩ := he
  have HF1 := Lib.hid hf1
  have HB := Lib.hid hb
  clear hf1 hb hB
  go_wp2_with fail
  refine (awake_any _ (HT.out.move HF1.out)).mono ?_
  rintro e w2 ⟨rfl, hf2⟩
  have HF2 := Lib.hid (HF1.out.trans hf2)
  have hb := HB.out.fresh hf2
  have c4 : w2.cell? ⟨g, 4, none⟩ = some (.int .i64 10) := World.ownsRow.cells hb rfl 4 _ rfl
  have c5 : w2.cell? ⟨g, 5, none⟩ = some (.string ⟨#[]⟩) := World.ownsRow.cells hb rfl 5 _ rfl
  have c6 : w2.cell? ⟨g, 6, none⟩ = some (.int .i64 1) := World.ownsRow.cells hb rfl 6 _ rfl
  have c7 : w2.cell? ⟨g, 7, none⟩ = some (.int .i64 1) := World.ownsRow.cells hb rfl 7 _ rfl
  have c12 : w2.cell? ⟨g, 12, none⟩ = some (.int .i64 11) := World.ownsRow.cells hb rfl 12 _ rfl
  have c13 : w2.cell? ⟨g, 13, none⟩ = some (.string ⟨#[]⟩) := World.ownsRow.cells hb rfl 13 _ rfl
  have c14 : w2.cell? ⟨g, 14, none⟩ = some (.int .i64 0) := World.ownsRow.cells hb rfl 14 _ rfl
  have c15 : w2.cell? ⟨g, 15, none⟩ = some (.int .i64 3) := World.ownsRow.cells hb rfl 15 _ rfl
  clear hf2 hb
  go_wp2
  go_ret
  exact ⟨rfl, HF2.out⟩
end y
namespace v
open Go.ChangeShapes Go.WideShapes Go.ChangeAt Go.RowKit
attribute [local go_sem ↓] Go.wp_at_zero Go.wp_at_succ
variable {w : World}
theorem info68 : (Tryz.prog.info? 74).map (fun i => (i.zero, i.size, i.bytes)) = some (some (.agg #[.int .i64 0, .bool false, .int .i64 0, .string ⟨#[]⟩, .slice none 0 0, .slice none 0 0, .int .i64 0, .bool false, .int .i64 0, .string ⟨#[]⟩, .slice none 0 0, .slice none 0 0]), 12, 176) := by kernel_rfl
def dcellsOf (p : M × M) : List Value := p.1.cells ++ p.2.cells
def dcells (l : List (M × M)) : List Value := l.flatMap dcellsOf
theorem dcellsOf_length (p : M × M) : (dcellsOf p).length = 12 := by simp [dcellsOf, cells_length]
theorem dcells_snoc (l : List (M × M)) (p : M × M) : dcells (l ++ [p]) = dcells l ++ dcellsOf p := flat_snoc _ _ _
theorem dcells_length (l : List (M × M)) : (dcells l).length = l.length * 12 := flat_length _ _ dcellsOf_length l
theorem dcells_one (p : M × M) : ∀ u ∈ dcellsOf p, u.oneCell' = true := by
  intro u hu
  unfold dcellsOf at hu
  rw [List.mem_append] at hu
  rcases hu with hu | hu
  · exact cells_one _ u hu
  · exact cells_one _ u hu
def pst2 (l : List (M × M)) : List (V × V) := l.map fun p => (p.1.plain, p.2.plain)
theorem pst2_append (l m : List (M × M)) : pst2 (l ++ m) = pst2 l ++ pst2 m := by simp [pst2]
def pushM2 (l m : List M) : List (M × M) := (l.zip m).filter fun p => p.1.plain.holds
theorem pst2_pushM2 : ∀ (l m : List M), pst2 (pushM2 l m) = pushed2 (l.map M.plain) (m.map M.plain)
  | [], _ => rfl
  | _ :: _, [] => rfl
  | x :: l, y :: m => by
    have ih := pst2_pushM2 l m
    unfold pst2 pushM2 pushed2 at *
    simp only [List.map_cons, List.zip_cons_cons, List.filter_cons]
    split <;> simp [ih]
theorem pushM2_take (l m : List M) (k : Nat) (hl : k < l.length) (hm : k < m.length) : pushM2 (l.take (k + 1)) (m.take (k + 1)) = pushM2 (l.take k) (m.take k) ++ if l[k].plain.holds = true then [(l[k], m[k])] else [] := by
  unfold pushM2
  rw [List.take_succ_eq_append_getElem hl, List.take_succ_eq_append_getElem hm, List.zip_append (by simp; omega), List.filter_append]
  cases h : l[k].plain.holds <;> simp [h]
theorem pushM2_mem {l m : List M} {p : M × M} (h : p ∈ pushM2 l m) : p.1 ∈ l ∧ p.2 ∈ m := by
  unfold pushM2 at h
  rw [List.mem_filter] at h
  obtain ⟨a, b⟩ := p
  exact List.of_mem_zip h.1
structure Left2 (w wr : World) (a : Option Addr) (c : Nat) (st : List (M × M)) : Prop where
  own : wr.ownsRow w.heap.size 74 12 (.slice a st.length c) st.length (dcells st)
  fresh : Fresh w wr
theorem Left2.move {w wr w' : World} {a : Option Addr} {c : Nat} {st : List (M × M)} (h : Left2 w wr a c st) (f : Fresh wr w') : Left2 w w' a c st := ⟨owns_move h.own f, h.fresh.trans f⟩
structure Todo2 (w : World) (R : Bool) (st : List (M × M)) : Prop where
  all : ∀ p ∈ st, p.1.At w ∧ p.2.At w
  res : allS (pst2 st) = R
theorem Todo2.step {w : World} {R : Bool} {st : List (M × M)} {x y : M} (h : Todo2 w R (st ++ [(x, y)])) (ha : alikeL (x.inside.map M.plain) (y.inside.map M.plain) = true) : Todo2 w R (st ++ pushM2 x.inside y.inside) := by
  obtain ⟨h1, h2⟩ := h.all (x, y) (by simp)
  refine ⟨fun p hp => ?_, ?_⟩
  · rcases List.mem_append.1 hp with hp | hp
    · exact h.all p (by simp [hp])
    · obtain ⟨a, b⟩ := pushM2_mem hp
      exact ⟨h1.inside _ a, h2.inside _ b⟩
  · rw [← h.res, pst2_append, pst2_append, pst2_pushM2, ← plain_inside, ← plain_inside]
    rw [← plain_inside, ← plain_inside] at ha
    exact (allS_step ha).symm
theorem Todo2.parted {w : World} {R : Bool} {st : List (M × M)} {x y : M} (h : Todo2 w R (st ++ [(x, y)])) (ha : alikeL (x.inside.map M.plain) (y.inside.map M.plain) = false) : R = false := by
  rw [← h.res, pst2_append]
  rw [← plain_inside, ← plain_inside] at ha
  exact allS_parted ha
theorem Left2.last {w wr : World} {a : Option Addr} {c : Nat} {st : List (M × M)} {x y : M} (h : Left2 w wr a c (st ++ [(x, y)])) :
    ∃ g, a = some ⟨g, 0, none⟩ ∧ w.heap.size ≤ g ∧ st.length + 1 ≤ c ∧ x.lies wr g (st.length * 12) ∧ y.lies wr g (st.length * 12 + 6) ∧ Left2 w wr a c st := by
  have ho := h.own
  rw [dcells_snoc, List.length_append, List.length_singleton] at ho
  have hrow := RowAt.owns ho
  have hpop := owns_pop ho (dcellsOf_length _)
  rcases ho.2 with ⟨_, e⟩ | ⟨g, cap, cur, e, hb, _, hnc, _⟩
  · omega
  · cases e
    rcases hrow with ⟨e, _⟩ | ⟨g', e, hrow⟩
    · cases e
    · cases e
      have hg : ∀ j v, (dcellsOf (x, y))[j]? = some v → wr.cell? ⟨g, st.length * 12 + j, none⟩ = some v := fun j v hj => hrow _ _ (by
        rw [List.getElem?_append_right (by rw [dcells_length]; omega), dcells_length, Nat.add_sub_cancel_left]; exact hj)
      refine ⟨g, rfl, hb, hnc, M.lies.of _ fun j v hj => hg j v ?_, M.lies.of _ fun j v hj => ?_, hpop, h.fresh⟩
      · unfold dcellsOf
        rw [List.getElem?_append_left (List.getElem?_eq_some_iff.1 hj).1]; exact hj
      · have := hg (6 + j) v (by
          unfold dcellsOf
          rw [List.getElem?_append_right (by rw [cells_length]; omega), cells_length, Nat.add_sub_cancel_left]; exact hj)
        rw [Nat.add_assoc]; exact this
theorem left2_start (x y : M) (w W : World) (b : Nat) (hb : W.heap[b]? = some (.cells (x.cells ++ y.cells).toArray 74 (0, 0))) (hle : w.heap.size ≤ b) (hf : Fresh w W) : Left2 w W (some ⟨b, 0, none⟩) 1 [(x, y)] :=
  ⟨by
    have := owns_built (B := w.heap.size) (k := 12) (n := 1) hb hle (by simp [cells_length]) (by decide)
    simpa [dcells, dcellsOf] using this, hf⟩
theorem after_push2 {w W w5 : World} {a' ia ib : Option Addr} {c' q g' cap' : Nat} {ST : List (M × M)} {p : M × M} {ins ims : List M} (o : Obj)
    (hq : q = ST.length) (hL : Left2 w W a' c' ST) (hR : RowAt W ia (mcells ins)) (hR2 : RowAt W ib (mcells ims)) (hne : ins ≠ []) (hne2 : ims ≠ []) (hA : Apart a' ia ins) (hA2 : Apart a' ib ims)
    (hown : w5.ownsRow w.heap.size 74 12 (.slice (some ⟨g', 0, none⟩) (q + 1) cap') (q + 1) (dcells ST ++ dcellsOf p)) (hgrow : (W.alloc o).grownBy w5 (Value.slice a' q c').ownBlock) (hat : (Value.slice a' q c').ownBlock = some g' ∨ g' = W.heap.size + 1) :
    Left2 w w5 (some ⟨g', 0, none⟩) cap' (ST ++ [p]) ∧ RowAt w5 ia (mcells ins) ∧ RowAt w5 ib (mcells ims) ∧ Apart (some ⟨g', 0, none⟩) ia ins ∧ Apart (some ⟨g', 0, none⟩) ib ims := by
  subst hq
  have hb : ∀ k, (Value.slice a' ST.length c').ownBlock = some k → ∃ ad : Addr, a' = some ad ∧ ad.block = k := fun k h => by
    cases a' with
    | none => cases h
    | some ad => exact ⟨ad, rfl, by simpa [Value.ownBlock] using h⟩
  have hc : ∀ {l : List M}, l ≠ [] → mcells l ≠ [] := fun hne e => hne (by
    have := congrArg List.length e
    rw [mcells_length] at this
    simp only [List.length_nil] at this
    exact List.eq_nil_of_length_eq_zero (by omega))
  have row : ∀ {i : Option Addr} {l : List M}, l ≠ [] → RowAt W i (mcells l) → Apart a' i l → RowAt w5 i (mcells l) ∧ Apart (some ⟨g', 0, none⟩) i l := fun {i l} hne hR hA => by
    refine ⟨(hR.move ((Fresh.refl W).alloc o)).grown hgrow (fun ad e h => ?_), fun _ x y hx hy => ?_⟩
    · obtain ⟨x, hx, hxb⟩ := hb _ h.symm
      exact hA hne x ad hx e hxb
    · cases hx
      rcases hat with h | h
      · obtain ⟨x, hx, hxb⟩ := hb _ h
        have := hA hne x y hx hy
        show g' ≠ y.block
        omega
      · have := hR.lt (hc hne) y hy
        show g' ≠ y.block
        omega
  obtain ⟨r1, r2⟩ := row hne hR hA
  obtain ⟨r3, r4⟩ := row hne2 hR2 hA2
  exact ⟨⟨by rw [dcells_snoc, List.length_append, List.length_singleton]; exact hown, own_grown (Nat.le_refl _) (World.ownsRow.alloc hL.own o) (hL.fresh.alloc o) hgrow⟩, r1, r3, r2, r4⟩
theorem box12 {w : World} {b : Nat} {c0 c1 c2 c3 c4 c5 d0 d1 d2 d3 d4 d5 : Value} {T : TypeId} {z : Nat × Nat} (h : w.heap[b]? = some (.cells #[c0, c1, c2, c3, c4, c5, d0, d1, d2, d3, d4, d5] T z)) :
    (w.cell? ⟨b, 0, none⟩ = some c0 ∧ w.cell? ⟨b, 1, none⟩ = some c1 ∧ w.cell? ⟨b, 2, none⟩ = some c2 ∧ w.cell? ⟨b, 3, none⟩ = some c3 ∧ w.cell? ⟨b, 4, none⟩ = some c4 ∧ w.cell? ⟨b, 5, none⟩ = some c5) ∧
    (w.cell? ⟨b, 6, none⟩ = some d0 ∧ w.cell? ⟨b, 7, none⟩ = some d1 ∧ w.cell? ⟨b, 8, none⟩ = some d2 ∧ w.cell? ⟨b, 9, none⟩ = some d3 ∧ w.cell? ⟨b, 10, none⟩ = some d4 ∧ w.cell? ⟨b, 11, none⟩ = some d5) :=
  ⟨⟨cell_of_at h rfl, cell_of_at h rfl, cell_of_at h rfl, cell_of_at h rfl, cell_of_at h rfl, cell_of_at h rfl⟩, cell_of_at h rfl, cell_of_at h rfl, cell_of_at h rfl, cell_of_at h rfl, cell_of_at h rfl, cell_of_at h rfl⟩
theorem same_no (m m' : M) (w : World) (hm : m.At w) (hm' : m'.At w) (ha : m.plain.alike m'.plain = false) : Calls Tryz.prog 15 #[m.val, m'.val] w fun e w' => e = .returned (.bool false) ∧ Fresh w w' := by
  have HQ : Hid (∀ W, Fresh w W → Calls Tryz.prog 38 #[m.val, m'.val] W fun e w' => e = .returned (.bool false) ∧ Fresh W w') := fun W hf => by rw [← ha]; exact alike_any m m' W (hm.move hf) (hm'.move hf)
  clear hm hm' ha
  obtain ⟨k, f, n, s, la, lc, l, ka, kc, ks⟩ := m
  obtain ⟨k', f', n', s', la', lc', l', ka', kc', ks'⟩ := m'
  dsimp only [M.val] at *
  generalize l.length = ln at *
  generalize ks.length = kn at *
  generalize l'.length = ln' at *
  generalize ks'.length = kn' at *
  go_enter Tryz.func15, Tryz.ntmps15
  go_wp2_with fail
  refine (HQ.out _ (((Fresh.refl w).alloc _).alloc _)).mono ?_
  rintro e w1 ⟨rfl, hf⟩
  go_wp2
  go_ret
  exact ⟨rfl, (((Fresh.refl w).alloc _).alloc _).trans hf⟩
end v
end Go.Proofs.YtcljplkkgpjhlaaGreatDoorR
