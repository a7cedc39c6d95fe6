/-
  Package jlex: the words of a text.
-/
import Derived.Test.YtajmhllldocpjaaDoorFirst
namespace Go.Proofs.YtajmhllldocpjaaDoor
open Go.ChangeShapes Go.WideShapes Go.ChangeAt Go.RowKit
attribute [local go_sem ↓] Go.wp_at_zero Go.wp_at_succ
variable {w : World}

/-- A word, with its place. -/
structure Tok where
  kind : Int
  text : List UInt8
  int : Int
  at_ : Nat
def tcell (t : Tok) : List Value := [.int .i64 t.kind, .string (bs t.text), .int .i64 t.int, .int .i64 (t.at_ : Int)]
def tcells (l : List Tok) : List Value := l.flatMap tcell
theorem tcells_snoc (l : List Tok) (t : Tok) : tcells (l ++ [t]) = tcells l ++ tcell t := by simp [tcells]
theorem tcell_one (t : Tok) : ∀ u ∈ tcell t, u.oneCell' = true := fun u hu => by
  simp only [tcell, List.mem_cons, List.not_mem_nil, or_false] at hu
  rcases hu with rfl | rfl | rfl | rfl <;> rfl
/-- A row of words that the call owns, from block B on. -/
def TBuf (w : World) (B : Nat) (v : Value) (l : List Tok) : Prop := w.ownsRow B 34 4 v l.length (tcells l)
theorem TBuf.lt {w : World} {B : Nat} {v : Value} {l : List Tok} (h : TBuf w B v l) : ∀ g, v.ownBlock = some g → B ≤ g ∧ g < w.heap.size := World.ownsRow.lt h
theorem TBuf.fresh {w w' : World} {B : Nat} {v : Value} {l : List Tok} (h : TBuf w B v l) (hf : Fresh w w') : TBuf w' B v l := by
  refine World.ownsRow.kept (row := none) h ⟨hf.os, hf.tape, hf.output, hf.size, fun k hk _ => hf.block k hk⟩ ?_
  rcases h' : v.ownBlock with _ | g
  · exact .inl rfl
  · exact .inr (by simp)
theorem TBuf.more {w' : World} {B : Nat} {v : Value} {l : List Tok} {t : Tok} (h : w'.ownsRow B 34 4 v (l.length + 1) (tcells l ++ tcell t)) : TBuf w' B v (l ++ [t]) := by
  unfold TBuf
  rw [tcells_snoc, List.length_append]
  exact h
theorem info34 : (Tryd.prog.info? 34).map (fun i => (i.zero, i.size, i.bytes)) = some (some (.agg #[.int .i64 0, .string ⟨#[]⟩, .int .i64 0, .int .i64 0]), 4, 40) := by kernel_rfl
theorem info34_parts : ∃ i, Tryd.prog.info? 34 = some i ∧ i.zero = some (.agg #[.int .i64 0, .string ⟨#[]⟩, .int .i64 0, .int .i64 0]) ∧ i.size = 4 ∧ i.bytes = 40 := by
  obtain ⟨i, h1, h2⟩ := Option.map_eq_some_iff.1 info34
  simp only [Prod.mk.injEq] at h2
  exact ⟨i, h1, h2.1, h2.2.1, h2.2.2⟩
/-- The words of a text from a place on, behind others: the words, the place, the code. -/
def lexA : Nat → List UInt8 → Nat → List Tok → List Tok × Nat × Int
  | 0, _, _, _ => ([], 0, 6)
  | f + 1, l, a, acc => match l.drop (cnt blankB l) with
    | [] => (acc ++ [⟨11, [], 0, a + cnt blankB l⟩], 0, 0)
    | c :: r => if (firstF (c :: r)).code ≠ 0 then ([], a + cnt blankB l, (firstF (c :: r)).code)
      else lexA f ((c :: r).drop (firstF (c :: r)).used) (a + cnt blankB l + (firstF (c :: r)).used) (acc ++ [⟨(firstF (c :: r)).kind, (firstF (c :: r)).text, (firstF (c :: r)).int, a + cnt blankB l⟩])
theorem lexA_end (f : Nat) (l : List UInt8) (a : Nat) (acc : List Tok) (h : l.drop (cnt blankB l) = []) : lexA (f + 1) l a acc = (acc ++ [⟨11, [], 0, a + cnt blankB l⟩], 0, 0) := by
  rw [lexA, h]
theorem lexA_step (f : Nat) (l : List UInt8) (a : Nat) (acc : List Tok) (c : UInt8) (r : List UInt8) (h : l.drop (cnt blankB l) = c :: r) : lexA (f + 1) l a acc = if (firstF (c :: r)).code ≠ 0 then ([], a + cnt blankB l, (firstF (c :: r)).code)
      else lexA f ((c :: r).drop (firstF (c :: r)).used) (a + cnt blankB l + (firstF (c :: r)).used) (acc ++ [⟨(firstF (c :: r)).kind, (firstF (c :: r)).text, (firstF (c :: r)).int, a + cnt blankB l⟩]) := by
  rw [lexA, h]
theorem loopF_len : ∀ (f : Nat) (l acc : List UInt8), (loopF f l acc).1 = 0 → (loopF f l acc).2.2.length < l.length
  | 0, l, acc, h => by simp [loopF] at h
  | f + 1, [], acc, h => by simp [loopF] at h
  | f + 1, c :: r, acc, h => by
    rw [loopF] at h ⊢
    by_cases hc : c = 34
    · rw [if_pos hc]; simp
    · rw [if_neg hc] at h ⊢
      have hl := chrF_len (c :: r)
      by_cases hx : (chrF (c :: r)).1 ≠ 0
      · rw [if_pos hx] at h; exact absurd h hx
      · rw [if_neg hx] at h ⊢
        have h1 := (hl (by simpa using hx)).2
        have h2 := loopF_len f _ _ h
        omega
theorem first_used (c : UInt8) (r : List UInt8) (h : (firstF (c :: r)).code = 0) : 1 ≤ (firstF (c :: r)).used ∧ (firstF (c :: r)).used ≤ (c :: r).length := by
  unfold firstF at h ⊢
  dsimp only at h ⊢
  by_cases h1 : c = 34
  · subst h1
    rw [if_pos rfl] at h ⊢
    dsimp only at h ⊢
    have hl := loopF_len (r.length + 1) r []
    unfold unqF at h ⊢
    dsimp only at h ⊢
    rw [if_neg (by simp)] at h ⊢
    by_cases a : (loopF (r.length + 1) r []).1 ≠ 0
    · rw [if_pos a] at h; exact absurd h a
    rw [if_neg a] at h ⊢
    by_cases b : 4096 < (loopF (r.length + 1) r []).2.1.length
    · rw [if_pos b] at h; simp at h
    rw [if_neg b]
    have := hl (by simpa using a)
    dsimp only
    rw [List.length_cons]
    omega
  rw [if_neg h1] at h ⊢
  by_cases h2 : startB c = true
  · rw [if_pos h2]
    have hi : innB c = true := by simp [innB, h2]
    have := cnt_le innB (c :: r)
    refine ⟨?_, this⟩
    show 1 ≤ cnt innB (c :: r)
    rw [cnt, if_pos hi]; omega
  rw [if_neg h2]
  by_cases h3 : letB c = true
  · rw [if_pos h3]
    refine ⟨?_, cnt_le letB (c :: r)⟩
    show 1 ≤ cnt letB (c :: r)
    rw [cnt, if_pos h3]; omega
  · rw [if_neg h3]
    simp
def LexIs (w : World) (x : List Tok × Nat × Int) (e : Ending) (w' : World) : Prop :=
  (if x.2.2 = 0 then ∃ B g cap, w.heap.size ≤ B ∧ e = .returned (.tuple #[.slice (some ⟨g, 0, none⟩) x.1.length cap, .int .i64 0, .int .i64 0]) ∧ TBuf w' B (.slice (some ⟨g, 0, none⟩) x.1.length cap) x.1
    else e = .returned (.tuple #[.slice none 0 0, .int .i64 (x.2.1 : Int), .int .i64 x.2.2])) ∧ Fresh w w'
theorem tnews (w : World) (t : Tok) : ∀ j u, (tcell t)[j]? = some u → (w.alloc (.cells #[.int .i64 t.kind, .string (bs t.text), .int .i64 t.int, .int .i64 (t.at_ : Int)] 34)).cell? ((⟨w.heap.size, 0, none⟩ : Addr).add j) = some u :=
  World.news_of_block (at_new w (.cells #[.int .i64 t.kind, .string (bs t.text), .int .i64 t.int, .int .i64 (t.at_ : Int)] 34))
set_option maxRecDepth 100000 in
set_option maxHeartbeats 4000000 in
theorem lex_any (l : List UInt8) (w : World) (hs : l.length ≤ 90000) (hT : Tabs w) (hr : RangeVar w) : Calls Tryd.prog 8 #[.string (bs l)] w (LexIs w (lexA (l.length + 1) l 0 [])) := by
  obtain ⟨i0, hi, hz0, hz1, hz2⟩ := info34_parts
  have HT := Lib.hid hT
  have HR := Lib.hid hr
  have hsz := bs_size l
  have HSZ := Lib.hid hsz
  have hsz2 : (bs l).size ≤ 90000 := by omega
  have HCUT : Hid (∀ a : Nat, (bs l).extract a (bs l).size = bs (l.drop a)) := fun a => bs_drop a l
  generalize bs l = s at *
  generalize hL : lexA (l.length + 1) l 0 [] = L at *
  have HL := Lib.hid hL
  have HSL := Lib.hid hs
  clear hT hr hsz hL hs
  go_enter Tryd.func8, Tryd.ntmps8
  go_wp2_with fail
  refine (signs_any w).mono ?_
  rintro e wk ⟨rfl, hkn, hfk⟩
  have HKN := Lib.hid hkn
  have HFK := Lib.hid hfk
  clear hkn hfk
  obtain ⟨kb, hkb⟩ : ∃ kb, kb = w.heap.size := ⟨_, rfl⟩
  rw [← hkb] at HKN ⊢
  have HKB := Lib.hid hkb
  clear hkb
  go_wp2
  go_loopw [2, 3] (fun a2 a3 wr => ∃ (a f : Nat) (acc : List Tok) (v : Value), a ≤ 90000 ∧ a3 = .int .i64 a ∧ v = a2 ∧ Hid (a ≤ l.length ∧ l.length - a < f ∧ acc.length ≤ a) ∧ Hid (L = lexA f (l.drop a) a acc) ∧ Hid (TBuf wr wk.heap.size v acc) ∧ Hid (Fresh wk wr)) (fun _ a3 _ => s.size - (intOf a3).toNat)
  case atStart => exact ⟨0, l.length + 1, [], .slice none 0 0, by omega, rfl, rfl, ⟨by omega, by omega, by simp⟩, HL.out.symm, World.ownsRow_nil _ _ _ _, Fresh.refl _⟩
  case round =>
    obtain ⟨a, f, acc, v, ha, rfl, rfl, HA, HE, HB, HF⟩ := hrel
    obtain ⟨f, rfl⟩ : ∃ g, f = g + 1 := ⟨f - 1, by have := HA.out.2.1; omega⟩
    have q0 := HCUT.out a
    have k0 : a ≤ s.size := by rw [HSZ.out]; exact HA.out.1
    have hcnt := cnt_le blankB (l.drop a)
    have hdl : (l.drop a).length = l.length - a := by simp
    have hm1 : a + cnt blankB (l.drop a) ≤ l.length := by have := HA.out.1; omega
    have HAB := Lib.hid (fun W => ahead_blank (bs (l.drop a)) W (by rw [bs_size]; have := HSL.out; omega))
    rw [bs_toList] at HAB
    have hdd : (l.drop a).drop (cnt blankB (l.drop a)) = l.drop (a + cnt blankB (l.drop a)) := by rw [List.drop_drop]
    have hend := lexA_end f (l.drop a) a acc
    have hstep := lexA_step f (l.drop a) a acc
    rw [hdd] at hend hstep
    generalize cnt blankB (l.drop a) = n at *
    generalize bs (l.drop a) = r0 at *
    obtain ⟨m, hm⟩ : ∃ m : Nat, m = a + n := ⟨_, rfl⟩
    rw [← hm] at hend hstep hm1
    have hmi : (a : Int) + (n : Int) = (m : Int) := by omega
    have hn9 : n ≤ 90000 := by have := HSL.out; omega
    have hm9 : m ≤ 90000 := by have := HSL.out; omega
    have q1 := HCUT.out m
    have k1 : m ≤ s.size := by rw [HSZ.out]; exact hm1
    have HM1 := Lib.hid hm1
    have HMA : Hid (a ≤ m) := by rw [Hid, hm]; omega
    clear hcnt hdl hdd hm hm1
    rcases hd : l.drop m with _ | ⟨c, r⟩
    · have HX : Hid (L = (acc ++ [⟨11, [], 0, m⟩], 0, 0)) := by rw [Hid, HE.out]; exact hend hd
      have e0 : ((m : Int) == (s.size : Int)) = true := by
        have := congrArg List.length hd
        simp at this
        have h2 := HM1.out
        rw [beq_iff_eq, HSZ.out]; omega
      clear hend hstep q1
      have HCELL := Lib.hid (tnews wr ⟨11, [], 0, m⟩)
      have HAC : Hid (acc.length ≤ 90000) := Nat.le_trans HA.out.2.2 ha
      have hac := HAC.out
      go_wp2_with fail
      refine (HAB.out _).mono ?_
      rintro e w' ⟨rfl, rfl⟩
      go_wp2_with (at_builtin; refine Hid.out ?_)
      refine Lib.hid ?_
      refine wpList_append_lies _ rfl _ _ 29 rfl wk.heap.size 34 i0 (.agg #[.int .i64 0, .string ⟨#[]⟩, .int .i64 0, .int .i64 0]) 4 40 Tryd.underlying29 hi hz0 hz1 hz2 rfl (by decide) v acc.length (tcells acc) rfl (World.ownsRow.alloc HB.out _) ⟨wr.heap.size, 0, none⟩ 1 1 (tcell ⟨11, [], 0, m⟩) rfl rfl HCELL.out (tcell_one _) (by decide) (by unfold maxLen; omega) (by omega) (by rw [World.size_alloc]; have := HF.out.size; omega) (wr.heap.size + 1) (by simp) ?_
      intro g cap w2 hown hgrow hat hlt
      have HT2 := Lib.hid (TBuf.more hown)
      have HF2 := Lib.hid ((HF.out.alloc (.cells #[.int .i64 11, .string (bs []), .int .i64 0, .int .i64 m] 34)).grown hgrow (fun g e => (HB.out.lt g e).1))
      clear hown hgrow hat hlt
      go_wp2
      refine bodyPost_ret (v := .tuple #[.slice (some ⟨g, 0, none⟩) (acc.length + 1) cap, .int .i64 0, .int .i64 0]) (by simp [results, Tryd.results8, go_sem]) rfl ⟨?_, HFK.out.trans HF2.out⟩
      rw [HX.out, if_pos rfl]
      refine ⟨wk.heap.size, g, cap, HFK.out.size, ?_, ?_⟩
      · rw [List.length_append]; rfl
      · have e1 : (acc ++ [(⟨11, [], 0, m⟩ : Tok)]).length = acc.length + 1 := by rw [List.length_append]; rfl
        rw [e1]
        exact HT2.out
    · have hS := hstep c r hd
      have hused := first_used c r
      have hcl : (c :: r).length = l.length - m := by rw [← hd]; simp
      have HFI := Lib.hid (fun W h1 h2 h3 => first_all' c r kb W (by have := HSL.out; omega) h1 h2 h3)
      rw [hd] at q1
      have e0 : ((m : Int) == (s.size : Int)) = false := by
        have h2 := HM1.out
        rw [beq_eq_false_iff_ne, HSZ.out]; simp only [List.length_cons] at hcl; omega
      have hdr : ∀ u : Nat, (c :: r).drop u = l.drop (m + u) := fun u => by rw [← hd, List.drop_drop]
      clear hend hstep hd
      generalize bs (c :: r) = r1 at *
      generalize firstF (c :: r) = X at *
      obtain ⟨xk, xt, xn, xu, xc⟩ := X
      dsimp only at hS hused
      have HFI2 : Hid (∀ W, Tabs W → RangeVar W → Known W kb → Calls Tryd.prog 19 #[.string r1, .map (some kb)] W fun e w' => e = .returned (.tuple #[.agg #[.int .i64 xk, .string (bs xt), .int .i64 xn, .int .i64 0], .int .i64 (xu : Int), .int .i64 xc]) ∧ Fresh W w') := HFI.out
      clear HFI
      by_cases hx : xc = 0
      · subst hx
        rw [if_neg (by simp), hdr] at hS
        have hu := hused rfl
        have HX : Hid (L = lexA f (l.drop (m + xu)) (m + xu) (acc ++ [⟨xk, xt, xn, m⟩])) := by rw [Hid, HE.out]; exact hS
        obtain ⟨m2, hm2⟩ : ∃ m2 : Nat, m2 = m + xu := ⟨_, rfl⟩
        rw [← hm2] at HX
        have hmi2 : (m : Int) + (xu : Int) = (m2 : Int) := by omega
        have HM2 : Hid (m2 ≤ l.length ∧ m < m2) := by rw [Hid, hm2]; have := HM1.out; omega
        have hm29 : m2 ≤ 90000 := by have := HM2.out.1; have := HSL.out; omega
        have hxu : xu ≤ 90000 := by omega
        have hac : acc.length ≤ 90000 := by have := HA.out.2.2; omega
        clear hS hused hu hm2 hcl hdr
        go_wp2_with fail
        refine (HAB.out _).mono ?_
        rintro e w' ⟨rfl, rfl⟩
        go_wp2_with fail
        refine (HFI2.out _ (HT.out.move (HFK.out.trans HF.out)) (HR.out.move (HFK.out.trans HF.out)) (HKN.out.fresh HF.out)).mono ?_
        rintro e w1 ⟨rfl, hf⟩
        have HF1 := Lib.hid (HF.out.trans hf)
        have HB1 := Lib.hid (HB.out.fresh hf)
        clear hf
        have hcell := tnews (w1.alloc (.cells #[.int .i64 xk, .string (bs xt), .int .i64 xn, .int .i64 (m : Int)] 34)) ⟨xk, xt, xn, m⟩
        rw [World.size_alloc] at hcell
        have HCELL := Lib.hid hcell
        clear hcell
        go_wp2_with (at_builtin; refine Hid.out ?_)
        refine Lib.hid ?_
        refine wpList_append_lies _ rfl _ _ 29 rfl wk.heap.size 34 i0 (.agg #[.int .i64 0, .string ⟨#[]⟩, .int .i64 0, .int .i64 0]) 4 40 Tryd.underlying29 hi hz0 hz1 hz2 rfl (by decide) v acc.length (tcells acc) rfl (World.ownsRow.alloc (World.ownsRow.alloc HB1.out _) _) ⟨w1.heap.size + 1, 0, none⟩ 1 1 (tcell ⟨xk, xt, xn, m⟩) rfl rfl HCELL.out (tcell_one _) (by decide) (by unfold maxLen; omega) (by omega) (by rw [World.size_alloc, World.size_alloc]; have := HF1.out.size; omega) (w1.heap.size + 1 + 1) (by simp) ?_
        intro g cap w2 hown hgrow hat hlt
        have HT2 := Lib.hid (TBuf.more hown)
        have HF2 := Lib.hid (((HF1.out.alloc (.cells #[.int .i64 xk, .string (bs xt), .int .i64 xn, .int .i64 m] 34)).alloc (.cells #[.int .i64 xk, .string (bs xt), .int .i64 xn, .int .i64 m] 34)).grown hgrow (fun g e => (HB1.out.lt g e).1))
        clear hown hgrow hat hlt
        go_wp2
        go_roundw
        case rel => exact ⟨m2, f, acc ++ [Tok.mk xk xt xn m], _, hm29, rfl, rfl, ⟨HM2.out.1, by have h1 := HA.out; have h2 := HM2.out; have h3 := HMA.out; omega, by rw [List.length_append]; have h1 := HA.out.2.2; have h2 := HM2.out.2; have h3 := HMA.out; simp; omega⟩, HX.out, HT2.out, HF2.out⟩
        case measure => rw [HSZ.out]; simp [intOf]; have h2 := HM2.out; have h3 := HMA.out; omega
      · rw [if_pos hx] at hS
        have HX : Hid (L = ([], m, xc)) := by rw [Hid, HE.out]; exact hS
        have e1 : (xc != 0) = true := by simpa using hx
        have HY := Lib.hid hx
        clear hS hused hcl hdr hx
        go_wp2_with fail
        refine (HAB.out _).mono ?_
        rintro e w' ⟨rfl, rfl⟩
        go_wp2_with fail
        refine (HFI2.out _ (HT.out.move (HFK.out.trans HF.out)) (HR.out.move (HFK.out.trans HF.out)) (HKN.out.fresh HF.out)).mono ?_
        rintro e w1 ⟨rfl, hf⟩
        have HF1 := Lib.hid ((HFK.out.trans HF.out).trans hf)
        clear hf
        go_wp2
        refine bodyPost_ret (v := .tuple #[.slice none 0 0, .int .i64 m, .int .i64 xc]) (by simp [results, Tryd.results8, go_sem]) rfl ⟨?_, HF1.out.alloc _⟩
        rw [HX.out, if_neg HY.out]
end Go.Proofs.YtajmhllldocpjaaDoor
