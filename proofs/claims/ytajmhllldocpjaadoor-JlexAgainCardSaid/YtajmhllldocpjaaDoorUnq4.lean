/-
  Package utf's Unquote, of whatever text.
-/
import Derived.Test.YtajmhllldocpjaaDoorUnq3
namespace Go.Proofs.YtajmhllldocpjaaDoor
open Go.ChangeShapes Go.WideShapes Go.ChangeAt Go.RowKit
attribute [local go_sem ↓] Go.wp_at_zero Go.wp_at_succ
variable {w : World}

theorem numF_len : ∀ (k : Nat) (n : Int) (l : List UInt8), (numF k n l).1 = 0 → (numF k n l).2.2.length + k = l.length
  | 0, n, l, _ => by simp [numF]
  | k + 1, n, [], h => by simp [numF] at h
  | k + 1, n, c :: l, h => by
    rw [numF] at h ⊢
    by_cases hc : hexv c < 0
    · rw [if_pos hc] at h; simp at h
    · rw [if_neg hc] at h ⊢
      have := numF_len k _ l h
      rw [List.length_cons]; omega
theorem otherF_len (f : Int) (l : List UInt8) (h : (otherF f l).1 = 0) : (otherF f l).2.2.length + 6 = l.length := by
  unfold otherF at h ⊢
  by_cases a : l.isPrefixOf [92, 117] = true
  · rw [if_pos a] at h; simp at h
  rw [if_neg a] at h ⊢
  by_cases b : ([92, 117] : List UInt8).isPrefixOf l = false
  · rw [if_pos b] at h; simp at h
  rw [if_neg b] at h ⊢
  have hb : ([92, 117] : List UInt8).isPrefixOf l = true := by cases hb : ([92, 117] : List UInt8).isPrefixOf l with
    | true => rfl
    | false => exact absurd hb b
  obtain ⟨r, rfl⟩ := two_of hb
  have hl := numF_len 4 0 ((92 :: 117 :: r).drop 2)
  generalize numF 4 0 ((92 :: 117 :: r).drop 2) = F at *
  by_cases c : F.1 ≠ 0
  · rw [if_pos c] at h; exact absurd h c
  rw [if_neg c] at h ⊢
  by_cases d : secondB F.2.1 = false
  · rw [if_pos d] at h; simp at h
  rw [if_neg d]
  have := hl (by simpa using c)
  simp only [List.drop_succ_cons, List.drop_zero] at this
  simp only [List.length_cons]
  omega
theorem byNumF_len (l : List UInt8) (h : (byNumF l).1 = 0) : (byNumF l).2.1.length + (byNumF l).2.2.length ≤ l.length := by
  have hl := numF_len 4 0 l
  by_cases c : (numF 4 0 l).1 ≠ 0
  · rw [byNum_err l c] at h; exact absurd h c
  have c0 : (numF 4 0 l).1 = 0 := by simpa using c
  have hl2 := hl c0
  cases hf : firstB (numF 4 0 l).2.1 with
  | true =>
    rw [byNum_pair l c0 hf] at h ⊢
    have ho := otherF_len (numF 4 0 l).2.1 (numF 4 0 l).2.2
    by_cases d : (otherF (numF 4 0 l).2.1 (numF 4 0 l).2.2).1 ≠ 0
    · rw [if_pos d] at h; exact absurd h d
    · rw [if_neg d]
      have := ho (by simpa using d)
      have h3 := (rune_vals (otherF (numF 4 0 l).2.1 (numF 4 0 l).2.2).2.1).2.2
      dsimp only
      omega
  | false =>
    cases hs : secondB (numF 4 0 l).2.1 with
    | true => rw [byNum_sec l c0 hf hs] at h; simp at h
    | false =>
      rw [byNum_one l c0 hf hs]
      have h3 := (rune_vals (numF 4 0 l).2.1).2.2
      dsimp only
      omega
theorem escF_len (l : List UInt8) (h : (escF l).1 = 0) : (escF l).2.1.length + (escF l).2.2.length ≤ l.length := by
  rcases l with _ | ⟨c, r⟩
  · simp [escF] at h
  · have hb := byNumF_len r
    unfold escF at h ⊢
    dsimp only at h ⊢
    repeat' split
    all_goals first | (simp; omega) | (rename_i c1 c2 c3 c4 c5 c6 c7 c8 c9; simp only [c1, c2, c3, c4, c5, c6, c7, c8, c9, if_true, if_false] at h; first | (have := hb h; rw [List.length_cons]; omega) | (simp at h))
theorem chrF_len (l : List UInt8) (h : (chrF l).1 = 0) : (chrF l).2.1.length + (chrF l).2.2.length ≤ l.length ∧ (chrF l).2.2.length < l.length := by
  rcases l with _ | ⟨c, r⟩
  · simp [chrF] at h
  · have hb := escF_len r
    have hlen := chLen_bd (c :: r) (by simp)
    unfold chrF at h ⊢
    dsimp only at h ⊢
    by_cases hc : c = 92
    · rw [if_pos hc] at h ⊢
      have := hb h
      rw [List.length_cons]
      omega
    · rw [if_neg hc] at h ⊢
      by_cases hd : c.toNat < 32 ∨ Lib.validD ((c :: r).take (chLen (c :: r))) = false
      · rw [if_pos hd] at h; simp at h
      · rw [if_neg hd]
        dsimp only
        rw [List.length_take, List.length_drop]
        omega
/-- From behind the first mark on: the code, the text, what is left behind the second one. -/
def loopF : Nat → List UInt8 → List UInt8 → Int × List UInt8 × List UInt8
  | 0, _, _ => (11, [], [])
  | _ + 1, [], _ => (11, [], [])
  | f + 1, c :: r, acc => if c = 34 then (0, acc, r) else if (chrF (c :: r)).1 ≠ 0 then ((chrF (c :: r)).1, [], []) else loopF f (chrF (c :: r)).2.2 (acc ++ (chrF (c :: r)).2.1)
/-- What Unquote answers: the text, how many bytes it took, the code. -/
def unqF (l : List UInt8) : List UInt8 × Nat × Int := match l with
  | [] => ([], 0, 6)
  | c :: r => if c ≠ 34 then ([], 0, 6) else if (loopF (r.length + 1) r []).1 ≠ 0 then ([], 0, (loopF (r.length + 1) r []).1) else
      if 4096 < (loopF (r.length + 1) r []).2.1.length then ([], 0, 2) else ((loopF (r.length + 1) r []).2.1, (c :: r).length - (loopF (r.length + 1) r []).2.2.length, 0)
def unqIs (x : List UInt8 × Nat × Int) : Ending := .returned (.tuple #[.string (bs x.1), .int .i64 (x.2.1 : Int), .int .i64 x.2.2])
theorem mark_end (b : Nat) (v : Value) (text : List UInt8) (w : World) (h : Rdr w b [] v text) : Calls Tryd.prog 31 #[.pointer (some ⟨b, 0, none⟩)] w fun e w' => e = .returned (.bool false) ∧ w = w' := by
  have c0 := h.c0
  have e0 : bs [] = ⟨#[]⟩ := rfl
  rw [e0] at c0
  clear h e0
  go_enter Tryd.func31, Tryd.ntmps31
  go_wp2
  go_ret
  exact ⟨rfl, rfl⟩
set_option maxRecDepth 100000 in
set_option maxHeartbeats 4000000 in
theorem unquote_mark (r : List UInt8) (w : World) (hs : r.length ≤ 90000) (hT : Tabs w) :
    Calls Tryd.prog 22 #[.string (bs (34 :: r))] w fun e w' => e = unqIs (unqF (34 :: r)) ∧ Fresh w w' := by
  have HT := Lib.hid hT
  have hZ : Hid (unqF (34 :: r) = if (loopF (r.length + 1) r []).1 ≠ 0 then ([], 0, (loopF (r.length + 1) r []).1) else
      if 4096 < (loopF (r.length + 1) r []).2.1.length then ([], 0, 2) else ((loopF (r.length + 1) r []).2.1, (34 :: r).length - (loopF (r.length + 1) r []).2.2.length, 0)) := by
    rw [Hid, unqF, if_neg (by simp)]
  generalize unqF (34 :: r) = Z at *
  have HRL : Hid (r.length ≤ 90000) := hs
  have hsz : (bs (34 :: r)).size = r.length + 1 := by rw [bs_size]; rfl
  have hsz2 : (bs (34 :: r)).size ≤ 90001 := by omega
  have HSZ := Lib.hid hsz
  obtain ⟨p1, p2, p3, p4⟩ := bs_cons 34 r
  have H0 : Hid (Rdr (w.alloc (.cells #[.string (bs r), .slice none 0 0] 60)) w.heap.size r (.slice none 0 0) []) := ⟨at_new w _, World.ownsRow_nil _ _ _ _⟩
  have HF0 := Lib.hid ((Fresh.refl w).alloc (.cells #[.string (bs r), .slice none 0 0] 60))
  generalize bs (34 :: r) = s at *
  generalize bs r = r1 at *
  generalize hL : loopF (r.length + 1) r [] = L at *
  have HL := Lib.hid hL
  clear hT hs hsz hL
  go_enter Tryd.func22, Tryd.ntmps22
  go_wp2
  go_loopw [4] (fun a4 wr => a4 = .int .i64 0 ∧ ∃ (f : Nat) (l2 t1 : List UInt8) (v : Value), Hid (l2.length < f ∧ t1.length + l2.length ≤ r.length) ∧ Hid (L = loopF f l2 t1) ∧ Hid (Rdr wr w.heap.size l2 v t1) ∧ Hid (Fresh w wr)) (fun _ wr => restLen wr w.heap.size)
  case atStart => exact ⟨rfl, r.length + 1, r, [], .slice none 0 0, ⟨by omega, by simp⟩, HL.out.symm, H0.out, HF0.out⟩
  case round =>
    obtain ⟨rfl, f, l2, t1, v, HLN, HE, HR, HF⟩ := hrel
    clear H0 HF0
    obtain ⟨f, rfl⟩ : ∃ g, f = g + 1 := ⟨f - 1, by have := HLN.out.1; omega⟩
    rcases l2 with _ | ⟨c, l3⟩
    · have HX : Hid (L = (11, [], [])) := by rw [Hid, HE.out, loopF]
      have HC := Lib.hid (char_all _ _ _ _ _ (HT.out.move HF.out) (by have := HLN.out.2; have := HRL.out; omega) HR.out)
      have e0 : chrF [] = (11, [], []) := rfl
      rw [e0] at HC
      go_wp2_with fail
      refine (mark_end _ v t1 _ HR.out).mono ?_
      rintro e w' ⟨rfl, rfl⟩
      go_wp2_with fail
      refine HC.out.mono ?_
      rintro e w2 ⟨rfl, _, hb2⟩
      have HF2 := Lib.hid (HF.out.below hb2 (Nat.le_refl _))
      clear hb2 e0
      go_wp2
      refine bodyPost_ret (v := .tuple #[.string ⟨#[]⟩, .int .i64 0, .int .i64 11]) (by simp [results, Tryd.results22, go_sem]) rfl ⟨?_, HF2.out⟩
      have hz := hZ.out
      rw [HX.out, if_pos (by simp)] at hz
      rw [hz]; rfl
    by_cases hc : c = 34
    · subst hc
      have HX : Hid (L = (0, t1, l3)) := by rw [Hid, HE.out, loopF, if_pos rfl]
      have HLT : Hid (t1.length ≤ 90000 ∧ l3.length < r.length + 1) := by
        have h1 := HLN.out.2; have h2 := HRL.out; rw [List.length_cons] at h1; exact ⟨by omega, by omega⟩
      have HR2 : Hid (Rdr wr w.heap.size (34 :: l3) v t1) := HR.out
      clear HE HR
      go_wp2_with fail
      refine (mark_yes _ l3 v t1 _ HR2.out).mono ?_
      rintro e w' ⟨rfl, rfl⟩
      have c0 := HR2.out.c0
      have c1 := HR2.out.c1
      have HZ2 : Hid ((bs (34 :: l3)).size = l3.length + 1) := by rw [Hid, bs_size]; rfl
      have hb2 : (bs (34 :: l3)).size ≤ 90001 := by rw [HZ2.out]; have := HLT.out.2; have := HRL.out; omega
      have hb3 : (bs (34 :: l3)).size ≤ s.size := by rw [HZ2.out, HSZ.out]; have := HLT.out.2; omega
      have HEQ : Hid ((s.size : Int) - ((bs (34 :: l3)).size : Int) + 1 = (((34 :: r).length - l3.length : Nat) : Int)) := by
        rw [Hid, HSZ.out, HZ2.out, List.length_cons]; have := HLT.out.2; omega
      generalize bs (34 :: l3) = r2 at *
      have hbuf := HR2.out.buf
      rcases hbuf with ⟨hl, ⟨rfl, hl0⟩ | ⟨g, cap, cur, rfl, hg1, hg2, hg3, hg4, hg5, hg6⟩⟩
      · obtain rfl : t1 = [] := by cases t1 with
          | nil => rfl
          | cons => simp at hl0
        have hcv := text_nil wr.drew
        clear hl hl0
        go_wp2
        have w1 : IntKind.i64.wrap ((s.size : Int) - (r2.size : Int)) = (s.size : Int) - (r2.size : Int) := IntWalk.i64_in _ (by omega)
        have w2 : IntKind.i64.wrap ((s.size : Int) - (r2.size : Int) + 1) = (s.size : Int) - (r2.size : Int) + 1 := IntWalk.i64_in _ (by omega)
        go_region_held3 (fun w' => (w'.cell? ⟨w.heap.size, 0, none⟩ = some (.string r2) ∧ w'.cell? ⟨w.heap.size, 1, none⟩ = some (.slice none 0 0) ∧ (convert 57 9 (.slice none 0 0)).run Tryd.prog w' = .ok (.string ⟨#[]⟩) w')) (go_keep) ((fail))
        all_goals
          go_wp2
          refine bodyPost_ret (v := .tuple #[.string (bs []), .int .i64 ((s.size : Int) - (r2.size : Int) + 1), .int .i64 0]) (by simp [results, Tryd.results22, go_sem, bs]) rfl ⟨?_, HF.out.drew⟩
          have hz := hZ.out
          rw [HX.out, if_neg (by simp), if_neg (by simp)] at hz
          rw [hz, unqIs, HEQ.out]
      · have hcv : (convert 57 9 (.slice (some ⟨g, 0, none⟩) t1.length cap)).run Tryd.prog wr.drew = .ok (.string (bs t1)) wr.drew := (Buf.text HR2.out.buf.drew).2
        have hl9 : t1.length ≤ 90000 := HLT.out.1
        clear hl hg1 hg2 hg3 hg4 hg5 hg6
        by_cases h4 : t1.length ≤ 4096
        · have h4' : ¬ 4096 < t1.length := by omega
          have HZ : Hid (Z = (t1, (34 :: r).length - l3.length, 0)) := by
            have hz := hZ.out
            rw [HX.out, if_neg (by simp), if_neg h4'] at hz
            exact hz
          go_wp2
          have w1 : IntKind.i64.wrap ((s.size : Int) - (r2.size : Int)) = (s.size : Int) - (r2.size : Int) := IntWalk.i64_in _ (by omega)
          have w2 : IntKind.i64.wrap ((s.size : Int) - (r2.size : Int) + 1) = (s.size : Int) - (r2.size : Int) + 1 := IntWalk.i64_in _ (by omega)
          go_region_held3 (fun w' => (w'.cell? ⟨w.heap.size, 0, none⟩ = some (.string r2) ∧ w'.cell? ⟨w.heap.size, 1, none⟩ = some (.slice (some ⟨g, 0, none⟩) t1.length cap) ∧ (convert 57 9 (.slice (some ⟨g, 0, none⟩) t1.length cap)).run Tryd.prog w' = .ok (.string (bs t1)) w')) (go_keep) ((fail))
          all_goals
            go_wp2
            refine bodyPost_ret (v := .tuple #[.string (bs t1), .int .i64 ((s.size : Int) - (r2.size : Int) + 1), .int .i64 0]) (by simp [results, Tryd.results22, go_sem]) rfl ⟨?_, HF.out.drew⟩
            rw [HZ.out, unqIs, HEQ.out]
        · have h4' : 4096 < t1.length := by omega
          have HZ : Hid (Z = ([], 0, 2)) := by
            have hz := hZ.out
            rw [HX.out, if_neg (by simp), if_pos h4'] at hz
            exact hz
          go_wp2
          refine bodyPost_ret (v := .tuple #[.string ⟨#[]⟩, .int .i64 0, .int .i64 2]) (by simp [results, Tryd.results22, go_sem]) rfl ⟨?_, HF.out⟩
          rw [HZ.out]; rfl
    · have HC := Lib.hid (char_all _ _ _ _ _ (HT.out.move HF.out) (by have := HLN.out.2; have := HRL.out; omega) HR.out)
      have hcl := chrF_len (c :: l3)
      have HM : Hid (restLen wr w.heap.size = (c :: l3).length) := HR.out.restLen
      have hne : c.toNat ≠ 34 := fun e => hc (UInt8.toNat_inj.1 e)
      have HMK := Lib.hid (mark_no _ c l3 v t1 _ hne HR.out)
      have hE := HE.out
      rw [loopF, if_neg hc] at hE
      generalize chrF (c :: l3) = X at *
      obtain ⟨x, m, l4⟩ := X
      dsimp only at hE hcl HC
      by_cases hx : x = 0
      · subst hx
        rw [if_neg (by simp)] at hE
        have hl4 := hcl rfl
        have HE2 := Lib.hid hE
        have HL4 := Lib.hid hl4
        clear HE HR hE hcl hne hc hl4
        go_wp2_with fail
        refine HMK.out.mono ?_
        rintro e w' ⟨rfl, rfl⟩
        go_wp2_with fail
        refine HC.out.mono ?_
        rintro e w2 ⟨rfl, hr2, hb2⟩
        obtain ⟨v2, hr2⟩ := hr2 rfl
        have HR3 := Lib.hid hr2
        have HF3 := Lib.hid (HF.out.below hb2 (Nat.le_refl _))
        clear hr2 hb2
        go_wp2
        go_roundw
        case rel => exact ⟨rfl, f, l4, t1 ++ m, v2, ⟨by have := HLN.out.1; have := HL4.out.2; omega, by have := HLN.out.2; have := HL4.out.1; rw [List.length_append]; omega⟩, HE2.out, HR3.out, HF3.out⟩
        case measure => rw [HM.out, HR3.out.restLen]; exact HL4.out.2
      · rw [if_pos hx] at hE
        have HX := Lib.hid hE
        have e0 : (x != 0) = true := by simpa using hx
        have HY := Lib.hid hx
        clear HE HR hE hcl hne hc hx
        go_wp2_with fail
        refine HMK.out.mono ?_
        rintro e w' ⟨rfl, rfl⟩
        go_wp2_with fail
        refine HC.out.mono ?_
        rintro e w2 ⟨rfl, hr2, hb2⟩
        have HF3 := Lib.hid (HF.out.below hb2 (Nat.le_refl _))
        clear hr2 hb2
        go_wp2
        refine bodyPost_ret (v := .tuple #[.string ⟨#[]⟩, .int .i64 0, .int .i64 x]) (by simp [results, Tryd.results22, go_sem]) rfl ⟨?_, HF3.out⟩
        have hz := hZ.out
        rw [HX.out, if_pos HY.out] at hz
        rw [hz]; rfl
end Go.Proofs.YtajmhllldocpjaaDoor
