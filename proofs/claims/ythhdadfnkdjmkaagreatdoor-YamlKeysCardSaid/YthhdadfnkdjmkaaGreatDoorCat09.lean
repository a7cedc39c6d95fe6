/-
  Package utf's Unquote, of whatever text.
  Digits: what they say, by the document and by the library. No call.
  Package jlex: bytes that go on.
-/
import Derived.Test.YthhdadfnkdjmkaaGreatDoorCat08
import Derived.Lib.ParseIntB
import Derived.Lib.Strings
import GoSem.Op.String
import Derived.Test.YthhdadfnkdjmkaaGreatDoorCat07
namespace Go.Proofs.YthhdadfnkdjmkaaGreatDoor
open Go.ChangeShapes Go.WideShapes Go.ChangeAt Go.RowKit
attribute [local go_sem ↓] Go.wp_at_zero Go.wp_at_succ
variable {w : World}

theorem numF_len : ∀ (k : Nat) (n : Int) (l : List UInt8), (numF k n l).1 = 0 → (numF k n l).2.2.length + k = l.length
  | 0, n, l, _ => by simp [numF]
  | k + 1, n, [], h => by simp [numF] at h
  | k + 1, n, c :: l, h => by
    rw [numF] at h ⊢
    by_cases hc : hexv c < 0
    · rw [if_pos hc] at h; simp at h
    · rw [if_neg hc] at h ⊢
      have := numF_len k _ l h
      rw [List.length_cons]; omega
theorem otherF_len (f : Int) (l : List UInt8) (h : (otherF f l).1 = 0) : (otherF f l).2.2.length + 6 = l.length := by
  unfold otherF at h ⊢
  by_cases a : l.isPrefixOf [92, 117] = true
  · rw [if_pos a] at h; simp at h
  rw [if_neg a] at h ⊢
  by_cases b : ([92, 117] : List UInt8).isPrefixOf l = false
  · rw [if_pos b] at h; simp at h
  rw [if_neg b] at h ⊢
  have hb : ([92, 117] : List UInt8).isPrefixOf l = true := by cases hb : ([92, 117] : List UInt8).isPrefixOf l with
    | true => rfl
    | false => exact absurd hb b
  obtain ⟨r, rfl⟩ := two_of hb
  have hl := numF_len 4 0 ((92 :: 117 :: r).drop 2)
  generalize numF 4 0 ((92 :: 117 :: r).drop 2) = F at *
  by_cases c : F.1 ≠ 0
  · rw [if_pos c] at h; exact absurd h c
  rw [if_neg c] at h ⊢
  by_cases d : secondB F.2.1 = false
  · rw [if_pos d] at h; simp at h
  rw [if_neg d]
  have := hl (by simpa using c)
  simp only [List.drop_succ_cons, List.drop_zero] at this
  simp only [List.length_cons]
  omega
theorem byNumF_len (l : List UInt8) (h : (byNumF l).1 = 0) : (byNumF l).2.1.length + (byNumF l).2.2.length ≤ l.length := by
  have hl := numF_len 4 0 l
  by_cases c : (numF 4 0 l).1 ≠ 0
  · rw [byNum_err l c] at h; exact absurd h c
  have c0 : (numF 4 0 l).1 = 0 := by simpa using c
  have hl2 := hl c0
  cases hf : firstB (numF 4 0 l).2.1 with
  | true =>
    rw [byNum_pair l c0 hf] at h ⊢
    have ho := otherF_len (numF 4 0 l).2.1 (numF 4 0 l).2.2
    by_cases d : (otherF (numF 4 0 l).2.1 (numF 4 0 l).2.2).1 ≠ 0
    · rw [if_pos d] at h; exact absurd h d
    · rw [if_neg d]
      have := ho (by simpa using d)
      have h3 := (rune_vals (otherF (numF 4 0 l).2.1 (numF 4 0 l).2.2).2.1).2.2
      dsimp only
      omega
  | false =>
    cases hs : secondB (numF 4 0 l).2.1 with
    | true => rw [byNum_sec l c0 hf hs] at h; simp at h
    | false =>
      rw [byNum_one l c0 hf hs]
      have h3 := (rune_vals (numF 4 0 l).2.1).2.2
      dsimp only
      omega
theorem escF_len (l : List UInt8) (h : (escF l).1 = 0) : (escF l).2.1.length + (escF l).2.2.length ≤ l.length := by
  rcases l with _ | ⟨c, r⟩
  · simp [escF] at h
  · have hb := byNumF_len r
    unfold escF at h ⊢
    dsimp only at h ⊢
    repeat' split
    all_goals first | (simp; omega) | (rename_i c1 c2 c3 c4 c5 c6 c7 c8 c9; simp only [c1, c2, c3, c4, c5, c6, c7, c8, c9, if_true, if_false] at h; first | (have := hb h; rw [List.length_cons]; omega) | (simp at h))
theorem chrF_len (l : List UInt8) (h : (chrF l).1 = 0) : (chrF l).2.1.length + (chrF l).2.2.length ≤ l.length ∧ (chrF l).2.2.length < l.length := by
  rcases l with _ | ⟨c, r⟩
  · simp [chrF] at h
  · have hb := escF_len r
    have hlen := chLen_bd (c :: r) (by simp)
    unfold chrF at h ⊢
    dsimp only at h ⊢
    by_cases hc : c = 92
    · rw [if_pos hc] at h ⊢
      have := hb h
      rw [List.length_cons]
      omega
    · rw [if_neg hc] at h ⊢
      by_cases hd : c.toNat < 32 ∨ Lib.validD ((c :: r).take (chLen (c :: r))) = false
      · rw [if_pos hd] at h; simp at h
      · rw [if_neg hd]
        dsimp only
        rw [List.length_take, List.length_drop]
        omega
/-- From behind the first mark on: the code, the text, what is left behind the second one. -/
def loopF : Nat → List UInt8 → List UInt8 → Int × List UInt8 × List UInt8
  | 0, _, _ => (11, [], [])
  | _ + 1, [], _ => (11, [], [])
  | f + 1, c :: r, acc => if c = 34 then (0, acc, r) else if (chrF (c :: r)).1 ≠ 0 then ((chrF (c :: r)).1, [], []) else loopF f (chrF (c :: r)).2.2 (acc ++ (chrF (c :: r)).2.1)
/-- What Unquote answers: the text, how many bytes it took, the code. -/
def unqF (l : List UInt8) : List UInt8 × Nat × Int := match l with
  | [] => ([], 0, 6)
  | c :: r => if c ≠ 34 then ([], 0, 6) else if (loopF (r.length + 1) r []).1 ≠ 0 then ([], 0, (loopF (r.length + 1) r []).1) else
      if 4096 < (loopF (r.length + 1) r []).2.1.length then ([], 0, 2) else ((loopF (r.length + 1) r []).2.1, (c :: r).length - (loopF (r.length + 1) r []).2.2.length, 0)
def unqIs (x : List UInt8 × Nat × Int) : Ending := .returned (.tuple #[.string (bs x.1), .int .i64 (x.2.1 : Int), .int .i64 x.2.2])
theorem mark_end (b : Nat) (v : Value) (text : List UInt8) (w : World) (h : Rdr w b [] v text) : Calls Tryz.prog 100 #[.pointer (some ⟨b, 0, none⟩)] w fun e w' => e = .returned (.bool false) ∧ w = w' := by
  have c0 := h.c0
  have e0 : bs [] = ⟨#[]⟩ := rfl
  rw [e0] at c0
  clear h e0
  go_enter Tryz.func100, Tryz.ntmps100
  go_wp2
  go_ret
  exact ⟨rfl, rfl⟩
set_option maxRecDepth 100000 in
set_option maxHeartbeats 4000000 in
theorem unquote_mark (r : List UInt8) (w : World) (hs : r.length ≤ 90000) (hT : Tabs w) :
    Calls Tryz.prog 74 #[.string (bs (34 :: r))] w fun e w' => e = unqIs (unqF (34 :: r)) ∧ Fresh w w' := by
  have HT := Lib.hid hT
  have hZ : Hid (unqF (34 :: r) = if (loopF (r.length + 1) r []).1 ≠ 0 then ([], 0, (loopF (r.length + 1) r []).1) else
      if 4096 < (loopF (r.length + 1) r []).2.1.length then ([], 0, 2) else ((loopF (r.length + 1) r []).2.1, (34 :: r).length - (loopF (r.length + 1) r []).2.2.length, 0)) := by
    rw [Hid, unqF, if_neg (by simp)]
  generalize unqF (34 :: r) = Z at *
  have HRL : Hid (r.length ≤ 90000) := hs
  have hsz : (bs (34 :: r)).size = r.length + 1 := by rw [bs_size]; rfl
  have hsz2 : (bs (34 :: r)).size ≤ 90001 := by omega
  have HSZ := Lib.hid hsz
  obtain ⟨p1, p2, p3, p4⟩ := bs_cons 34 r
  have H0 : Hid (Rdr (w.alloc (.cells #[.string (bs r), .slice none 0 0] 153)) w.heap.size r (.slice none 0 0) []) := ⟨at_new w _, World.ownsRow_nil _ _ _ _⟩
  have HF0 := Lib.hid ((Fresh.refl w).alloc (.cells #[.string (bs r), .slice none 0 0] 153))
  generalize bs (34 :: r) = s at *
  generalize bs r = r1 at *
  generalize hL : loopF (r.length + 1) r [] = L at *
  have HL := Lib.hid hL
  clear hT hs hsz hL
  go_enter Tryz.func74, Tryz.ntmps74
  go_wp2
  go_loopw [4] (fun a4 wr => a4 = .int .i64 0 ∧ ∃ (f : Nat) (l2 t1 : List UInt8) (v : Value), Hid (l2.length < f ∧ t1.length + l2.length ≤ r.length) ∧ Hid (L = loopF f l2 t1) ∧ Hid (Rdr wr w.heap.size l2 v t1) ∧ Hid (Fresh w wr)) (fun _ wr => restLen wr w.heap.size)
  case atStart => exact ⟨rfl, r.length + 1, r, [], .slice none 0 0, ⟨by omega, by simp⟩, HL.out.symm, H0.out, HF0.out⟩
  case round =>
    obtain ⟨rfl, f, l2, t1, v, HLN, HE, HR, HF⟩ := hrel
    clear H0 HF0
    obtain ⟨f, rfl⟩ : ∃ g, f = g + 1 := ⟨f - 1, by have := HLN.out.1; omega⟩
    rcases l2 with _ | ⟨c, l3⟩
    · have HX : Hid (L = (11, [], [])) := by rw [Hid, HE.out, loopF]
      have HC := Lib.hid (char_all _ _ _ _ _ (HT.out.move HF.out) (by have := HLN.out.2; have := HRL.out; omega) HR.out)
      have e0 : chrF [] = (11, [], []) := rfl
      rw [e0] at HC
      go_wp2_with fail
      refine (mark_end _ v t1 _ HR.out).mono ?_
      rintro e w' ⟨rfl, rfl⟩
      go_wp2_with fail
      refine HC.out.mono ?_
      rintro e w2 ⟨rfl, _, hb2⟩
      have HF2 := Lib.hid (HF.out.below hb2 (Nat.le_refl _))
      clear hb2 e0
      go_wp2
      refine bodyPost_ret (v := .tuple #[.string ⟨#[]⟩, .int .i64 0, .int .i64 11]) (by simp [results, Tryz.results74, go_sem]) rfl ⟨?_, HF2.out⟩
      have hz := hZ.out
      rw [HX.out, if_pos (by simp)] at hz
      rw [hz]; rfl
    by_cases hc : c = 34
    · subst hc
      have HX : Hid (L = (0, t1, l3)) := by rw [Hid, HE.out, loopF, if_pos rfl]
      have HLT : Hid (t1.length ≤ 90000 ∧ l3.length < r.length + 1) := by
        have h1 := HLN.out.2; have h2 := HRL.out; rw [List.length_cons] at h1; exact ⟨by omega, by omega⟩
      have HR2 : Hid (Rdr wr w.heap.size (34 :: l3) v t1) := HR.out
      clear HE HR
      go_wp2_with fail
      refine (mark_yes _ l3 v t1 _ HR2.out).mono ?_
      rintro e w' ⟨rfl, rfl⟩
      have c0 := HR2.out.c0
      have c1 := HR2.out.c1
      have HZ2 : Hid ((bs (34 :: l3)).size = l3.length + 1) := by rw [Hid, bs_size]; rfl
      have hb2 : (bs (34 :: l3)).size ≤ 90001 := by rw [HZ2.out]; have := HLT.out.2; have := HRL.out; omega
      have hb3 : (bs (34 :: l3)).size ≤ s.size := by rw [HZ2.out, HSZ.out]; have := HLT.out.2; omega
      have HEQ : Hid ((s.size : Int) - ((bs (34 :: l3)).size : Int) + 1 = (((34 :: r).length - l3.length : Nat) : Int)) := by
        rw [Hid, HSZ.out, HZ2.out, List.length_cons]; have := HLT.out.2; omega
      generalize bs (34 :: l3) = r2 at *
      have hbuf := HR2.out.buf
      rcases hbuf with ⟨hl, ⟨rfl, hl0⟩ | ⟨g, cap, cur, rfl, hg1, hg2, hg3, hg4, hg5, hg6⟩⟩
      · obtain rfl : t1 = [] := by cases t1 with
          | nil => rfl
          | cons => simp at hl0
        have hcv := text_nil wr.drew
        clear hl hl0
        go_wp2
        have w1 : IntKind.i64.wrap ((s.size : Int) - (r2.size : Int)) = (s.size : Int) - (r2.size : Int) := IntWalk.i64_in _ (by omega)
        have w2 : IntKind.i64.wrap ((s.size : Int) - (r2.size : Int) + 1) = (s.size : Int) - (r2.size : Int) + 1 := IntWalk.i64_in _ (by omega)
        go_region_held3 (fun w' => (w'.cell? ⟨w.heap.size, 0, none⟩ = some (.string r2) ∧ w'.cell? ⟨w.heap.size, 1, none⟩ = some (.slice none 0 0) ∧ (convert 145 9 (.slice none 0 0)).run Tryz.prog w' = .ok (.string ⟨#[]⟩) w')) (go_keep) ((fail))
        all_goals
          go_wp2
          refine bodyPost_ret (v := .tuple #[.string (bs []), .int .i64 ((s.size : Int) - (r2.size : Int) + 1), .int .i64 0]) (by simp [results, Tryz.results74, go_sem, bs]) rfl ⟨?_, HF.out.drew⟩
          have hz := hZ.out
          rw [HX.out, if_neg (by simp), if_neg (by simp)] at hz
          rw [hz, unqIs, HEQ.out]
      · have hcv : (convert 145 9 (.slice (some ⟨g, 0, none⟩) t1.length cap)).run Tryz.prog wr.drew = .ok (.string (bs t1)) wr.drew := (Buf.text HR2.out.buf.drew).2
        have hl9 : t1.length ≤ 90000 := HLT.out.1
        clear hl hg1 hg2 hg3 hg4 hg5 hg6
        by_cases h4 : t1.length ≤ 4096
        · have h4' : ¬ 4096 < t1.length := by omega
          have HZ : Hid (Z = (t1, (34 :: r).length - l3.length, 0)) := by
            have hz := hZ.out
            rw [HX.out, if_neg (by simp), if_neg h4'] at hz
            exact hz
          go_wp2
          have w1 : IntKind.i64.wrap ((s.size : Int) - (r2.size : Int)) = (s.size : Int) - (r2.size : Int) := IntWalk.i64_in _ (by omega)
          have w2 : IntKind.i64.wrap ((s.size : Int) - (r2.size : Int) + 1) = (s.size : Int) - (r2.size : Int) + 1 := IntWalk.i64_in _ (by omega)
          go_region_held3 (fun w' => (w'.cell? ⟨w.heap.size, 0, none⟩ = some (.string r2) ∧ w'.cell? ⟨w.heap.size, 1, none⟩ = some (.slice (some ⟨g, 0, none⟩) t1.length cap) ∧ (convert 145 9 (.slice (some ⟨g, 0, none⟩) t1.length cap)).run Tryz.prog w' = .ok (.string (bs t1)) w')) (go_keep) ((fail))
          all_goals
            go_wp2
            refine bodyPost_ret (v := .tuple #[.string (bs t1), .int .i64 ((s.size : Int) - (r2.size : Int) + 1), .int .i64 0]) (by simp [results, Tryz.results74, go_sem]) rfl ⟨?_, HF.out.drew⟩
            rw [HZ.out, unqIs, HEQ.out]
        · have h4' : 4096 < t1.length := by omega
          have HZ : Hid (Z = ([], 0, 2)) := by
            have hz := hZ.out
            rw [HX.out, if_neg (by simp), if_pos h4'] at hz
            exact hz
          go_wp2
          refine bodyPost_ret (v := .tuple #[.string ⟨#[]⟩, .int .i64 0, .int .i64 2]) (by simp [results, Tryz.results74, go_sem]) rfl ⟨?_, HF.out⟩
          rw [HZ.out]; rfl
    · have HC := Lib.hid (char_all _ _ _ _ _ (HT.out.move HF.out) (by have := HLN.out.2; have := HRL.out; omega) HR.out)
      have hcl := chrF_len (c :: l3)
      have HM : Hid (restLen wr w.heap.size = (c :: l3).length) := HR.out.restLen
      have hne : c.toNat ≠ 34 := fun e => hc (UInt8.toNat_inj.1 e)
      have HMK := Lib.hid (mark_no _ c l3 v t1 _ hne HR.out)
      have hE := HE.out
      rw [loopF, if_neg hc] at hE
      generalize chrF (c :: l3) = X at *
      obtain ⟨x, m, l4⟩ := X
      dsimp only at hE hcl HC
      by_cases hx : x = 0
      · subst hx
        rw [if_neg (by simp)] at hE
        have hl4 := hcl rfl
        have HE2 := Lib.hid hE
        have HL4 := Lib.hid hl4
        clear HE HR hE hcl hne hc hl4
        go_wp2_with fail
        refine HMK.out.mono ?_
        rintro e w' ⟨rfl, rfl⟩
        go_wp2_with fail
        refine HC.out.mono ?_
        rintro e w2 ⟨rfl, hr2, hb2⟩
        obtain ⟨v2, hr2⟩ := hr2 rfl
        have HR3 := Lib.hid hr2
        have HF3 := Lib.hid (HF.out.below hb2 (Nat.le_refl _))
        clear hr2 hb2
        go_wp2
        go_roundw
        case rel => exact ⟨rfl, f, l4, t1 ++ m, v2, ⟨by have := HLN.out.1; have := HL4.out.2; omega, by have := HLN.out.2; have := HL4.out.1; rw [List.length_append]; omega⟩, HE2.out, HR3.out, HF3.out⟩
        case measure => rw [HM.out, HR3.out.restLen]; exact HL4.out.2
      · rw [if_pos hx] at hE
        have HX := Lib.hid hE
        have e0 : (x != 0) = true := by simpa using hx
        have HY := Lib.hid hx
        clear HE HR hE hcl hne hc hx
        go_wp2_with fail
        refine HMK.out.mono ?_
        rintro e w' ⟨rfl, rfl⟩
        go_wp2_with fail
        refine HC.out.mono ?_
        rintro e w2 ⟨rfl, hr2, hb2⟩
        have HF3 := Lib.hid (HF.out.below hb2 (Nat.le_refl _))
        clear hr2 hb2
        go_wp2
        refine bodyPost_ret (v := .tuple #[.string ⟨#[]⟩, .int .i64 0, .int .i64 x]) (by simp [results, Tryz.results74, go_sem]) rfl ⟨?_, HF3.out⟩
        have hz := hZ.out
        rw [HX.out, if_pos HY.out] at hz
        rw [hz]; rfl
end Go.Proofs.YthhdadfnkdjmkaaGreatDoor
namespace Go.Proofs.YthhdadfnkdjmkaaGreatDoor
open Go.Lib

def digB (c : UInt8) : Bool := decide (48 ≤ c.toNat ∧ c.toNat ≤ 57)
theorem digB_iff (c : UInt8) : digB c = true ↔ 48 ≤ c.toNat ∧ c.toNat ≤ 57 := by simp [digB]
/-- How many bytes at the beginning are such ones. -/
def cnt (p : UInt8 → Bool) : List UInt8 → Nat
  | [] => 0
  | c :: l => if p c = true then cnt p l + 1 else 0
theorem cnt_le (p : UInt8 → Bool) : ∀ l : List UInt8, cnt p l ≤ l.length
  | [] => Nat.le_refl 0
  | c :: l => by
    have := cnt_le p l
    unfold cnt
    split
    · simp; omega
    · simp
theorem cnt_all (p : UInt8 → Bool) : ∀ l : List UInt8, (∀ c ∈ l, p c = true) ↔ cnt p l = l.length
  | [] => by simp [cnt]
  | c :: l => by
    have ih := cnt_all p l
    have hl := cnt_le p l
    unfold cnt
    by_cases h : p c = true
    · rw [if_pos h]
      simp [h, ih]
    · rw [if_neg h]
      simp [h]
theorem cnt_take (p : UInt8 → Bool) : ∀ l : List UInt8, ∀ c ∈ l.take (cnt p l), p c = true
  | [], c, h => by simp at h
  | d :: l, c, h => by
    unfold cnt at h
    by_cases hd : p d = true
    · rw [if_pos hd, List.take_succ_cons] at h
      rcases List.mem_cons.1 h with rfl | h
      · exact hd
      · exact cnt_take p l c h
    · rw [if_neg hd] at h
      simp at h
/-- What digits say, behind others that say acc. -/
def numA (acc : Nat) (l : List UInt8) : Nat := l.foldl (fun a c => a * 10 + (c.toNat - 48)) acc
def num (l : List UInt8) : Nat := numA 0 l
theorem numA_cons (acc : Nat) (c : UInt8) (l : List UInt8) : numA acc (c :: l) = numA (acc * 10 + (c.toNat - 48)) l := by unfold numA; rw [List.foldl_cons]
theorem numA_snoc (acc : Nat) (l : List UInt8) (c : UInt8) : numA acc (l ++ [c]) = numA acc l * 10 + (c.toNat - 48) := by simp [numA]
theorem numA_ge (l : List UInt8) : ∀ acc : Nat, acc ≤ numA acc l := by
  induction l with
  | nil => exact fun acc => Nat.le_refl acc
  | cons c l ih =>
    intro acc
    rw [numA_cons]
    have := ih (acc * 10 + (c.toNat - 48))
    generalize numA (acc * 10 + (c.toNat - 48)) l = z at *
    omega
theorem numA_eq : ∀ (l : List UInt8) (acc : Nat), numA acc l = acc * 10 ^ l.length + num l
  | [], acc => by simp [numA, num]
  | c :: l, acc => by
    have h1 := numA_eq l (acc * 10 + (c.toNat - 48))
    have h2 := numA_eq l (0 * 10 + (c.toNat - 48))
    have e : num (c :: l) = numA (0 * 10 + (c.toNat - 48)) l := numA_cons 0 c l
    rw [numA_cons, h1, e, h2, List.length_cons, Nat.pow_succ, Nat.zero_mul, Nat.zero_add, Nat.add_mul, Nat.mul_assoc, Nat.mul_comm 10]
    omega
theorem num_lt : ∀ (l : List UInt8), (∀ c ∈ l, digB c = true) → num l < 10 ^ l.length
  | [], _ => by simp [num, numA]
  | c :: l, h => by
    have ih := num_lt l (fun d hd => h d (List.mem_cons_of_mem _ hd))
    have hc := (digB_iff c).1 (h c (by simp))
    rw [num, numA_cons, numA_eq, List.length_cons, Nat.pow_succ]
    have : (0 * 10 + (c.toNat - 48)) * 10 ^ l.length ≤ 9 * 10 ^ l.length := Nat.mul_le_mul_right _ (by omega)
    omega
theorem num_cons (c : UInt8) (l : List UInt8) : num (c :: l) = (c.toNat - 48) * 10 ^ l.length + num l := by
  rw [num, numA_cons, numA_eq]; simp
theorem num_take (l : List UInt8) (k : Nat) : num (l.take k) ≤ num l := by
  conv => rhs; rw [← List.take_append_drop k l]
  have e : num (l.take k ++ l.drop k) = numA (num (l.take k)) (l.drop k) := by unfold num numA; rw [List.foldl_append]
  rw [e]
  exact numA_ge _ _
theorem pum (M : Nat) (hM : M ≤ 18446744073709551615) : ∀ (l : List UInt8) (acc : Nat), (∀ c ∈ l, digB c = true) → acc ≤ M → parseUintM M acc l = if numA acc l ≤ M then .ok (numA acc l) else .range
  | [], acc, _, ha => by
    show NumEnd.ok acc = _
    rw [if_pos (show numA acc [] ≤ M from ha)]
    rfl
  | c :: l, acc, h, ha => by
    have hc := (digB_iff c).1 (h c (by simp))
    have hge := numA_ge l (acc * 10 + (c.toNat - 48))
    rw [parseUintM, if_pos hc, numA_cons]
    by_cases h1 : 1844674407370955162 ≤ acc
    · rw [if_pos h1, if_neg (by omega)]
    · rw [if_neg h1]
      by_cases h2 : M < acc * 10 + (c.toNat - 48)
      · rw [if_pos h2, if_neg (by omega)]
      · rw [if_neg h2, pum M hM l _ (fun d hd => h d (List.mem_cons_of_mem _ hd)) (by omega)]
/-- The text behind a sign. -/
def behind (l : List UInt8) : List UInt8 := trimPrefix l [45]
theorem behind_minus (l : List UInt8) : behind (45 :: l) = l := by simp [behind, trimPrefix, hasPrefix]
theorem behind_other (l : List UInt8) (h : ∀ r, l ≠ 45 :: r) : behind l = l := by
  unfold behind trimPrefix hasPrefix
  rcases l with _ | ⟨c, l⟩
  · simp
  · have hc : (45 == c) = false := by
      rw [beq_eq_false_iff_ne]
      rintro rfl
      exact h l rfl
    simp [List.isPrefixOf, hc]
/-- Is it below 0? -/
def minus (l : List UInt8) : Bool := match l with
  | [] => false
  | c :: _ => c == 45
/-- What digits may be: one at least, no 0 ahead of others. -/
def digits (ds : List UInt8) : Bool := decide (ds ≠ [] ∧ cnt digB ds = ds.length ∧ (ds.head? ≠ some 48 ∨ ds = [48]))
/-- The greatest number behind a sign. -/
def most (l : List UInt8) : Nat := if minus l = true then 9223372036854775808 else 9223372036854775807
/-- What Whole answers: the number and the code. -/
def wholeV (l : List UInt8) : Int := if digits (behind l) = true ∧ num (behind l) ≤ most l then (if minus l = true then -(num (behind l) : Int) else (num (behind l) : Int)) else 0
def wholeE (l : List UInt8) : Int := if digits (behind l) = true then (if num (behind l) ≤ most l then 0 else 7) else 12
theorem digits_iff (ds : List UInt8) : digits ds = true ↔ ds ≠ [] ∧ (∀ c ∈ ds, digB c = true) ∧ (ds.head? ≠ some 48 ∨ ds = [48]) := by
  rw [digits, decide_eq_true_iff, cnt_all]
theorem minus_of {l : List UInt8} (h : minus l = true) : ∃ r, l = 45 :: r := by
  unfold minus at h
  rcases l with _ | ⟨c, l⟩
  · cases h
  · have := eq_of_beq h
    subst this
    exact ⟨l, rfl⟩
theorem minus_no {l : List UInt8} (h : minus l = false) : ∀ r, l ≠ 45 :: r := by
  rintro r rfl
  simp [minus] at h
/-- The library's ParseInt of such digits, with a sign or none. -/
theorem parse_digits (l : List UInt8) (h : digits (behind l) = true) : parseIntB 64 l = if num (behind l) ≤ most l then .ok (if minus l = true then -(num (behind l) : Int) else (num (behind l) : Int)) else .range := by
  obtain ⟨h0, h1, _⟩ := (digits_iff _).1 h
  cases hm : minus l with
  | true =>
    obtain ⟨r, rfl⟩ := minus_of hm
    rw [behind_minus] at *
    have hp := pum 18446744073709551615 (Nat.le_refl _) r 0 h1 (by omega)
    have e1 : (45 : UInt8).toNat = 45 := rfl
    simp only [parseIntB, e1, parseUintB, h0, most, hm, if_true, if_false, or_true, show (2 ^ 64 - 1 : Nat) = 18446744073709551615 from rfl, show (2 ^ (64 - 1) : Nat) = 9223372036854775808 from rfl]
    rw [hp]
    show _ = if num r ≤ 9223372036854775808 then _ else _
    have e2 : numA 0 r = num r := rfl
    rw [e2]
    by_cases a : num r ≤ 18446744073709551615
    · rw [if_pos a]
      by_cases b : num r ≤ 9223372036854775808
      · rw [if_pos b]
        simp
        omega
      · rw [if_neg b]
        simp
        omega
    · rw [if_neg a, if_neg (by omega)]
  | false =>
    have hb := behind_other l (minus_no hm)
    rw [hb] at h h0 h1
    rw [hb]
    clear hb
    rcases l with _ | ⟨c, r⟩
    · exact absurd rfl h0
    have hc := (digB_iff c).1 (h1 c (by simp))
    have hp := pum 18446744073709551615 (Nat.le_refl _) (c :: r) 0 h1 (by omega)
    have e3 : ¬ c.toNat = 45 := by omega
    have e4 : ¬ c.toNat = 43 := by omega
    simp only [parseIntB, parseUintB, most, hm, e4, e3, or_self, show (2 ^ 64 - 1 : Nat) = 18446744073709551615 from rfl, show (2 ^ (64 - 1) : Nat) = 9223372036854775808 from rfl, reduceCtorEq, if_false]
    rw [hp]
    have e2 : numA 0 (c :: r) = num (c :: r) := rfl
    rw [e2]
    by_cases a : num (c :: r) ≤ 18446744073709551615
    · rw [if_pos a]
      by_cases b : num (c :: r) ≤ 9223372036854775807
      · rw [if_pos b]
        simp
        omega
      · rw [if_neg b]
        simp
        omega
    · rw [if_neg a, if_neg (by omega)]
theorem lex_num : ∀ (a b : List UInt8), a.length = b.length → (∀ c ∈ a, digB c = true) → (∀ c ∈ b, digB c = true) → (Op.bytesLess a b = true ↔ num a < num b) ∧ (a = b ↔ num a = num b)
  | [], [], _, _, _ => by simp [Op.bytesLess]
  | [], _ :: _, h, _, _ => by simp at h
  | _ :: _, [], h, _, _ => by simp at h
  | x :: a, y :: b, h, ha, hb => by
    have hl : a.length = b.length := by simpa using h
    obtain ⟨i1, i2⟩ := lex_num a b hl (fun d hd => ha d (List.mem_cons_of_mem _ hd)) (fun d hd => hb d (List.mem_cons_of_mem _ hd))
    have hx := (digB_iff x).1 (ha x (by simp))
    have hy := (digB_iff y).1 (hb y (by simp))
    have na := num_lt a (fun d hd => ha d (List.mem_cons_of_mem _ hd))
    have nb := num_lt b (fun d hd => hb d (List.mem_cons_of_mem _ hd))
    rw [num_cons, num_cons, hl]
    rw [hl] at na
    generalize 10 ^ b.length = t at *
    have hxy : x < y ↔ x.toNat < y.toNat := UInt8.lt_iff_toNat_lt
    rcases Nat.lt_trichotomy x.toNat y.toNat with hlt | heq | hgt
    · have k : (x.toNat - 48 + 1) * t ≤ (y.toNat - 48) * t := Nat.mul_le_mul_right _ (by omega)
      rw [Nat.add_mul, Nat.one_mul] at k
      have hne : x ≠ y := by rintro rfl; omega
      constructor
      · simp [Op.bytesLess, hxy.2 hlt]; omega
      · simp [hne]; omega
    · obtain rfl : x = y := UInt8.toNat_inj.1 heq
      constructor
      · rw [Op.bytesLess]
        simp [i1]
      · simp [i2]
    · have k : (y.toNat - 48 + 1) * t ≤ (x.toNat - 48) * t := Nat.mul_le_mul_right _ (by omega)
      rw [Nat.add_mul, Nat.one_mul] at k
      have hne : x ≠ y := by rintro rfl; omega
      have hnl : ¬ x < y := by rw [hxy]; omega
      constructor
      · rw [Op.bytesLess]
        simp [hnl, hne]; omega
      · simp [hne]; omega
/-- The document's way: by how many digits, and by the greatest ones. -/
theorem most_digits (ds m : List UInt8) (h : digits ds = true) (hm : m.length = 19) (hmd : ∀ c ∈ m, digB c = true) (h1 : 1000000000000000000 ≤ num m) :
    (19 < ds.length ∨ ds.length = 19 ∧ (Op.bytesLess ds m || ds == m) = false) ↔ num m < num ds := by
  obtain ⟨d0, d1, d2⟩ := (digits_iff _).1 h
  have hm2 := num_lt m hmd
  rw [hm] at hm2
  rcases Nat.lt_trichotomy ds.length 19 with hlt | heq | hgt
  · have k := num_lt ds d1
    have k2 : (10 : Nat) ^ ds.length ≤ 10 ^ 18 := Nat.pow_le_pow_right (by decide) (by omega)
    constructor
    · rintro (a | a) <;> omega
    · intro a
      have : (10 : Nat) ^ 18 = 1000000000000000000 := rfl
      omega
  · obtain ⟨i1, i2⟩ := lex_num ds m (by omega) d1 hmd
    constructor
    · rintro (a | ⟨_, a⟩)
      · omega
      · rw [Bool.or_eq_false_iff, beq_eq_false_iff_ne] at a
        have b1 : ¬ num ds < num m := fun e => by rw [i1.2 e] at a; exact absurd a.1 (by simp)
        have b2 : ¬ num ds = num m := fun e => a.2 (i2.2 e)
        omega
    · intro a
      refine .inr ⟨heq, ?_⟩
      rw [Bool.or_eq_false_iff, beq_eq_false_iff_ne]
      refine ⟨?_, fun e => ?_⟩
      · cases hb : Op.bytesLess ds m with
        | false => rfl
        | true => have := i1.1 hb; omega
      · have := i2.1 e; omega
  · rcases ds with _ | ⟨c, r⟩
    · exact absurd rfl d0
    have hc := (digB_iff c).1 (d1 c (by simp))
    have hc2 : c.toNat ≠ 48 := fun e => by
      have : c = 48 := UInt8.toNat_inj.1 e
      subst this
      rcases d2 with d2 | d2
      · simp at d2
      · rw [d2] at hgt; simp at hgt
    have k : 1 * 10 ^ r.length ≤ (c.toNat - 48) * 10 ^ r.length := Nat.mul_le_mul_right _ (by omega)
    have k2 : (10 : Nat) ^ 19 ≤ 10 ^ r.length := Nat.pow_le_pow_right (by decide) (by simp at hgt; omega)
    rw [num_cons]
    constructor
    · intro _; omega
    · exact fun _ => .inl hgt
end Go.Proofs.YthhdadfnkdjmkaaGreatDoor
namespace Go.Proofs.YthhdadfnkdjmkaaGreatDoor
open Go.ChangeShapes Go.WideShapes Go.ChangeAt Go.RowKit
attribute [local go_sem ↓] Go.wp_at_zero Go.wp_at_succ
variable {w : World}

def blankB (c : UInt8) : Bool := decide (c.toNat = 32 ∨ c.toNat = 9 ∨ c.toNat = 10 ∨ c.toNat = 13)
def letB (c : UInt8) : Bool := decide ((65 ≤ c.toNat ∧ c.toNat ≤ 90) ∨ (97 ≤ c.toNat ∧ c.toNat ≤ 122))
def startB (c : UInt8) : Bool := decide (c.toNat = 45 ∨ (48 ≤ c.toNat ∧ c.toNat ≤ 57))
def innB (c : UInt8) : Bool := startB c || letB c || decide (c.toNat = 46 ∨ c.toNat = 43)

theorem isDigit_any (c : UInt8) (w : World) : Calls Tryz.prog 124 #[.int .u8 (c.toNat : Int)] w fun e w' => e = .returned (.bool (digB c)) ∧ w = w' := by
  by_cases h0 : 48 ≤ c.toNat
  · by_cases h1 : c.toNat ≤ 57
    · have a0 : (48 : Int) ≤ (c.toNat : Int) := by omega
      have a1 : (c.toNat : Int) ≤ 57 := by omega
      have H : Hid (digB c = true) := (digB_iff c).2 ⟨h0, h1⟩
      clear h0 h1
      go_enter Tryz.func124, Tryz.ntmps124
      go_wp2
      go_ret
      exact ⟨by rw [H.out]; rfl, rfl⟩
    · have a0 : (48 : Int) ≤ (c.toNat : Int) := by omega
      have a1 : ¬ (c.toNat : Int) ≤ 57 := by omega
      have H : Hid (digB c = false) := by rw [Hid, digB]; simp; omega
      clear h0 h1
      go_enter Tryz.func124, Tryz.ntmps124
      go_wp2
      go_ret
      exact ⟨by rw [H.out]; rfl, rfl⟩
  · have a0 : ¬ (48 : Int) ≤ (c.toNat : Int) := by omega
    have H : Hid (digB c = false) := by rw [Hid, digB]; simp; omega
    clear h0
    go_enter Tryz.func124, Tryz.ntmps124
    go_wp2
    go_ret
    exact ⟨by rw [H.out]; rfl, rfl⟩
theorem isBlank_any (c : UInt8) (w : World) : Calls Tryz.prog 72 #[.int .u8 (c.toNat : Int)] w fun e w' => e = .returned (.bool (blankB c)) ∧ w = w' := by
  by_cases h : c.toNat = 32 ∨ c.toNat = 9 ∨ c.toNat = 10 ∨ c.toNat = 13
  · have H : Hid (blankB c = true) := by rw [Hid, blankB]; exact decide_eq_true h
    rcases h with h | h | h | h
    all_goals
      have hi : (c.toNat : Int) = ((c.toNat : Nat) : Int) := rfl
      rw [h]
      clear h hi
      go_enter Tryz.func72, Tryz.ntmps72
      go_wp2
      go_ret
      exact ⟨by rw [H.out]; rfl, rfl⟩
  · have H : Hid (blankB c = false) := by rw [Hid, blankB]; exact decide_eq_false h
    have a0 : ((c.toNat : Int) == 32) = false := by rw [beq_eq_false_iff_ne]; omega
    have a1 : ((c.toNat : Int) == 9) = false := by rw [beq_eq_false_iff_ne]; omega
    have a2 : ((c.toNat : Int) == 10) = false := by rw [beq_eq_false_iff_ne]; omega
    have a3 : ((c.toNat : Int) == 13) = false := by rw [beq_eq_false_iff_ne]; omega
    clear h
    go_enter Tryz.func72, Tryz.ntmps72
    go_wp2
    go_ret
    exact ⟨by rw [H.out]; rfl, rfl⟩
theorem isLetter_any (c : UInt8) (w : World) : Calls Tryz.prog 99 #[.int .u8 (c.toNat : Int)] w fun e w' => e = .returned (.bool (letB c)) ∧ w = w' := by
  have hc : c.toNat < 65 ∨ (65 ≤ c.toNat ∧ c.toNat ≤ 90) ∨ (91 ≤ c.toNat ∧ c.toNat < 97) ∨ (97 ≤ c.toNat ∧ c.toNat ≤ 122) ∨ 123 ≤ c.toNat := by omega
  rcases hc with h | h | h | h | h
  · have H : Hid (letB c = false) := by rw [Hid, letB]; exact decide_eq_false (by omega)
    have a0 : ¬ (65 : Int) ≤ (c.toNat : Int) := by omega
    have a1 : ¬ (97 : Int) ≤ (c.toNat : Int) := by omega
    clear h
    go_enter Tryz.func99, Tryz.ntmps99
    go_wp2
    go_ret
    exact ⟨by rw [H.out]; rfl, rfl⟩
  · have H : Hid (letB c = true) := by rw [Hid, letB]; exact decide_eq_true (.inl h)
    have a0 : (65 : Int) ≤ (c.toNat : Int) := by omega
    have a1 : (c.toNat : Int) ≤ 90 := by omega
    clear h
    go_enter Tryz.func99, Tryz.ntmps99
    go_wp2
    go_ret
    exact ⟨by rw [H.out]; rfl, rfl⟩
  · have H : Hid (letB c = false) := by rw [Hid, letB]; exact decide_eq_false (by omega)
    have a0 : (65 : Int) ≤ (c.toNat : Int) := by omega
    have a1 : ¬ (c.toNat : Int) ≤ 90 := by omega
    have a2 : ¬ (97 : Int) ≤ (c.toNat : Int) := by omega
    clear h
    go_enter Tryz.func99, Tryz.ntmps99
    go_wp2
    go_ret
    exact ⟨by rw [H.out]; rfl, rfl⟩
  · have H : Hid (letB c = true) := by rw [Hid, letB]; exact decide_eq_true (.inr h)
    have a0 : (65 : Int) ≤ (c.toNat : Int) := by omega
    have a1 : ¬ (c.toNat : Int) ≤ 90 := by omega
    have a2 : (97 : Int) ≤ (c.toNat : Int) := by omega
    have a3 : (c.toNat : Int) ≤ 122 := by omega
    clear h
    go_enter Tryz.func99, Tryz.ntmps99
    go_wp2
    go_ret
    exact ⟨by rw [H.out]; rfl, rfl⟩
  · have H : Hid (letB c = false) := by rw [Hid, letB]; exact decide_eq_false (by omega)
    have a0 : (65 : Int) ≤ (c.toNat : Int) := by omega
    have a1 : ¬ (c.toNat : Int) ≤ 90 := by omega
    have a2 : (97 : Int) ≤ (c.toNat : Int) := by omega
    have a3 : ¬ (c.toNat : Int) ≤ 122 := by omega
    clear h
    go_enter Tryz.func99, Tryz.ntmps99
    go_wp2
    go_ret
    exact ⟨by rw [H.out]; rfl, rfl⟩
theorem starts_any (c : UInt8) (w : World) : Calls Tryz.prog 96 #[.int .u8 (c.toNat : Int)] w fun e w' => e = .returned (.bool (startB c)) ∧ w = w' := by
  by_cases h : c.toNat = 45
  · have H : Hid (startB c = true) := by rw [Hid, startB]; exact decide_eq_true (.inl h)
    rw [h]
    clear h
    go_enter Tryz.func96, Tryz.ntmps96
    go_wp2
    go_ret
    exact ⟨by rw [H.out]; rfl, rfl⟩
  · have H : Hid (digB c = startB c) := by rw [Hid, startB, digB]; exact decide_eq_decide.2 (by omega)
    have HD := Lib.hid (fun W => isDigit_any c W)
    rw [H.out] at HD
    have a0 : ((c.toNat : Int) == 45) = false := by rw [beq_eq_false_iff_ne]; omega
    clear h H
    generalize startB c = z at *
    go_enter Tryz.func96, Tryz.ntmps96
    go_wp2_with (go_at_call 124; refine (HD.out _).mono ?_; rintro e w' ⟨rfl, rfl⟩)
    go_ret
    exact ⟨rfl, rfl⟩
theorem inNumber_any (c : UInt8) (w : World) : Calls Tryz.prog 97 #[.int .u8 (c.toNat : Int)] w fun e w' => e = .returned (.bool (innB c)) ∧ w = w' := by
  have HS := Lib.hid (fun W => starts_any c W)
  have HL := Lib.hid (fun W => isLetter_any c W)
  have HE : Hid (innB c = (startB c || letB c || decide (c.toNat = 46 ∨ c.toNat = 43))) := rfl
  cases hs : startB c with
  | true =>
    rw [hs] at HS HE
    have HX : Hid (innB c = true) := by rw [Hid, HE.out]; rfl
    clear hs HE HL
    go_enter Tryz.func97, Tryz.ntmps97
    go_wp2_with (go_at_call 96; refine (HS.out _).mono ?_; rintro e w' ⟨rfl, rfl⟩)
    go_ret
    exact ⟨by rw [HX.out]; rfl, rfl⟩
  | false =>
    rw [hs] at HS HE
    cases hl : letB c with
    | true =>
      rw [hl] at HL HE
      have HX : Hid (innB c = true) := by rw [Hid, HE.out]; rfl
      clear hs hl HE
      go_enter Tryz.func97, Tryz.ntmps97
      go_wp2_with (first | (go_at_call 96; refine (HS.out _).mono ?_; rintro e w' ⟨rfl, rfl⟩) | (go_at_call 99; refine (HL.out _).mono ?_; rintro e w' ⟨rfl, rfl⟩))
      go_ret
      exact ⟨by rw [HX.out]; rfl, rfl⟩
    | false =>
      rw [hl] at HL HE
      by_cases h1 : c.toNat = 46
      · have HX : Hid (innB c = true) := by rw [Hid, HE.out, decide_eq_true (.inl h1)]; rfl
        have a0 : ((c.toNat : Int) == 46) = true := by rw [h1]; rfl
        clear hs hl HE h1
        go_enter Tryz.func97, Tryz.ntmps97
        go_wp2_with (first | (go_at_call 96; refine (HS.out _).mono ?_; rintro e w' ⟨rfl, rfl⟩) | (go_at_call 99; refine (HL.out _).mono ?_; rintro e w' ⟨rfl, rfl⟩))
        go_ret
        exact ⟨by rw [HX.out]; rfl, rfl⟩
      by_cases h2 : c.toNat = 43
      · have HX : Hid (innB c = true) := by rw [Hid, HE.out, decide_eq_true (.inr h2)]; rfl
        have a0 : ((c.toNat : Int) == 46) = false := by rw [beq_eq_false_iff_ne]; omega
        have a1 : ((c.toNat : Int) == 43) = true := by rw [h2]; rfl
        clear hs hl HE h1 h2
        go_enter Tryz.func97, Tryz.ntmps97
        go_wp2_with (first | (go_at_call 96; refine (HS.out _).mono ?_; rintro e w' ⟨rfl, rfl⟩) | (go_at_call 99; refine (HL.out _).mono ?_; rintro e w' ⟨rfl, rfl⟩))
        go_ret
        exact ⟨by rw [HX.out]; rfl, rfl⟩
      · have HX : Hid (innB c = false) := by rw [Hid, HE.out, decide_eq_false (by omega)]; rfl
        have a0 : ((c.toNat : Int) == 46) = false := by rw [beq_eq_false_iff_ne]; omega
        have a1 : ((c.toNat : Int) == 43) = false := by rw [beq_eq_false_iff_ne]; omega
        clear hs hl HE h1 h2
        go_enter Tryz.func97, Tryz.ntmps97
        go_wp2_with (first | (go_at_call 96; refine (HS.out _).mono ?_; rintro e w' ⟨rfl, rfl⟩) | (go_at_call 99; refine (HL.out _).mono ?_; rintro e w' ⟨rfl, rfl⟩))
        go_ret
        exact ⟨by rw [HX.out]; rfl, rfl⟩
theorem cnt_at (p : UInt8 → Bool) (s : ByteArray) (k : Nat) (h : k < s.size) : cnt p (s.data.toList.drop k) = if p s[k] = true then cnt p (s.data.toList.drop (k + 1)) + 1 else 0 := by
  rw [List.drop_eq_getElem_cons (by simpa using h), cnt]
  rfl
set_option maxHeartbeats 400000 in
theorem ahead_blank (s : ByteArray) (w : World) (hs : s.size ≤ 9000000) : Calls Tryz.prog 71 #[.string s, .func (.func 72) #[] #[]] w fun e w' => e = .returned (.int .i64 (cnt blankB s.data.toList)) ∧ w = w' := by
  go_enter Tryz.func71, Tryz.ntmps71
  go_wp2
  go_loop [5, 8] (fun _ i => ∃ k : Nat, k ≤ s.size ∧ i = .int .i64 k ∧ Hid (cnt blankB s.data.toList = k + cnt blankB (s.data.toList.drop k))) (fun _ i => s.size - (intOf i).toNat)
  case atStart => exact ⟨0, Nat.zero_le _, rfl, by rw [Hid]; simp⟩
  case round =>
    obtain ⟨k, hk, rfl, HE⟩ := hrel
    by_cases hlt : k < s.size
    · have HA := Lib.hid (cnt_at blankB s k hlt)
      have HP := Lib.hid (fun W => isBlank_any s[k] W)
      cases hp : blankB s[k] with
      | true =>
        rw [hp, Hid, if_pos rfl] at HA
        have HX : Hid (cnt blankB s.data.toList = (k + 1) + cnt blankB (s.data.toList.drop (k + 1))) := by rw [Hid, HE.out, HA]; omega
        rw [hp] at HP
        clear hp HA
        go_wp2_with (go_at_call 72; refine (HP.out _).mono ?_; rintro e w' ⟨rfl, rfl⟩)
        go_round
        case rel => exact ⟨k + 1, by omega, by go_num, HX.out⟩
        case measure => simp [intOf]; omega
      | false =>
        rw [hp, Hid, if_neg (by simp)] at HA
        have HX : Hid (cnt blankB s.data.toList = k) := by rw [Hid, HE.out, HA]; omega
        rw [hp] at HP
        clear hp HA
        go_wp2_with (go_at_call 72; refine (HP.out _).mono ?_; rintro e w' ⟨rfl, rfl⟩)
        go_ret
        exact ⟨by rw [HX.out]; rfl, rfl⟩
    · obtain rfl : k = s.size := by omega
      have HX : Hid (cnt blankB s.data.toList = s.size) := by rw [Hid, HE.out, List.drop_eq_nil_of_le (by simp)]; simp [cnt]
      clear HE
      go_wp2
      go_ret
      exact ⟨by rw [HX.out]; rfl, rfl⟩
set_option maxHeartbeats 400000 in
theorem ahead_digit (s : ByteArray) (w : World) (hs : s.size ≤ 9000000) : Calls Tryz.prog 71 #[.string s, .func (.func 124) #[] #[]] w fun e w' => e = .returned (.int .i64 (cnt digB s.data.toList)) ∧ w = w' := by
  go_enter Tryz.func71, Tryz.ntmps71
  go_wp2
  go_loop [5, 8] (fun _ i => ∃ k : Nat, k ≤ s.size ∧ i = .int .i64 k ∧ Hid (cnt digB s.data.toList = k + cnt digB (s.data.toList.drop k))) (fun _ i => s.size - (intOf i).toNat)
  case atStart => exact ⟨0, Nat.zero_le _, rfl, by rw [Hid]; simp⟩
  case round =>
    obtain ⟨k, hk, rfl, HE⟩ := hrel
    by_cases hlt : k < s.size
    · have HA := Lib.hid (cnt_at digB s k hlt)
      have HP := Lib.hid (fun W => isDigit_any s[k] W)
      cases hp : digB s[k] with
      | true =>
        rw [hp, Hid, if_pos rfl] at HA
        have HX : Hid (cnt digB s.data.toList = (k + 1) + cnt digB (s.data.toList.drop (k + 1))) := by rw [Hid, HE.out, HA]; omega
        rw [hp] at HP
        clear hp HA
        go_wp2_with (go_at_call 124; refine (HP.out _).mono ?_; rintro e w' ⟨rfl, rfl⟩)
        go_round
        case rel => exact ⟨k + 1, by omega, by go_num, HX.out⟩
        case measure => simp [intOf]; omega
      | false =>
        rw [hp, Hid, if_neg (by simp)] at HA
        have HX : Hid (cnt digB s.data.toList = k) := by rw [Hid, HE.out, HA]; omega
        rw [hp] at HP
        clear hp HA
        go_wp2_with (go_at_call 124; refine (HP.out _).mono ?_; rintro e w' ⟨rfl, rfl⟩)
        go_ret
        exact ⟨by rw [HX.out]; rfl, rfl⟩
    · obtain rfl : k = s.size := by omega
      have HX : Hid (cnt digB s.data.toList = s.size) := by rw [Hid, HE.out, List.drop_eq_nil_of_le (by simp)]; simp [cnt]
      clear HE
      go_wp2
      go_ret
      exact ⟨by rw [HX.out]; rfl, rfl⟩
set_option maxHeartbeats 400000 in
theorem ahead_number (s : ByteArray) (w : World) (hs : s.size ≤ 9000000) : Calls Tryz.prog 71 #[.string s, .func (.func 97) #[] #[]] w fun e w' => e = .returned (.int .i64 (cnt innB s.data.toList)) ∧ w = w' := by
  go_enter Tryz.func71, Tryz.ntmps71
  go_wp2
  go_loop [5, 8] (fun _ i => ∃ k : Nat, k ≤ s.size ∧ i = .int .i64 k ∧ Hid (cnt innB s.data.toList = k + cnt innB (s.data.toList.drop k))) (fun _ i => s.size - (intOf i).toNat)
  case atStart => exact ⟨0, Nat.zero_le _, rfl, by rw [Hid]; simp⟩
  case round =>
    obtain ⟨k, hk, rfl, HE⟩ := hrel
    by_cases hlt : k < s.size
    · have HA := Lib.hid (cnt_at innB s k hlt)
      have HP := Lib.hid (fun W => inNumber_any s[k] W)
      cases hp : innB s[k] with
      | true =>
        rw [hp, Hid, if_pos rfl] at HA
        have HX : Hid (cnt innB s.data.toList = (k + 1) + cnt innB (s.data.toList.drop (k + 1))) := by rw [Hid, HE.out, HA]; omega
        rw [hp] at HP
        clear hp HA
        go_wp2_with (go_at_call 97; refine (HP.out _).mono ?_; rintro e w' ⟨rfl, rfl⟩)
        go_round
        case rel => exact ⟨k + 1, by omega, by go_num, HX.out⟩
        case measure => simp [intOf]; omega
      | false =>
        rw [hp, Hid, if_neg (by simp)] at HA
        have HX : Hid (cnt innB s.data.toList = k) := by rw [Hid, HE.out, HA]; omega
        rw [hp] at HP
        clear hp HA
        go_wp2_with (go_at_call 97; refine (HP.out _).mono ?_; rintro e w' ⟨rfl, rfl⟩)
        go_ret
        exact ⟨by rw [HX.out]; rfl, rfl⟩
    · obtain rfl : k = s.size := by omega
      have HX : Hid (cnt innB s.data.toList = s.size) := by rw [Hid, HE.out, List.drop_eq_nil_of_le (by simp)]; simp [cnt]
      clear HE
      go_wp2
      go_ret
      exact ⟨by rw [HX.out]; rfl, rfl⟩
set_option maxHeartbeats 400000 in
theorem ahead_letter (s : ByteArray) (w : World) (hs : s.size ≤ 9000000) : Calls Tryz.prog 71 #[.string s, .func (.func 99) #[] #[]] w fun e w' => e = .returned (.int .i64 (cnt letB s.data.toList)) ∧ w = w' := by
  go_enter Tryz.func71, Tryz.ntmps71
  go_wp2
  go_loop [5, 8] (fun _ i => ∃ k : Nat, k ≤ s.size ∧ i = .int .i64 k ∧ Hid (cnt letB s.data.toList = k + cnt letB (s.data.toList.drop k))) (fun _ i => s.size - (intOf i).toNat)
  case atStart => exact ⟨0, Nat.zero_le _, rfl, by rw [Hid]; simp⟩
  case round =>
    obtain ⟨k, hk, rfl, HE⟩ := hrel
    by_cases hlt : k < s.size
    · have HA := Lib.hid (cnt_at letB s k hlt)
      have HP := Lib.hid (fun W => isLetter_any s[k] W)
      cases hp : letB s[k] with
      | true =>
        rw [hp, Hid, if_pos rfl] at HA
        have HX : Hid (cnt letB s.data.toList = (k + 1) + cnt letB (s.data.toList.drop (k + 1))) := by rw [Hid, HE.out, HA]; omega
        rw [hp] at HP
        clear hp HA
        go_wp2_with (go_at_call 99; refine (HP.out _).mono ?_; rintro e w' ⟨rfl, rfl⟩)
        go_round
        case rel => exact ⟨k + 1, by omega, by go_num, HX.out⟩
        case measure => simp [intOf]; omega
      | false =>
        rw [hp, Hid, if_neg (by simp)] at HA
        have HX : Hid (cnt letB s.data.toList = k) := by rw [Hid, HE.out, HA]; omega
        rw [hp] at HP
        clear hp HA
        go_wp2_with (go_at_call 99; refine (HP.out _).mono ?_; rintro e w' ⟨rfl, rfl⟩)
        go_ret
        exact ⟨by rw [HX.out]; rfl, rfl⟩
    · obtain rfl : k = s.size := by omega
      have HX : Hid (cnt letB s.data.toList = s.size) := by rw [Hid, HE.out, List.drop_eq_nil_of_le (by simp)]; simp [cnt]
      clear HE
      go_wp2
      go_ret
      exact ⟨by rw [HX.out]; rfl, rfl⟩
end Go.Proofs.YthhdadfnkdjmkaaGreatDoor
