/-
  What each call of a Taker of package pack answers, and what it leaves in the Taker: for every Taker behind a pointer whose text is of a length that Go allows; nothing else that was there turns.
-/
import Derived.Test.YtphjhlnjfcfdcaaRows
import Derived.Test.YtphjhlnjfcfdcaaPuts
import Derived.Lib.UnsafeStr
import Derived.Lib.BufferWrite
import Derived.Lib.Walk
import Derived.Laws.BitsAllLaws
namespace Go.Proofs.Ytphjhlnjfcfdcaa
open Go.ChangeShapes Go.WideShapes Go.ChangeAt Go.RowKit
set_option maxRecDepth 100000
theorem size5 : (Try.prog.info? 5).map (·.size) = some 1 := by kernel_rfl
theorem cells5 : Try.prog.cellsOf 5 = 1 := by kernel_rfl
/-- The row behind the copy holds just the bytes of s. -/
theorem copied (s : ByteArray) (M : Array Value) (hM : M.size = s.size) : (M.toList.take 0 ++ Lib.byteCells s.data.toList ++ M.toList.drop (0 + s.size)).toArray = (Lib.byteCells s.data.toList).toArray := by
  rw [List.take_zero, List.nil_append, List.drop_of_length_le (by rw [Array.length_toList]; omega), List.append_nil]
theorem slite_clone (s : ByteArray) (w : World) (hs : s.size ≤ 281474976710656) :
    Calls Try.prog 100 #[.string s] w fun e w' => e = .returned (.string s) ∧ Fresh w w' := by
  by_cases h0 : s.size = 0
  · obtain rfl : s = ⟨#[]⟩ := ByteArray.ext (Array.eq_empty_of_size_eq_zero h0)
    clear h0
    go_enter Try.func100, Try.ntmps100
    go_wp2
    go_ret
    exact ⟨rfl, Fresh.refl _⟩
  · have hmk := fun W => run_make_row' (P := Try.prog) 69 5 (.int .u8 0) 1 Try.underlying69 info5 rfl .i64 .i64 s.size (by omega) (by omega) W
    have hMs : (madeCells #[Value.int .u8 0] s.size).size = s.size := by rw [size_madeCells]
    generalize madeCells #[Value.int .u8 0] s.size = M at hmk hMs
    have hcp := Lib.run_copy_row_string (P := Try.prog) (w.alloc (.cells M 5)) 69 9 3 5 w.heap.size 0 s.size s.size s M 5 Try.underlying69 size5 (heap_alloc_new w _) (Nat.le_refl _) (by omega)
    rw [copied s M hMs] at hcp
    obtain ⟨Y, hY⟩ : ∃ Y, Y = (Lib.byteCells s.data.toList).toArray := ⟨_, rfl⟩
    rw [← hY] at hcp
    have hYs : Y.size = s.size := by rw [hY, List.size_toArray, Lib.byteCells_length, ← Lib.size_eq]
    have hgY : ((w.alloc (.cells M 5)).setRow w.heap.size Y).heap[w.heap.size]? = some (.cells Y 5 (0, 0)) := setRow_heap _ _ M _ 5 (0, 0) (heap_alloc_new w _)
    have hus := Lib.run_unsafeString_row (P := Try.prog) ((w.alloc (.cells M 5)).setRow w.heap.size Y) 119 3 9 5 Try.underlying119 cells5 w.heap.size Y.size (by unfold World.shape?; rw [hgY]) s.data.toList
      (fun e => h0 (by rw [Lib.size_eq, e]; rfl)) (by rw [← Lib.size_eq]; omega) (by rw [← Lib.size_eq]; omega)
      (fun j x hx => Lib.cells_of_row hgY Y.size j _ (by rw [List.take_of_length_le (by rw [Array.length_toList]; exact Nat.le_refl _), hY]; simp [Lib.byteCells, hx]))
    rw [← Lib.size_eq] at hus
    clear hY hgY
    go_enter Try.func100, Try.ntmps100
    go_wp2
    go_ret
    have hb2 : Below w.heap.size (w.alloc (.cells M 5)) ((w.alloc (.cells M 5)).setRow w.heap.size Y) := ⟨rfl, rfl, rfl, by simp, fun k hk => setRow_other _ _ _ _ (by omega)⟩
    exact ⟨rfl, Lib.below_freeze (((Below.refl _ w).alloc (Nat.le_refl _) _).trans hb2) (p := ⟨w.heap.size, 0, none⟩) (Nat.le_refl _) _⟩
theorem clone_any (s : ByteArray) (w : World) (hs : s.size ≤ 281474976710656) :
    Calls Try.prog 93 #[.string s] w fun e w' => e = .returned (.string s) ∧ Fresh w w' := by
  go_enter Try.func93, Try.ntmps93
  go_wp2_with fail
  refine (slite_clone _ _ hs).mono ?_
  rintro e w' ⟨rfl, hg⟩
  go_wp2
  go_ret
  exact ⟨rfl, hg⟩
def numB (l : List UInt8) : Nat := l.foldl (fun v c => v * 256 + c.toNat) 0
theorem numB_snoc (l : List UInt8) (c : UInt8) : numB (l ++ [c]) = numB l * 256 + c.toNat := by
  simp [numB]
theorem numB_lt (l : List UInt8) : numB l < 256 ^ l.length := by
  suffices h : ∀ r : List UInt8, numB r.reverse < 256 ^ r.length by
    have := h l.reverse; simpa using this
  intro r
  induction r with
  | nil => simp [numB]
  | cons c r ih =>
    rw [List.reverse_cons, numB_snoc, List.length_cons, Nat.pow_succ]
    have := c.toNat_lt
    omega
/-- Block b is a Taker: what is left, and its error. -/
def atT (w : World) (b : Nat) (s : ByteArray) (e : Int) : Prop := w.heap[b]? = some (.cells #[.string s, .int .i64 e] 85 (0, 0))
theorem atT_facts {w : World} {b : Nat} {s : ByteArray} {e : Int} (h : atT w b s e) :
    w.cell? ⟨b, 0, none⟩ = some (.string s) ∧ w.cell? ⟨b, 1, none⟩ = some (.int .i64 e) ∧ w.frozen? ⟨b, 0, none⟩ = false ∧ w.frozen? ⟨b, 1, none⟩ = false := by
  unfold atT at h
  simp [World.cell?, World.frozen?, h]
theorem pow_le8 (k : Nat) (h : k ≤ 7) : 256 ^ k ≤ 72057594037927936 := by
  have : 256 ^ k ≤ 256 ^ 7 := Nat.pow_le_pow_right (by omega) h
  omega
theorem or_step (x : Nat) (c : UInt8) (hx : x < 72057594037927936) : bits .or .u64 (IntKind.u64.wrap ((x : Int) * 256)) (IntKind.u64.wrap (c.toNat : Int)) = ((x * 256 + c.toNat : Nat) : Int) := by
  have hc := c.toNat_lt
  have e1 : IntKind.u64.wrap ((x : Int) * 256) = ((x * 256 : Nat) : Int) := by
    simp [IntKind.wrap, IntKind.signed, IntKind.bits]; omega
  have e2 : IntKind.u64.wrap (c.toNat : Int) = ((c.toNat : Nat) : Int) := by
    simp [IntKind.wrap, IntKind.signed, IntKind.bits]; omega
  rw [e1, e2, u64_or_nat _ _ (by omega) (by omega), Nat.mul_comm x 256]
  congr 1
  exact (Nat.two_pow_add_eq_or_of_lt (i := 8) hc x).symm
set_option maxHeartbeats 400000 in
theorem take_yes (n : Nat) (b : Nat) (s : ByteArray) (w : World) (h : okN n = true) (hn8 : n ≤ 8) (hs : s.size ≤ maxLen) (hsz : n ≤ s.size) (ht : atT w b s 0) :
    Calls Try.prog 47 #[.pointer (some ⟨b, 0, none⟩), .int .i64 n] w fun e w' => e = .returned (.int .u64 (numB (s.data.toList.take n))) ∧ w' = w.setCell ⟨b, 0, none⟩ (.string (s.extract n s.size)) := by
  unfold maxLen at hs
  obtain ⟨hc0, hc1, hf0, hf1⟩ := atT_facts ht
  have H := Lib.hid h; clear h
  have hd : decide (s.size < n) = false := by simpa using hsz
  go_enter Try.func47, Try.ntmps47
  go_wp2_with (go_at_call 72; refine (may_yes _ _ H.out).mono ?_; rintro e w' ⟨rfl, rfl⟩)
  go_loop [5, 32] (fun x i => ∃ k : Nat, k ≤ n ∧ i = .int .i64 k ∧ x = .int .u64 (numB (s.data.toList.take k))) (fun _ i => n - (intOf i).toNat)
  case atStart => exact ⟨0, Nat.zero_le _, rfl, rfl⟩
  case round =>
    obtain ⟨k, hk, rfl, rfl⟩ := hrel
    by_cases hlt : k < n
    · have hks : k < s.size := by omega
      have HS : Hid (bits .or .u64 (IntKind.u64.wrap ((numB (s.data.toList.take k) : Int) * 256)) (IntKind.u64.wrap (s[k].toNat : Int)) = ((numB (s.data.toList.take (k + 1)) : Nat) : Int)) := by
        rw [take_snoc s k hks, numB_snoc]
        refine or_step _ _ ?_
        have hb := numB_lt (s.data.toList.take k)
        have hl : (s.data.toList.take k).length ≤ k := List.length_take_le _ _
        have := pow_le8 (s.data.toList.take k).length (by omega)
        omega
      go_wp2
      go_round
      case rel => exact ⟨k + 1, by omega, by go_num, by rw [HS.out]⟩
      case measure => simp [intOf]; omega
    · obtain rfl : k = n := by omega
      go_wp2
      go_ret
      exact ⟨rfl, rfl⟩

/-! ### What the calls come to -/
/-- What is left, the error, the number. -/
def takeT (s : ByteArray) (e n : Int) : ByteArray × Int × Int :=
  if e ≠ 0 then (s, e, 0) else if okN n = false then (s, 7, 0) else if s.size < n.toNat then (s, 1, 0) else (s.extract n.toNat s.size, 0, (numB (s.data.toList.take n.toNat) : Int))
def flagT (s : ByteArray) (e : Int) : ByteArray × Int × Bool :=
  if 1 < (takeT s e 1).2.2 then (s, 6, false) else ((takeT s e 1).1, (takeT s e 1).2.1, (takeT s e 1).2.2 == 1)
def textT (s : ByteArray) (e : Int) : ByteArray × Int × ByteArray :=
  if (takeT s e 2).2.1 ≠ 0 then ((takeT s e 2).1, (takeT s e 2).2.1, ⟨#[]⟩)
  else if 4096 < (takeT s e 2).2.2 then (s, 2, ⟨#[]⟩)
  else if ((takeT s e 2).1.size : Int) < (takeT s e 2).2.2 then (s, 1, ⟨#[]⟩)
  else ((takeT s e 2).1.extract (takeT s e 2).2.2.toNat (takeT s e 2).1.size, 0, (takeT s e 2).1.extract 0 (takeT s e 2).2.2.toNat)
def endT (s : ByteArray) (e : Int) : Int := if e = 0 ∧ s.size ≠ 0 then 6 else e

/-- Block b has come to be a Taker of s and e; of all else that was there nothing has turned. -/
structure Moved (b : Nat) (w w' : World) (s : ByteArray) (e : Int) : Prop where
  isT : atT w' b s e
  os : w'.os = w.os
  tape : w'.tape = w.tape
  output : w'.output = w.output
  size : w.heap.size ≤ w'.heap.size
  block : ∀ k, k < w.heap.size → k ≠ b → w'.heap[k]? = w.heap[k]?
theorem Moved.refl {b : Nat} {w : World} {s : ByteArray} {e : Int} (h : atT w b s e) : Moved b w w s e := ⟨h, rfl, rfl, rfl, Nat.le_refl _, fun _ _ _ => rfl⟩
theorem Moved.trans {b : Nat} {w w1 w2 : World} {s s2 : ByteArray} {e e2 : Int} (h : Moved b w w1 s e) (k : Moved b w1 w2 s2 e2) : Moved b w w2 s2 e2 :=
  ⟨k.isT, k.os.trans h.os, k.tape.trans h.tape, k.output.trans h.output, Nat.le_trans h.size k.size, fun i hi hb => (k.block i (Nat.lt_of_lt_of_le hi h.size) hb).trans (h.block i hi hb)⟩
theorem Moved.fresh {b : Nat} {w w1 w2 : World} {s : ByteArray} {e : Int} (h : Moved b w w1 s e) (hb : b < w1.heap.size) (k : Fresh w1 w2) : Moved b w w2 s e :=
  ⟨(k.block b hb).trans h.isT, k.os.trans h.os, k.tape.trans h.tape, k.output.trans h.output, Nat.le_trans h.size k.size, fun i hi hn => (k.block i (Nat.lt_of_lt_of_le hi h.size)).trans (h.block i hi hn)⟩
theorem atT_lt {w : World} {b : Nat} {s : ByteArray} {e : Int} (h : atT w b s e) : b < w.heap.size := by
  unfold atT at h
  exact (Array.getElem?_eq_some_iff.1 h).1
theorem Moved.rest {b : Nat} {w w1 : World} {s : ByteArray} {e : Int} (h : Moved b w w1 s e) (s' : ByteArray) : Moved b w (w1.setCell ⟨b, 0, none⟩ (.string s')) s' e := by
  refine ⟨?_, h.os, h.tape, h.output, by simpa [World.setCell] using h.size, fun k hk hn => ?_⟩
  · have h1 := h.isT
    unfold atT at h1 ⊢
    simp [World.setCell, Array.getElem?_modify, h1]
  · rw [Below.heap_setCell _ _ _ _ hn]; exact h.block k hk hn
theorem Moved.error {b : Nat} {w w1 : World} {s : ByteArray} {e : Int} (h : Moved b w w1 s e) (e' : Int) : Moved b w (w1.setCell ⟨b, 1, none⟩ (.int .i64 e')) s e' := by
  refine ⟨?_, h.os, h.tape, h.output, by simpa [World.setCell] using h.size, fun k hk hn => ?_⟩
  · have h1 := h.isT
    unfold atT at h1 ⊢
    simp [World.setCell, Array.getElem?_modify, h1]
  · rw [Below.heap_setCell _ _ _ _ hn]; exact h.block k hk hn

theorem take_any (b : Nat) (s : ByteArray) (e n : Int) (w : World) (hs : s.size ≤ maxLen) (ht : atT w b s e) :
    Calls Try.prog 47 #[.pointer (some ⟨b, 0, none⟩), .int .i64 n] w fun r w' => r = .returned (.int .u64 (takeT s e n).2.2) ∧ Moved b w w' (takeT s e n).1 (takeT s e n).2.1 := by
  obtain ⟨hc0, hc1, hf0, hf1⟩ := atT_facts ht
  have hm := Moved.refl ht
  have hs' := hs
  unfold maxLen at hs'
  by_cases he : e = 0
  · subst he
    by_cases hn : okN n = true
    · by_cases hsz : s.size < n.toNat
      · have ht' : takeT s 0 n = (s, 1, 0) := by simp [takeT, hn, hsz]
        rw [ht']
        have H := Lib.hid hn
        obtain ⟨m, hm', rfl⟩ : ∃ m : Nat, m ≤ 8 ∧ n = m := ⟨n.toNat, by rcases okN_cases hn with rfl | rfl | rfl | rfl <;> exact ⟨by decide, rfl⟩⟩
        have hd : decide (s.size < m) = true := by simpa using hsz
        clear ht' hn ht
        go_enter Try.func47, Try.ntmps47
        go_wp2_with (go_at_call 72; refine (may_yes _ _ H.out).mono ?_; rintro e w' ⟨rfl, rfl⟩)
        go_ret
        exact ⟨rfl, hm.error 1⟩
      · have ht' : takeT s 0 n = (s.extract n.toNat s.size, 0, (numB (s.data.toList.take n.toNat) : Int)) := by simp [takeT, hn, hsz]
        rw [ht']
        obtain ⟨m, hm', rfl⟩ : ∃ m : Nat, m ≤ 8 ∧ n = m := ⟨n.toNat, by rcases okN_cases hn with rfl | rfl | rfl | rfl <;> exact ⟨by decide, rfl⟩⟩
        refine (take_yes m b s w hn hm' hs (by simpa using hsz) ht).mono ?_
        rintro r w' ⟨rfl, rfl⟩
        exact ⟨rfl, hm.rest _⟩
    · have hn' : okN n = false := by simpa using hn
      have ht' : takeT s 0 n = (s, 7, 0) := by simp [takeT, hn']
      rw [ht']
      have H := Lib.hid hn'
      clear ht' hn hn' ht
      go_enter Try.func47, Try.ntmps47
      go_wp2_with (go_at_call 72; refine (may_no _ _ H.out).mono ?_; rintro e w' ⟨rfl, rfl⟩)
      go_ret
      exact ⟨rfl, hm.error 7⟩
  · have ht' : takeT s e n = (s, e, 0) := by simp [takeT, he]
    rw [ht']
    have hne : (e != 0) = true := by simpa using he
    clear ht' ht he
    go_enter Try.func47, Try.ntmps47
    go_wp2
    go_ret
    exact ⟨rfl, hm⟩

theorem extract_size_le (s : ByteArray) (i j : Nat) : (s.extract i j).size ≤ s.size := by
  simp [ByteArray.size_extract]; omega
theorem take_len {s : ByteArray} {e n : Int} {s1 : ByteArray} {e1 v : Int} (h : takeT s e n = (s1, e1, v)) : s1.size ≤ s.size := by
  unfold takeT at h
  split at h
  · simp at h; rw [← h.1]; exact Nat.le_refl _
  split at h
  · simp at h; rw [← h.1]; exact Nat.le_refl _
  split at h
  · simp at h; rw [← h.1]; exact Nat.le_refl _
  · simp only [Prod.mk.injEq] at h; rw [← h.1]; exact extract_size_le _ _ _
theorem take_val (s : ByteArray) (e : Int) (m : Nat) : 0 ≤ (takeT s e m).2.2 ∧ (takeT s e m).2.2 < 256 ^ m := by
  have hp : (0 : Int) < 256 ^ m := Int.pow_pos (by omega)
  unfold takeT
  split
  · exact ⟨Int.le_refl _, hp⟩
  split
  · exact ⟨Int.le_refl _, hp⟩
  split
  · exact ⟨Int.le_refl _, hp⟩
  · refine ⟨Int.natCast_nonneg _, ?_⟩
    have h := numB_lt (s.data.toList.take m)
    have hl : (s.data.toList.take m).length ≤ m := List.length_take_le _ _
    have h2 : 256 ^ (s.data.toList.take m).length ≤ 256 ^ m := Nat.pow_le_pow_right (by omega) hl
    have h3 : numB (s.data.toList.take m) < 256 ^ m := Nat.lt_of_lt_of_le h h2
    simp only [Int.toNat_natCast]
    have h4 : ((numB (s.data.toList.take m) : Nat) : Int) < ((256 ^ m : Nat) : Int) := Int.ofNat_lt.2 h3
    rw [Int.natCast_pow] at h4
    exact h4
theorem take_at {b : Nat} {s : ByteArray} {e n : Int} {s1 : ByteArray} {e1 v : Int} (w : World) (hs : s.size ≤ maxLen) (ht : atT w b s e) (h : takeT s e n = (s1, e1, v)) :
    Calls Try.prog 47 #[.pointer (some ⟨b, 0, none⟩), .int .i64 n] w fun r w' => r = .returned (.int .u64 v) ∧ Moved b w w' s1 e1 := by
  have := take_any b s e n w hs ht
  rw [h] at this
  exact this

theorem wrap64_small {v : Int} (h0 : 0 ≤ v) (h1 : v < 65536) : wrap64 v = v := by
  unfold wrap64; omega
set_option maxRecDepth 100000 in
set_option maxHeartbeats 1000000 in
theorem ttext_any (b : Nat) (s : ByteArray) (e : Int) (w : World) (hs : s.size ≤ maxLen) (ht : atT w b s e) :
    Calls Try.prog 75 #[.pointer (some ⟨b, 0, none⟩)] w fun r w' => r = .returned (.string (textT s e).2.2) ∧ Moved b w w' (textT s e).1 (textT s e).2.1 := by
  obtain ⟨hc0, hc1, hf0, hf1⟩ := atT_facts ht
  have hv := take_val s e 2
  obtain ⟨s1, e1, v, hT⟩ : ∃ s1 e1 v, takeT s e 2 = (s1, e1, v) := ⟨_, _, _, rfl⟩
  rw [show ((2 : Nat) : Int) = 2 from rfl, hT] at hv
  obtain ⟨hv0, hv1⟩ : 0 ≤ v ∧ v < 65536 := hv
  have hl := take_len hT
  have hF : textT s e = if e1 ≠ 0 then (s1, e1, ⟨#[]⟩) else if 4096 < v then (s, 2, ⟨#[]⟩) else if (s1.size : Int) < v then (s, 1, ⟨#[]⟩) else (s1.extract v.toNat s1.size, 0, s1.extract 0 v.toNat) := by simp only [textT, hT]
  have H := Lib.hid ht
  have HT := Lib.hid hT
  have hs' := hs
  unfold maxLen at hs'
  obtain ⟨n, rfl⟩ := Int.eq_ofNat_of_zero_le hv0
  clear ht hT
  by_cases h1 : e1 = 0
  · subst h1
    rw [if_neg (by simp)] at hF
    by_cases h2 : 4096 < (n : Int)
    · rw [hF, if_pos h2]
      clear hF
      go_enter Try.func75, Try.ntmps75
      go_wp2_with fail
      refine (take_at _ hs H.out HT.out).mono ?_
      rintro r w' ⟨rfl, hm⟩
      obtain ⟨hd0, hd1, hg0, hg1⟩ := atT_facts hm.isT
      go_wp2
      go_ret
      exact ⟨rfl, (hm.rest s).error 2⟩
    · rw [if_neg h2] at hF
      have h2' : n ≤ 4096 := by omega
      clear hv0 hv1 h2
      by_cases h3 : (s1.size : Int) < n
      · rw [hF, if_pos h3]
        have h3' : s1.size < n := by omega
        clear hF h3
        go_enter Try.func75, Try.ntmps75
        go_wp2_with fail
        refine (take_at _ hs H.out HT.out).mono ?_
        rintro r w' ⟨rfl, hm⟩
        obtain ⟨hd0, hd1, hg0, hg1⟩ := atT_facts hm.isT
        go_wp2
        go_ret
        exact ⟨rfl, (hm.rest s).error 1⟩
      · rw [hF, if_neg h3]
        clear hF
        have hle : n ≤ s1.size := by omega
        clear h3
        have hcl : (s1.extract 0 n).size ≤ 281474976710656 := by simp [ByteArray.size_extract]; omega
        go_enter Try.func75, Try.ntmps75
        go_wp2_with fail
        refine (take_at _ hs H.out HT.out).mono ?_
        rintro r w1 ⟨rfl, hm⟩
        obtain ⟨hd0, hd1, hg0, hg1⟩ := atT_facts hm.isT
        go_wp2_with fail
        refine (clone_any _ _ hcl).mono ?_
        rintro r w2 ⟨rfl, hg⟩
        have hm2 := hm.fresh (atT_lt hm.isT) hg
        clear hd0 hd1 hg0 hg1
        obtain ⟨hd0, hd1, hg0, hg1⟩ := atT_facts hm2.isT
        go_wp2
        go_ret
        exact ⟨rfl, hm2.rest _⟩
  · rw [hF, if_pos h1]
    clear hF
    have hne : (e1 != 0) = true := by simpa using h1
    go_enter Try.func75, Try.ntmps75
    go_wp2_with fail
    refine (take_at _ hs H.out HT.out).mono ?_
    rintro r w' ⟨rfl, hm⟩
    obtain ⟨hd0, hd1, hg0, hg1⟩ := atT_facts hm.isT
    go_wp2
    go_ret
    exact ⟨rfl, hm⟩
theorem toList_some {s : ByteArray} (h : s.size ≠ 0) : s.toList.isEmpty = false := by
  rw [Lib.toList_data, List.isEmpty_eq_false_iff]
  exact fun e => h (by rw [Lib.size_eq, e]; rfl)
theorem tend_any (b : Nat) (s : ByteArray) (e : Int) (w : World) (ht : atT w b s e) :
    Calls Try.prog 49 #[.pointer (some ⟨b, 0, none⟩)] w fun r w' => r = .returned (.int .i64 (endT s e)) ∧ w = w' := by
  obtain ⟨hc0, hc1, hf0, hf1⟩ := atT_facts ht
  clear ht
  by_cases h : e = 0
  · subst h
    by_cases h2 : s.size = 0
    · obtain rfl : s = ⟨#[]⟩ := ByteArray.ext (Array.eq_empty_of_size_eq_zero h2)
      clear h2
      go_enter Try.func49, Try.ntmps49
      go_wp2
      go_ret
      exact ⟨rfl, rfl⟩
    · have HF : Hid (endT s 0 = 6) := by unfold endT; rw [if_pos ⟨rfl, h2⟩]; exact rfl
      have hb : s.toList.isEmpty = false := toList_some h2
      go_enter Try.func49, Try.ntmps49
      go_wp2
      go_ret
      exact ⟨by rw [HF.out]; rfl, rfl⟩
  · have HF : Hid (endT s e = e) := by unfold endT; rw [if_neg (fun k => h k.1)]; exact rfl
    have hne : (e == 0) = false := by simpa using h
    go_enter Try.func49, Try.ntmps49
    go_wp2
    go_ret
    exact ⟨by rw [HF.out]; rfl, rfl⟩
end Go.Proofs.Ytphjhlnjfcfdcaa
