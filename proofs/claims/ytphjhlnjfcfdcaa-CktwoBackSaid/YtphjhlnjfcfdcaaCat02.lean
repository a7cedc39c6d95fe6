/-
  What each call of a Taker of package pack answers, and what it leaves in the Taker: for every Taker behind a pointer whose text is of a length that Go allows; nothing else that was there turns.
  Texts, compared.
  Rows that a call owns: what leaves them as they are.
  States of version 1: what is wrong with one, its bytes, the state of bytes. No call.
  States of version 2: what is wrong with one, its bytes. No call.
  States of version 1 in memory.
  States of version 2 in memory.
  The state of version 1 of bytes: what is taken, and that it is what was put. No call.
-/
import Derived.Test.YtphjhlnjfcfdcaaRows
import Derived.Test.YtphjhlnjfcfdcaaCat01
import Derived.Lib.UnsafeStr
import Derived.Lib.BufferWrite
import Derived.Lib.Walk
import Derived.Laws.BitsAllLaws
import Derived.Deep.DrawnRows
import Derived.RangeFuncBox
import Derived.Deep.Onto
namespace Go.Proofs.Ytphjhlnjfcfdcaa
open Go.ChangeShapes Go.WideShapes Go.ChangeAt Go.RowKit
set_option maxRecDepth 100000
theorem size5 : (Try.prog.info? 5).map (·.size) = some 1 := by kernel_rfl
theorem cells5 : Try.prog.cellsOf 5 = 1 := by kernel_rfl
/-- The row behind the copy holds just the bytes of s. -/
theorem copied (s : ByteArray) (M : Array Value) (hM : M.size = s.size) : (M.toList.take 0 ++ Lib.byteCells s.data.toList ++ M.toList.drop (0 + s.size)).toArray = (Lib.byteCells s.data.toList).toArray := by
  rw [List.take_zero, List.nil_append, List.drop_of_length_le (by rw [Array.length_toList]; omega), List.append_nil]
theorem slite_clone (s : ByteArray) (w : World) (hs : s.size ≤ 281474976710656) :
    Calls Try.prog 100 #[.string s] w fun e w' => e = .returned (.string s) ∧ Fresh w w' := by
  by_cases h0 : s.size = 0
  · obtain rfl : s = ⟨#[]⟩ := ByteArray.ext (Array.eq_empty_of_size_eq_zero h0)
    clear h0
    go_enter Try.func100, Try.ntmps100
    go_wp2
    go_ret
    exact ⟨rfl, Fresh.refl _⟩
  · have hmk := fun W => run_make_row' (P := Try.prog) 69 5 (.int .u8 0) 1 Try.underlying69 info5 rfl .i64 .i64 s.size (by omega) (by omega) W
    have hMs : (madeCells #[Value.int .u8 0] s.size).size = s.size := by rw [size_madeCells]
    generalize madeCells #[Value.int .u8 0] s.size = M at hmk hMs
    have hcp := Lib.run_copy_row_string (P := Try.prog) (w.alloc (.cells M 5)) 69 9 3 5 w.heap.size 0 s.size s.size s M 5 Try.underlying69 size5 (heap_alloc_new w _) (Nat.le_refl _) (by omega)
    rw [copied s M hMs] at hcp
    obtain ⟨Y, hY⟩ : ∃ Y, Y = (Lib.byteCells s.data.toList).toArray := ⟨_, rfl⟩
    rw [← hY] at hcp
    have hYs : Y.size = s.size := by rw [hY, List.size_toArray, Lib.byteCells_length, ← Lib.size_eq]
    have hgY : ((w.alloc (.cells M 5)).setRow w.heap.size Y).heap[w.heap.size]? = some (.cells Y 5 (0, 0)) := setRow_heap _ _ M _ 5 (0, 0) (heap_alloc_new w _)
    have hus := Lib.run_unsafeString_row (P := Try.prog) ((w.alloc (.cells M 5)).setRow w.heap.size Y) 119 3 9 5 Try.underlying119 cells5 w.heap.size Y.size (by unfold World.shape?; rw [hgY]) s.data.toList
      (fun e => h0 (by rw [Lib.size_eq, e]; rfl)) (by rw [← Lib.size_eq]; omega) (by rw [← Lib.size_eq]; omega)
      (fun j x hx => Lib.cells_of_row hgY Y.size j _ (by rw [List.take_of_length_le (by rw [Array.length_toList]; exact Nat.le_refl _), hY]; simp [Lib.byteCells, hx]))
    rw [← Lib.size_eq] at hus
    clear hY hgY
    go_enter Try.func100, Try.ntmps100
    go_wp2
    go_ret
    have hb2 : Below w.heap.size (w.alloc (.cells M 5)) ((w.alloc (.cells M 5)).setRow w.heap.size Y) := ⟨rfl, rfl, rfl, by simp, fun k hk => setRow_other _ _ _ _ (by omega)⟩
    exact ⟨rfl, Lib.below_freeze (((Below.refl _ w).alloc (Nat.le_refl _) _).trans hb2) (p := ⟨w.heap.size, 0, none⟩) (Nat.le_refl _) _⟩
theorem clone_any (s : ByteArray) (w : World) (hs : s.size ≤ 281474976710656) :
    Calls Try.prog 93 #[.string s] w fun e w' => e = .returned (.string s) ∧ Fresh w w' := by
  go_enter Try.func93, Try.ntmps93
  go_wp2_with fail
  refine (slite_clone _ _ hs).mono ?_
  rintro e w' ⟨rfl, hg⟩
  go_wp2
  go_ret
  exact ⟨rfl, hg⟩
def numB (l : List UInt8) : Nat := l.foldl (fun v c => v * 256 + c.toNat) 0
theorem numB_snoc (l : List UInt8) (c : UInt8) : numB (l ++ [c]) = numB l * 256 + c.toNat := by
  simp [numB]
theorem numB_lt (l : List UInt8) : numB l < 256 ^ l.length := by
  suffices h : ∀ r : List UInt8, numB r.reverse < 256 ^ r.length by
    have := h l.reverse; simpa using this
  intro r
  induction r with
  | nil => simp [numB]
  | cons c r ih =>
    rw [List.reverse_cons, numB_snoc, List.length_cons, Nat.pow_succ]
    have := c.toNat_lt
    omega
/-- Block b is a Taker: what is left, and its error. -/
def atT (w : World) (b : Nat) (s : ByteArray) (e : Int) : Prop := w.heap[b]? = some (.cells #[.string s, .int .i64 e] 85 (0, 0))
theorem atT_facts {w : World} {b : Nat} {s : ByteArray} {e : Int} (h : atT w b s e) :
    w.cell? ⟨b, 0, none⟩ = some (.string s) ∧ w.cell? ⟨b, 1, none⟩ = some (.int .i64 e) ∧ w.frozen? ⟨b, 0, none⟩ = false ∧ w.frozen? ⟨b, 1, none⟩ = false := by
  unfold atT at h
  simp [World.cell?, World.frozen?, h]
theorem pow_le8 (k : Nat) (h : k ≤ 7) : 256 ^ k ≤ 72057594037927936 := by
  have : 256 ^ k ≤ 256 ^ 7 := Nat.pow_le_pow_right (by omega) h
  omega
theorem or_step (x : Nat) (c : UInt8) (hx : x < 72057594037927936) : bits .or .u64 (IntKind.u64.wrap ((x : Int) * 256)) (IntKind.u64.wrap (c.toNat : Int)) = ((x * 256 + c.toNat : Nat) : Int) := by
  have hc := c.toNat_lt
  have e1 : IntKind.u64.wrap ((x : Int) * 256) = ((x * 256 : Nat) : Int) := by
    simp [IntKind.wrap, IntKind.signed, IntKind.bits]; omega
  have e2 : IntKind.u64.wrap (c.toNat : Int) = ((c.toNat : Nat) : Int) := by
    simp [IntKind.wrap, IntKind.signed, IntKind.bits]; omega
  rw [e1, e2, u64_or_nat _ _ (by omega) (by omega), Nat.mul_comm x 256]
  congr 1
  exact (Nat.two_pow_add_eq_or_of_lt (i := 8) hc x).symm
set_option maxHeartbeats 400000 in
theorem take_yes (n : Nat) (b : Nat) (s : ByteArray) (w : World) (h : okN n = true) (hn8 : n ≤ 8) (hs : s.size ≤ maxLen) (hsz : n ≤ s.size) (ht : atT w b s 0) :
    Calls Try.prog 47 #[.pointer (some ⟨b, 0, none⟩), .int .i64 n] w fun e w' => e = .returned (.int .u64 (numB (s.data.toList.take n))) ∧ w' = w.setCell ⟨b, 0, none⟩ (.string (s.extract n s.size)) := by
  unfold maxLen at hs
  obtain ⟨hc0, hc1, hf0, hf1⟩ := atT_facts ht
  have H := Lib.hid h; clear h
  have hd : decide (s.size < n) = false := by simpa using hsz
  go_enter Try.func47, Try.ntmps47
  go_wp2_with (go_at_call 72; refine (may_yes _ _ H.out).mono ?_; rintro e w' ⟨rfl, rfl⟩)
  go_loop [5, 32] (fun x i => ∃ k : Nat, k ≤ n ∧ i = .int .i64 k ∧ x = .int .u64 (numB (s.data.toList.take k))) (fun _ i => n - (intOf i).toNat)
  case atStart => exact ⟨0, Nat.zero_le _, rfl, rfl⟩
  case round =>
    obtain ⟨k, hk, rfl, rfl⟩ := hrel
    by_cases hlt : k < n
    · have hks : k < s.size := by omega
      have HS : Hid (bits .or .u64 (IntKind.u64.wrap ((numB (s.data.toList.take k) : Int) * 256)) (IntKind.u64.wrap (s[k].toNat : Int)) = ((numB (s.data.toList.take (k + 1)) : Nat) : Int)) := by
        rw [take_snoc s k hks, numB_snoc]
        refine or_step _ _ ?_
        have hb := numB_lt (s.data.toList.take k)
        have hl : (s.data.toList.take k).length ≤ k := List.length_take_le _ _
        have := pow_le8 (s.data.toList.take k).length (by omega)
        omega
      go_wp2
      go_round
      case rel => exact ⟨k + 1, by omega, by go_num, by rw [HS.out]⟩
      case measure => simp [intOf]; omega
    · obtain rfl : k = n := by omega
      go_wp2
      go_ret
      exact ⟨rfl, rfl⟩

/-! ### What the calls come to -/
/-- What is left, the error, the number. -/
def takeT (s : ByteArray) (e n : Int) : ByteArray × Int × Int :=
  if e ≠ 0 then (s, e, 0) else if okN n = false then (s, 7, 0) else if s.size < n.toNat then (s, 1, 0) else (s.extract n.toNat s.size, 0, (numB (s.data.toList.take n.toNat) : Int))
def flagT (s : ByteArray) (e : Int) : ByteArray × Int × Bool :=
  if 1 < (takeT s e 1).2.2 then (s, 6, false) else ((takeT s e 1).1, (takeT s e 1).2.1, (takeT s e 1).2.2 == 1)
def textT (s : ByteArray) (e : Int) : ByteArray × Int × ByteArray :=
  if (takeT s e 2).2.1 ≠ 0 then ((takeT s e 2).1, (takeT s e 2).2.1, ⟨#[]⟩)
  else if 4096 < (takeT s e 2).2.2 then (s, 2, ⟨#[]⟩)
  else if ((takeT s e 2).1.size : Int) < (takeT s e 2).2.2 then (s, 1, ⟨#[]⟩)
  else ((takeT s e 2).1.extract (takeT s e 2).2.2.toNat (takeT s e 2).1.size, 0, (takeT s e 2).1.extract 0 (takeT s e 2).2.2.toNat)
def endT (s : ByteArray) (e : Int) : Int := if e = 0 ∧ s.size ≠ 0 then 6 else e

/-- Block b has come to be a Taker of s and e; of all else that was there nothing has turned. -/
structure Moved (b : Nat) (w w' : World) (s : ByteArray) (e : Int) : Prop where
  isT : atT w' b s e
  os : w'.os = w.os
  tape : w'.tape = w.tape
  output : w'.output = w.output
  size : w.heap.size ≤ w'.heap.size
  block : ∀ k, k < w.heap.size → k ≠ b → w'.heap[k]? = w.heap[k]?
theorem Moved.refl {b : Nat} {w : World} {s : ByteArray} {e : Int} (h : atT w b s e) : Moved b w w s e := ⟨h, rfl, rfl, rfl, Nat.le_refl _, fun _ _ _ => rfl⟩
theorem Moved.trans {b : Nat} {w w1 w2 : World} {s s2 : ByteArray} {e e2 : Int} (h : Moved b w w1 s e) (k : Moved b w1 w2 s2 e2) : Moved b w w2 s2 e2 :=
  ⟨k.isT, k.os.trans h.os, k.tape.trans h.tape, k.output.trans h.output, Nat.le_trans h.size k.size, fun i hi hb => (k.block i (Nat.lt_of_lt_of_le hi h.size) hb).trans (h.block i hi hb)⟩
theorem Moved.fresh {b : Nat} {w w1 w2 : World} {s : ByteArray} {e : Int} (h : Moved b w w1 s e) (hb : b < w1.heap.size) (k : Fresh w1 w2) : Moved b w w2 s e :=
  ⟨(k.block b hb).trans h.isT, k.os.trans h.os, k.tape.trans h.tape, k.output.trans h.output, Nat.le_trans h.size k.size, fun i hi hn => (k.block i (Nat.lt_of_lt_of_le hi h.size)).trans (h.block i hi hn)⟩
theorem atT_lt {w : World} {b : Nat} {s : ByteArray} {e : Int} (h : atT w b s e) : b < w.heap.size := by
  unfold atT at h
  exact (Array.getElem?_eq_some_iff.1 h).1
theorem Moved.rest {b : Nat} {w w1 : World} {s : ByteArray} {e : Int} (h : Moved b w w1 s e) (s' : ByteArray) : Moved b w (w1.setCell ⟨b, 0, none⟩ (.string s')) s' e := by
  refine ⟨?_, h.os, h.tape, h.output, by simpa [World.setCell] using h.size, fun k hk hn => ?_⟩
  · have h1 := h.isT
    unfold atT at h1 ⊢
    simp [World.setCell, Array.getElem?_modify, h1]
  · rw [Below.heap_setCell _ _ _ _ hn]; exact h.block k hk hn
theorem Moved.error {b : Nat} {w w1 : World} {s : ByteArray} {e : Int} (h : Moved b w w1 s e) (e' : Int) : Moved b w (w1.setCell ⟨b, 1, none⟩ (.int .i64 e')) s e' := by
  refine ⟨?_, h.os, h.tape, h.output, by simpa [World.setCell] using h.size, fun k hk hn => ?_⟩
  · have h1 := h.isT
    unfold atT at h1 ⊢
    simp [World.setCell, Array.getElem?_modify, h1]
  · rw [Below.heap_setCell _ _ _ _ hn]; exact h.block k hk hn

theorem take_any (b : Nat) (s : ByteArray) (e n : Int) (w : World) (hs : s.size ≤ maxLen) (ht : atT w b s e) :
    Calls Try.prog 47 #[.pointer (some ⟨b, 0, none⟩), .int .i64 n] w fun r w' => r = .returned (.int .u64 (takeT s e n).2.2) ∧ Moved b w w' (takeT s e n).1 (takeT s e n).2.1 := by
  obtain ⟨hc0, hc1, hf0, hf1⟩ := atT_facts ht
  have hm := Moved.refl ht
  have hs' := hs
  unfold maxLen at hs'
  by_cases he : e = 0
  · subst he
    by_cases hn : okN n = true
    · by_cases hsz : s.size < n.toNat
      · have ht' : takeT s 0 n = (s, 1, 0) := by simp [takeT, hn, hsz]
        rw [ht']
        have H := Lib.hid hn
        obtain ⟨m, hm', rfl⟩ : ∃ m : Nat, m ≤ 8 ∧ n = m := ⟨n.toNat, by rcases okN_cases hn with rfl | rfl | rfl | rfl <;> exact ⟨by decide, rfl⟩⟩
        have hd : decide (s.size < m) = true := by simpa using hsz
        clear ht' hn ht
        go_enter Try.func47, Try.ntmps47
        go_wp2_with (go_at_call 72; refine (may_yes _ _ H.out).mono ?_; rintro e w' ⟨rfl, rfl⟩)
        go_ret
        exact ⟨rfl, hm.error 1⟩
      · have ht' : takeT s 0 n = (s.extract n.toNat s.size, 0, (numB (s.data.toList.take n.toNat) : Int)) := by simp [takeT, hn, hsz]
        rw [ht']
        obtain ⟨m, hm', rfl⟩ : ∃ m : Nat, m ≤ 8 ∧ n = m := ⟨n.toNat, by rcases okN_cases hn with rfl | rfl | rfl | rfl <;> exact ⟨by decide, rfl⟩⟩
        refine (take_yes m b s w hn hm' hs (by simpa using hsz) ht).mono ?_
        rintro r w' ⟨rfl, rfl⟩
        exact ⟨rfl, hm.rest _⟩
    · have hn' : okN n = false := by simpa using hn
      have ht' : takeT s 0 n = (s, 7, 0) := by simp [takeT, hn']
      rw [ht']
      have H := Lib.hid hn'
      clear ht' hn hn' ht
      go_enter Try.func47, Try.ntmps47
      go_wp2_with (go_at_call 72; refine (may_no _ _ H.out).mono ?_; rintro e w' ⟨rfl, rfl⟩)
      go_ret
      exact ⟨rfl, hm.error 7⟩
  · have ht' : takeT s e n = (s, e, 0) := by simp [takeT, he]
    rw [ht']
    have hne : (e != 0) = true := by simpa using he
    clear ht' ht he
    go_enter Try.func47, Try.ntmps47
    go_wp2
    go_ret
    exact ⟨rfl, hm⟩

theorem extract_size_le (s : ByteArray) (i j : Nat) : (s.extract i j).size ≤ s.size := by
  simp [ByteArray.size_extract]; omega
theorem take_len {s : ByteArray} {e n : Int} {s1 : ByteArray} {e1 v : Int} (h : takeT s e n = (s1, e1, v)) : s1.size ≤ s.size := by
  unfold takeT at h
  split at h
  · simp at h; rw [← h.1]; exact Nat.le_refl _
  split at h
  · simp at h; rw [← h.1]; exact Nat.le_refl _
  split at h
  · simp at h; rw [← h.1]; exact Nat.le_refl _
  · simp only [Prod.mk.injEq] at h; rw [← h.1]; exact extract_size_le _ _ _
theorem take_val (s : ByteArray) (e : Int) (m : Nat) : 0 ≤ (takeT s e m).2.2 ∧ (takeT s e m).2.2 < 256 ^ m := by
  have hp : (0 : Int) < 256 ^ m := Int.pow_pos (by omega)
  unfold takeT
  split
  · exact ⟨Int.le_refl _, hp⟩
  split
  · exact ⟨Int.le_refl _, hp⟩
  split
  · exact ⟨Int.le_refl _, hp⟩
  · refine ⟨Int.natCast_nonneg _, ?_⟩
    have h := numB_lt (s.data.toList.take m)
    have hl : (s.data.toList.take m).length ≤ m := List.length_take_le _ _
    have h2 : 256 ^ (s.data.toList.take m).length ≤ 256 ^ m := Nat.pow_le_pow_right (by omega) hl
    have h3 : numB (s.data.toList.take m) < 256 ^ m := Nat.lt_of_lt_of_le h h2
    simp only [Int.toNat_natCast]
    have h4 : ((numB (s.data.toList.take m) : Nat) : Int) < ((256 ^ m : Nat) : Int) := Int.ofNat_lt.2 h3
    rw [Int.natCast_pow] at h4
    exact h4
theorem take_at {b : Nat} {s : ByteArray} {e n : Int} {s1 : ByteArray} {e1 v : Int} (w : World) (hs : s.size ≤ maxLen) (ht : atT w b s e) (h : takeT s e n = (s1, e1, v)) :
    Calls Try.prog 47 #[.pointer (some ⟨b, 0, none⟩), .int .i64 n] w fun r w' => r = .returned (.int .u64 v) ∧ Moved b w w' s1 e1 := by
  have := take_any b s e n w hs ht
  rw [h] at this
  exact this

theorem wrap64_small {v : Int} (h0 : 0 ≤ v) (h1 : v < 65536) : wrap64 v = v := by
  unfold wrap64; omega
set_option maxRecDepth 100000 in
set_option maxHeartbeats 1000000 in
theorem ttext_any (b : Nat) (s : ByteArray) (e : Int) (w : World) (hs : s.size ≤ maxLen) (ht : atT w b s e) :
    Calls Try.prog 75 #[.pointer (some ⟨b, 0, none⟩)] w fun r w' => r = .returned (.string (textT s e).2.2) ∧ Moved b w w' (textT s e).1 (textT s e).2.1 := by
  obtain ⟨hc0, hc1, hf0, hf1⟩ := atT_facts ht
  have hv := take_val s e 2
  obtain ⟨s1, e1, v, hT⟩ : ∃ s1 e1 v, takeT s e 2 = (s1, e1, v) := ⟨_, _, _, rfl⟩
  rw [show ((2 : Nat) : Int) = 2 from rfl, hT] at hv
  obtain ⟨hv0, hv1⟩ : 0 ≤ v ∧ v < 65536 := hv
  have hl := take_len hT
  have hF : textT s e = if e1 ≠ 0 then (s1, e1, ⟨#[]⟩) else if 4096 < v then (s, 2, ⟨#[]⟩) else if (s1.size : Int) < v then (s, 1, ⟨#[]⟩) else (s1.extract v.toNat s1.size, 0, s1.extract 0 v.toNat) := by simp only [textT, hT]
  have H := Lib.hid ht
  have HT := Lib.hid hT
  have hs' := hs
  unfold maxLen at hs'
  obtain ⟨n, rfl⟩ := Int.eq_ofNat_of_zero_le hv0
  clear ht hT
  by_cases h1 : e1 = 0
  · subst h1
    rw [if_neg (by simp)] at hF
    by_cases h2 : 4096 < (n : Int)
    · rw [hF, if_pos h2]
      clear hF
      go_enter Try.func75, Try.ntmps75
      go_wp2_with fail
      refine (take_at _ hs H.out HT.out).mono ?_
      rintro r w' ⟨rfl, hm⟩
      obtain ⟨hd0, hd1, hg0, hg1⟩ := atT_facts hm.isT
      go_wp2
      go_ret
      exact ⟨rfl, (hm.rest s).error 2⟩
    · rw [if_neg h2] at hF
      have h2' : n ≤ 4096 := by omega
      clear hv0 hv1 h2
      by_cases h3 : (s1.size : Int) < n
      · rw [hF, if_pos h3]
        have h3' : s1.size < n := by omega
        clear hF h3
        go_enter Try.func75, Try.ntmps75
        go_wp2_with fail
        refine (take_at _ hs H.out HT.out).mono ?_
        rintro r w' ⟨rfl, hm⟩
        obtain ⟨hd0, hd1, hg0, hg1⟩ := atT_facts hm.isT
        go_wp2
        go_ret
        exact ⟨rfl, (hm.rest s).error 1⟩
      · rw [hF, if_neg h3]
        clear hF
        have hle : n ≤ s1.size := by omega
        clear h3
        have hcl : (s1.extract 0 n).size ≤ 281474976710656 := by simp [ByteArray.size_extract]; omega
        go_enter Try.func75, Try.ntmps75
        go_wp2_with fail
        refine (take_at _ hs H.out HT.out).mono ?_
        rintro r w1 ⟨rfl, hm⟩
        obtain ⟨hd0, hd1, hg0, hg1⟩ := atT_facts hm.isT
        go_wp2_with fail
        refine (clone_any _ _ hcl).mono ?_
        rintro r w2 ⟨rfl, hg⟩
        have hm2 := hm.fresh (atT_lt hm.isT) hg
        clear hd0 hd1 hg0 hg1
        obtain ⟨hd0, hd1, hg0, hg1⟩ := atT_facts hm2.isT
        go_wp2
        go_ret
        exact ⟨rfl, hm2.rest _⟩
  · rw [hF, if_pos h1]
    clear hF
    have hne : (e1 != 0) = true := by simpa using h1
    go_enter Try.func75, Try.ntmps75
    go_wp2_with fail
    refine (take_at _ hs H.out HT.out).mono ?_
    rintro r w' ⟨rfl, hm⟩
    obtain ⟨hd0, hd1, hg0, hg1⟩ := atT_facts hm.isT
    go_wp2
    go_ret
    exact ⟨rfl, hm⟩
theorem toList_some {s : ByteArray} (h : s.size ≠ 0) : s.toList.isEmpty = false := by
  rw [Lib.toList_data, List.isEmpty_eq_false_iff]
  exact fun e => h (by rw [Lib.size_eq, e]; rfl)
theorem tend_any (b : Nat) (s : ByteArray) (e : Int) (w : World) (ht : atT w b s e) :
    Calls Try.prog 49 #[.pointer (some ⟨b, 0, none⟩)] w fun r w' => r = .returned (.int .i64 (endT s e)) ∧ w = w' := by
  obtain ⟨hc0, hc1, hf0, hf1⟩ := atT_facts ht
  clear ht
  by_cases h : e = 0
  · subst h
    by_cases h2 : s.size = 0
    · obtain rfl : s = ⟨#[]⟩ := ByteArray.ext (Array.eq_empty_of_size_eq_zero h2)
      clear h2
      go_enter Try.func49, Try.ntmps49
      go_wp2
      go_ret
      exact ⟨rfl, rfl⟩
    · have HF : Hid (endT s 0 = 6) := by unfold endT; rw [if_pos ⟨rfl, h2⟩]; exact rfl
      have hb : s.toList.isEmpty = false := toList_some h2
      go_enter Try.func49, Try.ntmps49
      go_wp2
      go_ret
      exact ⟨by rw [HF.out]; rfl, rfl⟩
  · have HF : Hid (endT s e = e) := by unfold endT; rw [if_neg (fun k => h k.1)]; exact rfl
    have hne : (e == 0) = false := by simpa using h
    go_enter Try.func49, Try.ntmps49
    go_wp2
    go_ret
    exact ⟨by rw [HF.out]; rfl, rfl⟩
end Go.Proofs.Ytphjhlnjfcfdcaa
namespace Go.Proofs.Ytphjhlnjfcfdcaa
open Go.ChangeShapes Go.WideShapes Go.ChangeAt Go.RowKit
theorem fresh_drewN (w : World) (n : Nat) : Fresh w (w.drewN n) := ⟨rfl, rfl, rfl, Nat.le_refl _, fun _ _ => rfl⟩
/-- Texts, as they are compared. -/
theorem tl_ne {x y : ByteArray} (h : ¬ x = y) : (x.toList == y.toList) = false := by
  rw [beq_eq_false_iff_ne]
  intro e
  rw [Lib.toList_data, Lib.toList_data] at e
  exact h (ByteArray.ext (Array.toList_inj.1 e))
theorem tl_dec (x y : ByteArray) : (x.toList == y.toList) = decide (x = y) := by
  by_cases h : x = y
  · subst h; simp
  · rw [tl_ne h, decide_eq_false h]
end Go.Proofs.Ytphjhlnjfcfdcaa
namespace Go.Proofs.Ytphjhlnjfcfdcaa
open Go.ChangeShapes Go.WideShapes Go.ChangeAt Go.RowKit

theorem Fresh.grownBy' {w w' : World} (hf : Fresh w w') (row : Option Nat) : w.grownBy w' row := ⟨hf.os, hf.tape, hf.output, hf.size, fun k hk _ => hf.block k hk⟩
theorem at_set {W : World} {b : Nat} {cs : Array Value} {t : TypeId} {z : Nat × Nat} (h : W.heap[b]? = some (.cells cs t z)) (i : Nat) (v : Value) : (W.setCell ⟨b, i, none⟩ v).heap[b]? = some (.cells (cs.setIfInBounds i v) t z) := by
  simp [World.setCell, Array.getElem?_modify, h]
theorem own_le {w : World} {B : Nat} {t : TypeId} {k n c : Nat} {o : Option Addr} {xs : List Value} (h : w.ownsRow B t k (.slice o n c) n xs) : n ≤ c := by
  rcases h.2 with ⟨e, hn⟩ | ⟨g, cap, cur, e, _, _, hn, _⟩
  · cases e; omega
  · cases e; exact hn
theorem news7 (w : World) (t : Nat) (l : List Value) : ∀ j u, l[j]? = some u → (w.alloc (.cells l.toArray t)).cell? ((⟨w.heap.size, 0, none⟩ : Addr).add j) = some u := fun j u hj => by
  rw [addr_add0]
  exact cell_of_at (at_new w (.cells l.toArray t)) (by simpa using hj)
theorem RowAt.set {w : World} {a : Option Addr} {cs : List Value} (h : RowAt w a cs) {p : Addr} (hp : ∀ ad : Addr, a = some ad → ad.block ≠ p.block) (v : Value) : RowAt (w.setCell p v) a cs := by
  rcases h with h | ⟨g, o, e, h⟩
  · exact .inl h
  · refine .inr ⟨g, o, e, fun j x hj => ?_⟩
    rw [World.cell?_setCell_other (a := p) (b := ⟨g, o + j, none⟩) (h := fun e2 => hp ⟨g, o, none⟩ e (by rw [e2]))]
    exact h j x hj
theorem tl_some {s : ByteArray} (h : ¬ s = ⟨#[]⟩) : s.toList.isEmpty = false := by
  rw [Lib.toList_data]
  cases hs : s.data.toList with
  | nil => exact absurd (ByteArray.ext (Array.toList_inj.1 hs)) h
  | cons a l => rfl
theorem own_ne {W : World} {B B' : Nat} {e e' k k' n n' : Nat} {v v' : Value} {xs xs' : List Value} (h : W.ownsRow B e k v n xs) (h' : W.ownsRow B' e' k' v' n' xs') (hne : e ≠ e') : v.ownBlock = none ∨ v.ownBlock ≠ v'.ownBlock := by
  rcases h.2 with ⟨rfl, _⟩ | ⟨g, cap, cur, rfl, _, hg, _⟩
  · exact .inl rfl
  · refine .inr fun e2 => ?_
    rcases h'.2 with ⟨rfl, _⟩ | ⟨g', cap', cur', rfl, _, hg', _⟩
    · cases e2
    · have : g = g' := by simpa [Value.ownBlock] using e2
      subst this
      rw [hg] at hg'
      cases hg'
      exact hne rfl
theorem own_fresh {W W' : World} {B e k n : Nat} {v : Value} {xs : List Value} (h : W.ownsRow B e k v n xs) (f : Fresh W W') : W'.ownsRow B e k v n xs := by
  refine World.ownsRow.kept (row := none) h (f.grownBy' none) ?_
  rcases h' : v.ownBlock with _ | g
  · exact .inl rfl
  · exact .inr (by simp)
theorem own_set {W : World} {B e k n : Nat} {v : Value} {xs : List Value} (h : W.ownsRow B e k v n xs) {p : Addr} (hp : p.block < B) (u : Value) : (W.setCell ⟨p.block, p.off, none⟩ u).ownsRow B e k v n xs := by
  refine World.ownsRow.kept h (grown_set W p.block p.off u) ?_
  rcases h' : v.ownBlock with _ | g
  · exact .inl rfl
  · refine .inr fun e2 => ?_
    have := (World.ownsRow.lt h g h').1
    have e3 : g = p.block := by simpa using e2
    omega
theorem at_off {W : World} {b : Nat} {o : Obj} (h : W.heap[b]? = some o) {g i : Nat} (hne : b ≠ g) (v : Value) : (W.setCell ⟨g, i, none⟩ v).heap[b]? = some o := by
  rw [(grown_set W g i v).block b (lt_of_at h) (fun e => hne (by cases e; rfl))]; exact h
theorem row_shape2 {w : World} {B e k n : Nat} {v : Value} {xs : List Value} (h : w.ownsRow B e k v n xs) : ∃ o c, v = .slice o n c := by
  rcases h.2 with ⟨h1, h2⟩ | ⟨g, cap, c2, h1, _⟩
  · exact ⟨none, 0, by rw [h1, h2]⟩
  · exact ⟨_, _, h1⟩
theorem own_type {W : World} {B e k n : Nat} {v : Value} {xs : List Value} (h : W.ownsRow B e k v n xs) {z t : Nat} {cs : Array Value} {fz : Nat × Nat} (hz : W.heap[z]? = some (.cells cs t fz)) (hne : e ≠ t) (i : Nat) (u : Value) : (W.setCell ⟨z, i, none⟩ u).ownsRow B e k v n xs := by
  refine World.ownsRow.kept h (grown_set W z i u) ?_
  rcases h.2 with ⟨rfl, _⟩ | ⟨g, cap, cur, rfl, _, hg, _⟩
  · exact .inl rfl
  · refine .inr fun e2 => ?_
    have : g = z := by simpa [Value.ownBlock] using e2
    subst this
    rw [hg] at hz
    cases hz
    exact hne rfl
theorem two_boxes (w : World) (o p : Obj) : ((w.alloc o).alloc p).heap[w.heap.size]? = some o ∧ ((w.alloc o).alloc p).heap[w.heap.size + 1]? = some p ∧ Fresh w ((w.alloc o).alloc p) ∧ ((w.alloc o).alloc p).heap.size = w.heap.size + 2 :=
  ⟨at_alloc (at_new w o), by have := at_new (w.alloc o) p; rw [World.size_alloc] at this; exact this, ((Fresh.refl w).alloc _).alloc _, by simp⟩
theorem frozen_of_at {w : World} {b : Nat} {cs : Array Value} {t : TypeId} (h : w.heap[b]? = some (.cells cs t)) (i : Nat) : w.frozen? ⟨b, i, none⟩ = false := by simp [World.frozen?, h]
theorem list_ext {a b : ByteArray} (h : a.data.toList = b.data.toList) : a = b := ByteArray.ext (Array.toList_inj.1 h)
theorem app_list (a b : ByteArray) : (a ++ b).data.toList = a.data.toList ++ b.data.toList := by
  cases a; cases b; rw [ByteArray.mk_append_mk]
theorem tx_app (l m : List UInt8) : tx l ++ tx m = tx (l ++ m) := by
  apply ByteArray.ext
  simp [tx]
end Go.Proofs.Ytphjhlnjfcfdcaa
namespace Go.Proofs.Ytphjhlnjfcfdcaa
open Go.ChangeShapes Go.WideShapes Go.ChangeAt Go.RowKit

/-! ### texts, compared -/
def leS (a b : ByteArray) : Bool := Op.bytesLess a.toList b.toList || a.toList == b.toList
theorem leS_empty {a : ByteArray} (h : 1 ≤ a.size) : leS a ⟨#[]⟩ = false := by
  unfold leS
  have hne : a.data.toList ≠ [] := fun e => by rw [Lib.size_eq, e] at h; simp at h
  rw [Lib.toList_data, Lib.toList_data]
  cases ha : a.data.toList with
  | nil => exact absurd ha hne
  | cons c r => rfl
theorem file_one {s : ByteArray} (h : fileB s = true) : 1 ≤ s.size ∧ s.size ≤ 64 := fileB_size h

/-! ### a pod of version 1 -/
structure P1 where
  file : ByteArray
  name : ByteArray
  image : ByteArray
  r : Int
theorem P1.ext {p q : P1} (h1 : p.file = q.file) (h2 : p.name = q.name) (h3 : p.image = q.image) (h4 : p.r = q.r) : p = q := by
  cases p; cases q; simp_all
def P1.eqB (p q : P1) : Bool := decide (p.file = q.file) && (decide (p.name = q.name) && (decide (p.image = q.image) && decide (p.r = q.r)))
theorem P1.eqB_iff (p q : P1) : P1.eqB p q = true ↔ p = q := by
  unfold P1.eqB
  simp only [Bool.and_eq_true, decide_eq_true_eq]
  exact ⟨fun ⟨a, b, c, d⟩ => P1.ext a b c d, fun h => by subst h; exact ⟨rfl, rfl, rfl, rfl⟩⟩
def eqL : List P1 → List P1 → Bool
  | [], [] => true
  | p :: l, q :: m => P1.eqB p q && eqL l m
  | _, _ => false
theorem eqL_len : ∀ (a b : List P1), a.length ≠ b.length → eqL a b = false
  | [], [], h => absurd rfl h
  | [], _ :: _, _ => rfl
  | _ :: _, [], _ => rfl
  | x :: a, y :: b, h => by
    rw [eqL, eqL_len a b (fun e => h (by simp [e])), Bool.and_false]
theorem eqL_self : ∀ a : List P1, eqL a a = true
  | [] => rfl
  | p :: l => by rw [eqL, eqL_self l, (P1.eqB_iff p p).2 rfl]; rfl
theorem eqL_drop {a b : List P1} {k : Nat} (h : k < a.length) (h' : k < b.length) : eqL (a.drop k) (b.drop k) = (P1.eqB a[k] b[k] && eqL (a.drop (k + 1)) (b.drop (k + 1))) := by
  rw [List.drop_eq_getElem_cons h, List.drop_eq_getElem_cons h', eqL]
/-- What is wrong with a pod, behind one of that File. -/
def fE (p : P1) (ahead : ByteArray) : Int :=
  if fileB p.file = true ∧ nameB p.name.data.toList = true then
    (if imgB p.image.data.toList = true ∧ leS p.file ahead = false then (if 2 < p.r then 7 else 0) else 6)
  else 13
def chkF : ByteArray → List P1 → Int
  | _, [] => 0
  | a, p :: l => if fE p a = 0 then chkF p.file l else fE p a
def chk1 (l : List P1) : Int := if 1024 < l.length then 18 else chkF ⟨#[]⟩ l
/-- The File ahead of the k-th pod. -/
def aheadOf (l : List P1) (k : Nat) : ByteArray := if k = 0 then ⟨#[]⟩ else (l.map (·.file)).getD (k - 1) ⟨#[]⟩
theorem aheadOf_zero (l : List P1) : aheadOf l 0 = ⟨#[]⟩ := rfl
theorem aheadOf_succ (l : List P1) (k : Nat) (h : k < l.length) : aheadOf l (k + 1) = l[k].file := by
  unfold aheadOf
  rw [if_neg (by omega), Nat.add_sub_cancel, List.getD_eq_getElem?_getD, List.getElem?_map, List.getElem?_eq_getElem h]; rfl
theorem chkF_drop {l : List P1} {k : Nat} (h : k < l.length) (a : ByteArray) : chkF a (l.drop k) = if fE l[k] a = 0 then chkF l[k].file (l.drop (k + 1)) else fE l[k] a := by
  rw [List.drop_eq_getElem_cons h, chkF]
theorem fE_ok {p : P1} {a : ByteArray} (h : fE p a = 0) : fileB p.file = true ∧ nameB p.name.data.toList = true ∧ imgB p.image.data.toList = true ∧ p.r ≤ 2 := by
  unfold fE at h
  split at h
  · rename_i h1
    split at h
    · rename_i h2
      split at h
      · simp at h
      · exact ⟨h1.1, h1.2, h2.1, by omega⟩
    · simp at h
  · simp at h
theorem chkF_ok : ∀ (l : List P1) (a : ByteArray), chkF a l = 0 → ∀ p ∈ l, fileB p.file = true ∧ nameB p.name.data.toList = true ∧ imgB p.image.data.toList = true ∧ p.r ≤ 2
  | [], _, _, p, hp => by simp at hp
  | q :: l, a, h, p, hp => by
    rw [chkF] at h
    split at h
    · rename_i h0
      rcases List.mem_cons.1 hp with rfl | hp
      · exact fE_ok h0
      · exact chkF_ok l _ h p hp
    · rename_i h0
      exact absurd h h0
theorem nameB_len {l : List UInt8} (h : nameB l = true) : l.length ≤ 253 := by
  unfold nameB at h
  simp only [Bool.and_eq_true, decide_eq_true_eq] at h
  exact h.1.2
theorem imgB_len {l : List UInt8} (h : imgB l = true) : l.length ≤ 255 := by
  unfold imgB at h
  simp only [Bool.and_eq_true, decide_eq_true_eq] at h
  exact h.1.2
/-- Texts no greater than that, and a byte. -/
structure P1.Fit (b : Nat) (p : P1) : Prop where
  file : p.file.size ≤ b
  name : p.name.size ≤ b
  image : p.image.size ≤ b
  r0 : 0 ≤ p.r
  r1 : p.r ≤ 255
theorem P1.Fit.mono {b c : Nat} {p : P1} (h : p.Fit b) (hbc : b ≤ c) : p.Fit c := ⟨Nat.le_trans h.file hbc, Nat.le_trans h.name hbc, Nat.le_trans h.image hbc, h.r0, h.r1⟩
theorem chk_fit {l : List P1} (h : chk1 l = 0) (hr : ∀ p ∈ l, 0 ≤ p.r ∧ p.r ≤ 255) : l.length ≤ 1024 ∧ ∀ p ∈ l, p.Fit 255 := by
  unfold chk1 at h
  split at h
  · simp at h
  · refine ⟨by omega, fun p hp => ?_⟩
    obtain ⟨h1, h2, h3, h4⟩ := chkF_ok l _ h p hp
    have h2 := nameB_len h2
    have h3 := imgB_len h3
    have h1 := (file_one h1).2
    have := hr p hp
    refine ⟨by omega, ?_, ?_, this.1, this.2⟩
    · rw [Lib.size_eq]; omega
    · rw [Lib.size_eq]; omega

/-! ### bytes -/
def txtL (s : ByteArray) : List UInt8 := be 2 s.size ++ s.data.toList
def podL (p : P1) : List UInt8 := txtL p.file ++ (txtL p.name ++ (txtL p.image ++ be 1 p.r.toNat))
def enc1L (seq : Int) (l : List P1) : List UInt8 := be 4 seq.toNat ++ (be 2 l.length ++ l.flatMap podL)
theorem txtL_len (s : ByteArray) : (txtL s).length = 2 + s.size := by
  rw [txtL, List.length_append, be_length, ← Lib.size_eq]
theorem podL_len {p : P1} {b : Nat} (h : p.Fit b) : (podL p).length ≤ 7 + 3 * b := by
  simp only [podL, List.length_append, txtL_len, be_length]
  have := h.file; have := h.name; have := h.image
  omega
theorem flat_le {α : Type} (f : α → List UInt8) (b : Nat) (l : List α) (h : ∀ x ∈ l, (f x).length ≤ b) : (l.flatMap f).length ≤ l.length * b := by
  induction l with
  | nil => simp
  | cons x l ih =>
    have h1 := h x (by simp)
    have h2 := ih (fun y hy => h y (by simp [hy]))
    rw [List.flatMap_cons, List.length_append, List.length_cons, Nat.succ_mul]
    omega
theorem txt_tx (s : ByteArray) : beS 2 s.size ++ s = tx (txtL s) := by
  apply list_ext
  rw [app_list, tx_toList]; rfl
theorem beS_tx (n v : Nat) : beS n v = tx (be n v) := rfl
end Go.Proofs.Ytphjhlnjfcfdcaa
namespace Go.Proofs.Ytphjhlnjfcfdcaa
open Go.ChangeShapes Go.WideShapes Go.ChangeAt Go.RowKit

structure C2 where
  name : ByteArray
  image : ByteArray
structure P2 where
  file : ByteArray
  name : ByteArray
  ns : ByteArray
  r : Int
  g : Int
  cs : List C2
theorem C2.ext {p q : C2} (h1 : p.name = q.name) (h2 : p.image = q.image) : p = q := by
  cases p; cases q; simp_all
def C2.eqB (p q : C2) : Bool := decide (p.name = q.name) && decide (p.image = q.image)
theorem C2.eqB_iff (p q : C2) : C2.eqB p q = true ↔ p = q := by
  unfold C2.eqB
  simp only [Bool.and_eq_true, decide_eq_true_eq]
  exact ⟨fun ⟨a, b⟩ => C2.ext a b, fun h => by subst h; exact ⟨rfl, rfl⟩⟩
def eqC : List C2 → List C2 → Bool
  | [], [] => true
  | p :: l, q :: m => C2.eqB p q && eqC l m
  | _, _ => false
theorem eqC_len : ∀ (a b : List C2), a.length ≠ b.length → eqC a b = false
  | [], [], h => absurd rfl h
  | [], _ :: _, _ => rfl
  | _ :: _, [], _ => rfl
  | x :: a, y :: b, h => by
    rw [eqC, eqC_len a b (fun e => h (by simp [e])), Bool.and_false]
theorem eqC_self : ∀ a : List C2, eqC a a = true
  | [] => rfl
  | p :: l => by rw [eqC, eqC_self l, (C2.eqB_iff p p).2 rfl]; rfl
theorem eqC_drop {a b : List C2} {k : Nat} (h : k < a.length) (h' : k < b.length) : eqC (a.drop k) (b.drop k) = (C2.eqB a[k] b[k] && eqC (a.drop (k + 1)) (b.drop (k + 1))) := by
  rw [List.drop_eq_getElem_cons h, List.drop_eq_getElem_cons h', eqC]
def P2.eqB (p q : P2) : Bool := decide (p.file = q.file) && (decide (p.name = q.name) && (decide (p.ns = q.ns) && (decide (p.r = q.r) && (decide (p.g = q.g) && eqC p.cs q.cs))))
theorem P2.eqB_self (p : P2) : P2.eqB p p = true := by simp [P2.eqB, eqC_self]
def eqP : List P2 → List P2 → Bool
  | [], [] => true
  | p :: l, q :: m => P2.eqB p q && eqP l m
  | _, _ => false
theorem eqP_len : ∀ (a b : List P2), a.length ≠ b.length → eqP a b = false
  | [], [], h => absurd rfl h
  | [], _ :: _, _ => rfl
  | _ :: _, [], _ => rfl
  | x :: a, y :: b, h => by
    rw [eqP, eqP_len a b (fun e => h (by simp [e])), Bool.and_false]
theorem eqP_self : ∀ a : List P2, eqP a a = true
  | [] => rfl
  | p :: l => by rw [eqP, eqP_self l, P2.eqB_self]; rfl
theorem eqP_drop {a b : List P2} {k : Nat} (h : k < a.length) (h' : k < b.length) : eqP (a.drop k) (b.drop k) = (P2.eqB a[k] b[k] && eqP (a.drop (k + 1)) (b.drop (k + 1))) := by
  rw [List.drop_eq_getElem_cons h, List.drop_eq_getElem_cons h', eqP]

/-! ### what is wrong -/
def memN (s : ByteArray) (l : List C2) : Bool := l.any fun c => decide (c.name = s)
def c2E (ahead : List C2) (c : C2) : Int := if labB c.name.data.toList = true then (if memN c.name ahead = true then 8 else if imgB c.image.data.toList = true then 0 else 6) else 13
def cs2E : List C2 → List C2 → Int
  | _, [] => 0
  | ah, c :: r => if c2E ah c = 0 then cs2E (ah ++ [c]) r else c2E ah c
def head2E (p : P2) (ahead : ByteArray) : Int :=
  if fileB p.file = true ∧ nameB p.name.data.toList = true ∧ labB p.ns.data.toList = true then
    (if leS p.file ahead = true then 6 else if 2 < p.r ∨ p.g < 1 ∨ 3600 < p.g then 7 else if p.cs.length = 0 then 16 else if 16 < p.cs.length then 18 else 0)
  else 13
def f2E (p : P2) (ahead : ByteArray) : Int := if head2E p ahead = 0 then cs2E [] p.cs else head2E p ahead
def chk2F : ByteArray → List P2 → Int
  | _, [] => 0
  | a, p :: l => if f2E p a = 0 then chk2F p.file l else f2E p a
def chk2 (l : List P2) : Int := if 1024 < l.length then 18 else chk2F ⟨#[]⟩ l
def ahead2 (l : List P2) (k : Nat) : ByteArray := if k = 0 then ⟨#[]⟩ else (l.map (·.file)).getD (k - 1) ⟨#[]⟩
theorem ahead2_succ (l : List P2) (k : Nat) (h : k < l.length) : ahead2 l (k + 1) = l[k].file := by
  unfold ahead2
  rw [if_neg (by omega), Nat.add_sub_cancel, List.getD_eq_getElem?_getD, List.getElem?_map, List.getElem?_eq_getElem h]; rfl
theorem chk2F_drop {l : List P2} {k : Nat} (h : k < l.length) (a : ByteArray) : chk2F a (l.drop k) = if f2E l[k] a = 0 then chk2F l[k].file (l.drop (k + 1)) else f2E l[k] a := by
  rw [List.drop_eq_getElem_cons h, chk2F]
theorem cs2E_drop {l : List C2} {k : Nat} (h : k < l.length) : cs2E (l.take k) (l.drop k) = if c2E (l.take k) l[k] = 0 then cs2E (l.take (k + 1)) (l.drop (k + 1)) else c2E (l.take k) l[k] := by
  rw [List.drop_eq_getElem_cons h, cs2E, List.take_succ_eq_append_getElem h]
theorem labB_len2 {l : List UInt8} (h : labB l = true) : l.length ≤ 63 := (labB_len h).2
theorem c2E_ok {ah : List C2} {c : C2} (h : c2E ah c = 0) : labB c.name.data.toList = true ∧ imgB c.image.data.toList = true := by
  unfold c2E at h
  split at h
  · rename_i h1
    split at h
    · simp at h
    · split at h
      · rename_i h2; exact ⟨h1, h2⟩
      · simp at h
  · simp at h
theorem cs2E_ok : ∀ (l ah : List C2), cs2E ah l = 0 → ∀ c ∈ l, labB c.name.data.toList = true ∧ imgB c.image.data.toList = true
  | [], _, _, c, hc => by simp at hc
  | d :: l, ah, h, c, hc => by
    rw [cs2E] at h
    split at h
    · rename_i h0
      rcases List.mem_cons.1 hc with rfl | hc
      · exact c2E_ok h0
      · exact cs2E_ok l _ h c hc
    · rename_i h0; exact absurd h h0
structure P2.Good (p : P2) : Prop where
  file : fileB p.file = true
  name : nameB p.name.data.toList = true
  ns : labB p.ns.data.toList = true
  r : p.r ≤ 2
  g0 : 1 ≤ p.g
  g1 : p.g ≤ 3600
  l0 : p.cs.length ≠ 0
  l1 : p.cs.length ≤ 16
  cs : ∀ c ∈ p.cs, labB c.name.data.toList = true ∧ imgB c.image.data.toList = true
theorem f2E_ok {p : P2} {a : ByteArray} (h : f2E p a = 0) : p.Good := by
  unfold f2E at h
  split at h
  · rename_i h0
    unfold head2E at h0
    split at h0
    · rename_i h1
      split at h0
      · simp at h0
      split at h0
      · simp at h0
      split at h0
      · simp at h0
      split at h0
      · simp at h0
      rename_i h2 h3 h4 h5
      exact ⟨h1.1, h1.2.1, h1.2.2, by omega, by omega, by omega, h4, by omega, cs2E_ok _ _ h⟩
    · simp at h0
  · rename_i h0; exact absurd h h0
theorem chk2F_ok : ∀ (l : List P2) (a : ByteArray), chk2F a l = 0 → ∀ p ∈ l, p.Good
  | [], _, _, p, hp => by simp at hp
  | q :: l, a, h, p, hp => by
    rw [chk2F] at h
    split at h
    · rename_i h0
      rcases List.mem_cons.1 hp with rfl | hp
      · exact f2E_ok h0
      · exact chk2F_ok l _ h p hp
    · rename_i h0; exact absurd h h0
/-- Texts no greater than that, a byte, a number of two bytes. -/
structure P2.Fit (b : Nat) (p : P2) : Prop where
  file : p.file.size ≤ b
  name : p.name.size ≤ b
  ns : p.ns.size ≤ b
  r0 : 0 ≤ p.r
  r1 : p.r ≤ 255
  g0 : 0 ≤ p.g
  g1 : p.g ≤ 65535
  cs : ∀ c ∈ p.cs, c.name.size ≤ b ∧ c.image.size ≤ b
theorem P2.Fit.mono {b c : Nat} {p : P2} (h : p.Fit b) (hbc : b ≤ c) : p.Fit c :=
  ⟨Nat.le_trans h.file hbc, Nat.le_trans h.name hbc, Nat.le_trans h.ns hbc, h.r0, h.r1, h.g0, h.g1, fun x hx => ⟨Nat.le_trans (h.cs x hx).1 hbc, Nat.le_trans (h.cs x hx).2 hbc⟩⟩
/-- Numbers as they may be. -/
def P2.Num (p : P2) : Prop := 0 ≤ p.r ∧ p.r ≤ 255 ∧ 0 ≤ p.g ∧ p.g ≤ 65535
theorem chk2_fit {l : List P2} (h : chk2 l = 0) (hn : ∀ p ∈ l, p.Num) : l.length ≤ 1024 ∧ ∀ p ∈ l, p.Fit 255 ∧ p.cs.length ≤ 16 := by
  unfold chk2 at h
  split at h
  · simp at h
  · refine ⟨by omega, fun p hp => ?_⟩
    have hg := chk2F_ok l _ h p hp
    have h1 := (file_one hg.file).2
    have h2 := nameB_len hg.name
    have h3 := labB_len2 hg.ns
    obtain ⟨n1, n2, n3, n4⟩ := hn p hp
    refine ⟨⟨by omega, by rw [Lib.size_eq]; omega, by rw [Lib.size_eq]; omega, n1, n2, n3, n4, fun c hc => ?_⟩, hg.l1⟩
    obtain ⟨h4, h5⟩ := hg.cs c hc
    have h4 := labB_len2 h4
    have h5 := imgB_len h5
    rw [Lib.size_eq, Lib.size_eq]; omega

/-! ### bytes -/
def cL (c : C2) : List UInt8 := txtL c.name ++ txtL c.image
def pod2L (p : P2) : List UInt8 := txtL p.file ++ (txtL p.name ++ (txtL p.ns ++ (be 1 p.r.toNat ++ (be 2 p.g.toNat ++ (be 1 p.cs.length ++ p.cs.flatMap cL)))))
def enc2L (seq : Int) (l : List P2) : List UInt8 := be 8 seq.toNat ++ (be 2 l.length ++ l.flatMap pod2L)
theorem cL_len {c : C2} {b : Nat} (h : c.name.size ≤ b ∧ c.image.size ≤ b) : (cL c).length ≤ 4 + 2 * b := by
  simp only [cL, List.length_append, txtL_len]; omega
theorem pod2L_len {p : P2} (h : p.Fit 255) (hl : p.cs.length ≤ 16) : (pod2L p).length ≤ 9000 := by
  have h1 := flat_le cL 514 p.cs (fun c hc => cL_len (h.cs c hc))
  have h2 : p.cs.length * 514 ≤ 16 * 514 := Nat.mul_le_mul hl (Nat.le_refl _)
  have := h.file; have := h.name; have := h.ns
  simp only [pod2L, List.length_append, txtL_len, be_length]
  omega
end Go.Proofs.Ytphjhlnjfcfdcaa
namespace Go.Proofs.Ytphjhlnjfcfdcaa
open Go.ChangeShapes Go.WideShapes Go.ChangeAt Go.RowKit

def P1.cells (p : P1) : List Value := [.string p.file, .string p.name, .string p.image, .int .u8 p.r]
def P1.val (p : P1) : Value := .agg #[.string p.file, .string p.name, .string p.image, .int .u8 p.r]
def p1s (l : List P1) : List Value := l.flatMap P1.cells
theorem p1s_len (l : List P1) : (p1s l).length = l.length * 4 := flat_length P1.cells 4 (fun _ => rfl) l
theorem p1s_snoc (l : List P1) (p : P1) : p1s (l ++ [p]) = p1s l ++ [.string p.file, .string p.name, .string p.image, .int .u8 p.r] := by simp [p1s, P1.cells]
/-- The four cells of a pod at a place. -/
def P1.lies (w : World) (g o : Nat) (p : P1) : Prop :=
  w.cell? ⟨g, o, none⟩ = some (.string p.file) ∧ w.cell? ⟨g, o + 1, none⟩ = some (.string p.name) ∧ w.cell? ⟨g, o + 2, none⟩ = some (.string p.image) ∧ w.cell? ⟨g, o + 3, none⟩ = some (.int .u8 p.r)
theorem p1_form {w : World} {a : Option Addr} {l : List P1} (h : RowAt w a (p1s l)) {i0 : Nat} (h0 : i0 < l.length) : ∃ g o, a = some ⟨g, o, none⟩ ∧ ∀ i (hi : i < l.length), l[i].lies w g (o + i * 4) := by
  obtain ⟨g, o, e, h⟩ := h.form (fun e => by
    have := p1s_len l
    rw [e] at this
    simp at this; omega)
  have each : ∀ i (hi : i < l.length) j x, j < 4 → l[i].cells[j]? = some x → w.cell? ⟨g, o + i * 4 + j, none⟩ = some x := fun i hi j x hj hx => by
    have := h _ _ ((flat_get P1.cells 4 (fun _ => rfl) l i hi j hj).trans hx)
    rw [Nat.add_assoc]; exact this
  exact ⟨g, o, e, fun i hi => ⟨each i hi 0 _ (by omega) rfl, each i hi 1 _ (by omega) rfl, each i hi 2 _ (by omega) rfl, each i hi 3 _ (by omega) rfl⟩⟩
/-- A pod in a block of its own. -/
theorem p1_box {w : World} {b t : Nat} {p : P1} (h : w.heap[b]? = some (.cells #[.string p.file, .string p.name, .string p.image, .int .u8 p.r] t)) : p.lies w b 0 ∧ ∀ i, w.frozen? ⟨b, i, none⟩ = false :=
  ⟨⟨cell_of_at h rfl, cell_of_at h rfl, cell_of_at h rfl, cell_of_at h rfl⟩, frozen_of_at h⟩
/-- A state. -/
def st1 (seq : Int) (a : Option Addr) (n c : Nat) : Value := .agg #[.int .u32 seq, .slice a n c]
theorem st1_box {w : World} {b t : Nat} {seq : Int} {a : Option Addr} {n c : Nat} (h : w.heap[b]? = some (.cells #[.int .u32 seq, .slice a n c] t)) :
    w.cell? ⟨b, 0, none⟩ = some (.int .u32 seq) ∧ w.cell? ⟨b, 1, none⟩ = some (.slice a n c) ∧ ∀ i, w.frozen? ⟨b, i, none⟩ = false :=
  ⟨cell_of_at h rfl, cell_of_at h rfl, frozen_of_at h⟩
end Go.Proofs.Ytphjhlnjfcfdcaa
namespace Go.Proofs.Ytphjhlnjfcfdcaa
open Go.ChangeShapes Go.WideShapes Go.ChangeAt Go.RowKit

def C2.cells (p : C2) : List Value := [.string p.name, .string p.image]
def C2.val (p : C2) : Value := .agg #[.string p.name, .string p.image]
def c2s (l : List C2) : List Value := l.flatMap C2.cells
theorem c2s_len (l : List C2) : (c2s l).length = l.length * 2 := flat_length C2.cells 2 (fun _ => rfl) l
theorem c2s_snoc (l : List C2) (p : C2) : c2s (l ++ [p]) = c2s l ++ [.string p.name, .string p.image] := by simp [c2s, C2.cells]
def C2.lies (w : World) (g o : Nat) (p : C2) : Prop := w.cell? ⟨g, o, none⟩ = some (.string p.name) ∧ w.cell? ⟨g, o + 1, none⟩ = some (.string p.image)
theorem c2_form {w : World} {a : Option Addr} {l : List C2} (h : RowAt w a (c2s l)) {i0 : Nat} (h0 : i0 < l.length) : ∃ g o, a = some ⟨g, o, none⟩ ∧ ∀ i (hi : i < l.length), l[i].lies w g (o + i * 2) := by
  obtain ⟨g, o, e, h⟩ := h.form (fun e => by
    have := c2s_len l
    rw [e] at this
    simp at this; omega)
  have each : ∀ i (hi : i < l.length) j x, j < 2 → l[i].cells[j]? = some x → w.cell? ⟨g, o + i * 2 + j, none⟩ = some x := fun i hi j x hj hx => by
    have := h _ _ ((flat_get C2.cells 2 (fun _ => rfl) l i hi j hj).trans hx)
    rw [Nat.add_assoc]; exact this
  exact ⟨g, o, e, fun i hi => ⟨each i hi 0 _ (by omega) rfl, each i hi 1 _ (by omega) rfl⟩⟩
/-- The first elements of a row are a row. -/
theorem c2_take {w : World} {a : Option Addr} {l : List C2} (h : RowAt w a (c2s l)) (k : Nat) : RowAt w a (c2s (l.take k)) := by
  rcases h with h | ⟨g, o, e, h⟩
  · left
    have h2 := c2s_len l
    rw [h] at h2
    have : l = [] := List.eq_nil_of_length_eq_zero (by simp at h2; omega)
    rw [this]; simp [c2s]
  · refine .inr ⟨g, o, e, fun j x hj => h j x ?_⟩
    have e2 : c2s l = c2s (l.take k) ++ c2s (l.drop k) := by unfold c2s; rw [← List.flatMap_append, List.take_append_drop]
    rw [e2, List.getElem?_append_left (List.getElem?_eq_some_iff.1 hj).1]
    exact hj
/-- A pod, with where its containers lie. -/
structure M2 where
  p : P2
  a : Option Addr
  c : Nat
def M2.cells (m : M2) : List Value := [.string m.p.file, .string m.p.name, .string m.p.ns, .int .u8 m.p.r, .int .u16 m.p.g, .slice m.a m.p.cs.length m.c]
def M2.val (m : M2) : Value := .agg #[.string m.p.file, .string m.p.name, .string m.p.ns, .int .u8 m.p.r, .int .u16 m.p.g, .slice m.a m.p.cs.length m.c]
abbrev M2.obj (m : M2) (t : Nat) : Obj := .cells #[.string m.p.file, .string m.p.name, .string m.p.ns, .int .u8 m.p.r, .int .u16 m.p.g, .slice m.a m.p.cs.length m.c] t
def M2.In (w : World) (m : M2) : Prop := RowAt w m.a (c2s m.p.cs) ∧ m.p.cs.length ≤ m.c
theorem M2.In.move {w w' : World} {m : M2} (h : m.In w) (f : Fresh w w') : m.In w' := ⟨h.1.move f, h.2⟩
def m2s (l : List M2) : List Value := l.flatMap M2.cells
def pods2 (l : List M2) : List P2 := l.map (·.p)
theorem m2s_len (l : List M2) : (m2s l).length = l.length * 6 := flat_length M2.cells 6 (fun _ => rfl) l
theorem m2s_snoc (l : List M2) (m : M2) : m2s (l ++ [m]) = m2s l ++ [.string m.p.file, .string m.p.name, .string m.p.ns, .int .u8 m.p.r, .int .u16 m.p.g, .slice m.a m.p.cs.length m.c] := by simp [m2s, M2.cells]
def M2.lies (w : World) (g o : Nat) (m : M2) : Prop :=
  w.cell? ⟨g, o, none⟩ = some (.string m.p.file) ∧ w.cell? ⟨g, o + 1, none⟩ = some (.string m.p.name) ∧ w.cell? ⟨g, o + 2, none⟩ = some (.string m.p.ns) ∧ w.cell? ⟨g, o + 3, none⟩ = some (.int .u8 m.p.r) ∧ w.cell? ⟨g, o + 4, none⟩ = some (.int .u16 m.p.g) ∧ w.cell? ⟨g, o + 5, none⟩ = some (.slice m.a m.p.cs.length m.c)
theorem m2_form {w : World} {a : Option Addr} {l : List M2} (h : RowAt w a (m2s l)) {i0 : Nat} (h0 : i0 < l.length) : ∃ g o, a = some ⟨g, o, none⟩ ∧ ∀ i (hi : i < l.length), l[i].lies w g (o + i * 6) := by
  obtain ⟨g, o, e, h⟩ := h.form (fun e => by
    have := m2s_len l
    rw [e] at this
    simp at this; omega)
  have each : ∀ i (hi : i < l.length) j x, j < 6 → l[i].cells[j]? = some x → w.cell? ⟨g, o + i * 6 + j, none⟩ = some x := fun i hi j x hj hx => by
    have := h _ _ ((flat_get M2.cells 6 (fun _ => rfl) l i hi j hj).trans hx)
    rw [Nat.add_assoc]; exact this
  exact ⟨g, o, e, fun i hi => ⟨each i hi 0 _ (by omega) rfl, each i hi 1 _ (by omega) rfl, each i hi 2 _ (by omega) rfl, each i hi 3 _ (by omega) rfl, each i hi 4 _ (by omega) rfl, each i hi 5 _ (by omega) rfl⟩⟩
theorem m2_box {w : World} {b t : Nat} {m : M2} (h : w.heap[b]? = some (m.obj t)) : m.lies w b 0 ∧ ∀ i, w.frozen? ⟨b, i, none⟩ = false :=
  ⟨⟨cell_of_at h rfl, cell_of_at h rfl, cell_of_at h rfl, cell_of_at h rfl, cell_of_at h rfl, cell_of_at h rfl⟩, frozen_of_at h⟩
/-- A state's row. -/
structure Row2 (w : World) (a : Option Addr) (l : List M2) : Prop where
  row : RowAt w a (m2s l)
  ins : ∀ m ∈ l, m.In w
theorem Row2.move {w w' : World} {a : Option Addr} {l : List M2} (h : Row2 w a l) (f : Fresh w w') : Row2 w' a l := ⟨h.row.move f, fun m hm => (h.ins m hm).move f⟩
theorem Row2.nil (w : World) (a : Option Addr) : Row2 w a [] := ⟨.nil _ _, by simp⟩
def st2 (seq : Int) (a : Option Addr) (n c : Nat) : Value := .agg #[.int .u64 seq, .slice a n c]
theorem st2_box {w : World} {b t : Nat} {seq : Int} {a : Option Addr} {n c : Nat} (h : w.heap[b]? = some (.cells #[.int .u64 seq, .slice a n c] t)) :
    w.cell? ⟨b, 0, none⟩ = some (.int .u64 seq) ∧ w.cell? ⟨b, 1, none⟩ = some (.slice a n c) ∧ ∀ i, w.frozen? ⟨b, i, none⟩ = false :=
  ⟨cell_of_at h rfl, cell_of_at h rfl, frozen_of_at h⟩
end Go.Proofs.Ytphjhlnjfcfdcaa
namespace Go.Proofs.Ytphjhlnjfcfdcaa
open Go.ChangeShapes Go.WideShapes Go.ChangeAt Go.RowKit

/-! ### what is taken -/
theorem textT_err {s : ByteArray} {e : Int} (h : e ≠ 0) : textT s e = (s, e, ⟨#[]⟩) := by
  have h2 : takeT s e 2 = (s, e, 0) := by simp [takeT, h]
  unfold textT
  rw [h2, if_pos h]
theorem takeT_err {s : ByteArray} {e n : Int} (h : e ≠ 0) : takeT s e n = (s, e, 0) := by simp [takeT, h]
theorem textT_len {s s1 : ByteArray} {e e1 : Int} {x : ByteArray} (h : textT s e = (s1, e1, x)) : s1.size ≤ s.size ∧ x.size ≤ 4096 := by
  obtain ⟨t1, t2, t3, ht⟩ : ∃ t1 t2 t3, takeT s e 2 = (t1, t2, t3) := ⟨_, _, _, rfl⟩
  have hl := take_len ht
  unfold textT at h
  rw [ht] at h
  dsimp only at h
  split at h
  · cases h; exact ⟨hl, Nat.zero_le _⟩
  split at h
  · cases h; exact ⟨Nat.le_refl _, Nat.zero_le _⟩
  split at h
  · cases h; exact ⟨Nat.le_refl _, Nat.zero_le _⟩
  · cases h
    refine ⟨Nat.le_trans (extract_size_le _ _ _) hl, ?_⟩
    rw [ByteArray.size_extract]; omega
def podT (s : ByteArray) (e : Int) : ByteArray × Int × P1 :=
  ((takeT (textT (textT (textT s e).1 (textT s e).2.1).1 (textT (textT s e).1 (textT s e).2.1).2.1).1 (textT (textT (textT s e).1 (textT s e).2.1).1 (textT (textT s e).1 (textT s e).2.1).2.1).2.1 1).1,
   (takeT (textT (textT (textT s e).1 (textT s e).2.1).1 (textT (textT s e).1 (textT s e).2.1).2.1).1 (textT (textT (textT s e).1 (textT s e).2.1).1 (textT (textT s e).1 (textT s e).2.1).2.1).2.1 1).2.1,
   ⟨(textT s e).2.2, (textT (textT s e).1 (textT s e).2.1).2.2, (textT (textT (textT s e).1 (textT s e).2.1).1 (textT (textT s e).1 (textT s e).2.1).2.1).2.2,
    (takeT (textT (textT (textT s e).1 (textT s e).2.1).1 (textT (textT s e).1 (textT s e).2.1).2.1).1 (textT (textT (textT s e).1 (textT s e).2.1).1 (textT (textT s e).1 (textT s e).2.1).2.1).2.1 1).2.2⟩)
theorem podT_eq {s s1 s2 s3 s4 x1 x2 x3 : ByteArray} {e e1 e2 e3 e4 v : Int} (h1 : textT s e = (s1, e1, x1)) (h2 : textT s1 e1 = (s2, e2, x2)) (h3 : textT s2 e2 = (s3, e3, x3)) (h4 : takeT s3 e3 1 = (s4, e4, v)) :
    podT s e = (s4, e4, ⟨x1, x2, x3, v⟩) := by
  simp only [podT, h1, h2, h3, h4]
/-- The four takes, told. -/
structure Pod1T (s : ByteArray) (e : Int) (s1 s2 s3 s4 x1 x2 x3 : ByteArray) (e1 e2 e3 e4 v : Int) : Prop where
  h1 : textT s e = (s1, e1, x1)
  h2 : textT s1 e1 = (s2, e2, x2)
  h3 : textT s2 e2 = (s3, e3, x3)
  h4 : takeT s3 e3 1 = (s4, e4, v)
theorem pod1T (s : ByteArray) (e : Int) : ∃ s1 s2 s3 s4 x1 x2 x3 e1 e2 e3 e4 v, Pod1T s e s1 s2 s3 s4 x1 x2 x3 e1 e2 e3 e4 v :=
  ⟨_, _, _, _, _, _, _, _, _, _, _, _, rfl, rfl, rfl, rfl⟩
theorem Pod1T.v {s s1 s2 s3 s4 x1 x2 x3 : ByteArray} {e e1 e2 e3 e4 v : Int} (h : Pod1T s e s1 s2 s3 s4 x1 x2 x3 e1 e2 e3 e4 v) : 0 ≤ v ∧ v < 256 := by
  have := take_val s3 e3 1
  rw [show ((1 : Nat) : Int) = 1 from rfl, h.h4] at this
  exact this
theorem Pod1T.le {s s1 s2 s3 s4 x1 x2 x3 : ByteArray} {e e1 e2 e3 e4 v : Int} (h : Pod1T s e s1 s2 s3 s4 x1 x2 x3 e1 e2 e3 e4 v) :
    (s1.size ≤ s.size ∧ s2.size ≤ s.size ∧ s3.size ≤ s.size ∧ s4.size ≤ s.size) ∧ x1.size ≤ 4096 ∧ x2.size ≤ 4096 ∧ x3.size ≤ 4096 := by
  have a1 := textT_len h.h1
  have a2 := textT_len h.h2
  have a3 := textT_len h.h3
  have a4 := take_len h.h4
  omega
theorem Pod1T.fit {s s1 s2 s3 s4 x1 x2 x3 : ByteArray} {e e1 e2 e3 e4 v : Int} (h : Pod1T s e s1 s2 s3 s4 x1 x2 x3 e1 e2 e3 e4 v) : P1.Fit 4096 ⟨x1, x2, x3, v⟩ := by
  have a := h.le
  have b := h.v
  exact ⟨a.2.1, a.2.2.1, a.2.2.2, b.1, by dsimp only; omega⟩
theorem podT_err {s : ByteArray} {e : Int} (h : e ≠ 0) : (podT s e).1 = s ∧ (podT s e).2.1 = e := by
  rw [podT_eq (textT_err h) (textT_err h) (textT_err h) (takeT_err h)]
  exact ⟨rfl, rfl⟩
def podsT : Nat → ByteArray → Int → ByteArray × Int × List P1
  | 0, s, e => (s, e, [])
  | n + 1, s, e => ((podsT n (podT s e).1 (podT s e).2.1).1, (podsT n (podT s e).1 (podT s e).2.1).2.1, (podT s e).2.2 :: (podsT n (podT s e).1 (podT s e).2.1).2.2)
theorem podsT_err : ∀ (n : Nat) {s : ByteArray} {e : Int}, e ≠ 0 → (podsT n s e).1 = s ∧ (podsT n s e).2.1 = e
  | 0, _, _, _ => ⟨rfl, rfl⟩
  | n + 1, s, e, h => by
    obtain ⟨h1, h2⟩ := podT_err (s := s) h
    rw [podsT, h1, h2]
    exact podsT_err n h
/-- What was taken ahead of the rest. -/
def aheadT (D : List P1) (q : ByteArray × Int × List P1) : ByteArray × Int × List P1 := (q.1, q.2.1, D ++ q.2.2)
theorem aheadT_nil (q : ByteArray × Int × List P1) : aheadT [] q = q := rfl
theorem podsT_step {n k : Nat} (hk : k < n) {s s1 : ByteArray} {e e1 : Int} {p : P1} (h : podT s e = (s1, e1, p)) (D : List P1) :
    aheadT D (podsT (n - k) s e) = aheadT (D ++ [p]) (podsT (n - (k + 1)) s1 e1) := by
  obtain ⟨m, hm⟩ : ∃ m, n - k = m + 1 := ⟨n - k - 1, by omega⟩
  rw [hm, show n - (k + 1) = m by omega, podsT, h]
  simp [aheadT]
def decT (b : ByteArray) : Int × Int × List P1 :=
  if 1024 < (takeT (takeT b 0 4).1 (takeT b 0 4).2.1 2).2.2 then (18, 0, []) else
  if endT (podsT (takeT (takeT b 0 4).1 (takeT b 0 4).2.1 2).2.2.toNat (takeT (takeT b 0 4).1 (takeT b 0 4).2.1 2).1 (takeT (takeT b 0 4).1 (takeT b 0 4).2.1 2).2.1).1
      (podsT (takeT (takeT b 0 4).1 (takeT b 0 4).2.1 2).2.2.toNat (takeT (takeT b 0 4).1 (takeT b 0 4).2.1 2).1 (takeT (takeT b 0 4).1 (takeT b 0 4).2.1 2).2.1).2.1 ≠ 0 then
    (endT (podsT (takeT (takeT b 0 4).1 (takeT b 0 4).2.1 2).2.2.toNat (takeT (takeT b 0 4).1 (takeT b 0 4).2.1 2).1 (takeT (takeT b 0 4).1 (takeT b 0 4).2.1 2).2.1).1
      (podsT (takeT (takeT b 0 4).1 (takeT b 0 4).2.1 2).2.2.toNat (takeT (takeT b 0 4).1 (takeT b 0 4).2.1 2).1 (takeT (takeT b 0 4).1 (takeT b 0 4).2.1 2).2.1).2.1, 0, [])
  else if chk1 (podsT (takeT (takeT b 0 4).1 (takeT b 0 4).2.1 2).2.2.toNat (takeT (takeT b 0 4).1 (takeT b 0 4).2.1 2).1 (takeT (takeT b 0 4).1 (takeT b 0 4).2.1 2).2.1).2.2 ≠ 0 then
    (chk1 (podsT (takeT (takeT b 0 4).1 (takeT b 0 4).2.1 2).2.2.toNat (takeT (takeT b 0 4).1 (takeT b 0 4).2.1 2).1 (takeT (takeT b 0 4).1 (takeT b 0 4).2.1 2).2.1).2.2, 0, [])
  else (0, (takeT b 0 4).2.2, (podsT (takeT (takeT b 0 4).1 (takeT b 0 4).2.1 2).2.2.toNat (takeT (takeT b 0 4).1 (takeT b 0 4).2.1 2).1 (takeT (takeT b 0 4).1 (takeT b 0 4).2.1 2).2.1).2.2)
/-- The takes of a state, told. -/
structure Dec1T (b s1 s2 s3 : ByteArray) (e1 e2 e3 q n : Int) (L : List P1) : Prop where
  h1 : takeT b 0 4 = (s1, e1, q)
  h2 : takeT s1 e1 2 = (s2, e2, n)
  h3 : podsT n.toNat s2 e2 = (s3, e3, L)
theorem dec1T (b : ByteArray) : ∃ s1 s2 s3 e1 e2 e3 q n L, Dec1T b s1 s2 s3 e1 e2 e3 q n L := ⟨_, _, _, _, _, _, _, _, _, rfl, rfl, rfl⟩
theorem decT_eq {b s1 s2 s3 : ByteArray} {e1 e2 e3 q n : Int} {L : List P1} (h : Dec1T b s1 s2 s3 e1 e2 e3 q n L) :
    decT b = if 1024 < n then (18, 0, []) else if endT s3 e3 ≠ 0 then (endT s3 e3, 0, []) else if chk1 L ≠ 0 then (chk1 L, 0, []) else (0, q, L) := by
  unfold decT
  simp only [h.h1, h.h2, h.h3]
theorem Dec1T.vals {b s1 s2 s3 : ByteArray} {e1 e2 e3 q n : Int} {L : List P1} (h : Dec1T b s1 s2 s3 e1 e2 e3 q n L) : (0 ≤ q ∧ q ≤ 4294967295) ∧ (0 ≤ n ∧ n < 65536) := by
  have a := take_val b 0 4
  have c := take_val s1 e1 2
  rw [show ((4 : Nat) : Int) = 4 from rfl, h.h1] at a
  rw [show ((2 : Nat) : Int) = 2 from rfl, h.h2] at c
  have a2 : q < 4294967296 := a.2
  have c2 : n < 65536 := c.2
  exact ⟨⟨a.1, by omega⟩, ⟨c.1, c2⟩⟩
theorem Dec1T.le {b s1 s2 s3 : ByteArray} {e1 e2 e3 q n : Int} {L : List P1} (h : Dec1T b s1 s2 s3 e1 e2 e3 q n L) : s1.size ≤ b.size ∧ s2.size ≤ b.size := by
  have a := take_len h.h1
  have c := take_len h.h2
  omega
/-- Where something went wrong, nothing is taken. -/
theorem Dec1T.zero {b s1 s2 s3 : ByteArray} {e1 e2 e3 q n : Int} {L : List P1} (h : Dec1T b s1 s2 s3 e1 e2 e3 q n L) (he : e2 ≠ 0) : n = 0 := by
  rcases Int.lt_or_eq_of_le h.vals.2.1 with h0 | h0
  · have : e2 = 0 := by
      have h2 := h.h2
      unfold takeT at h2
      split at h2
      · simp at h2; omega
      split at h2
      · simp at h2; omega
      split at h2
      · simp at h2; omega
      · simp only [Prod.mk.injEq] at h2; omega
    exact absurd this he
  · exact h0.symm
theorem podsT_fit : ∀ (n : Nat) (s : ByteArray) (e : Int), ∀ p ∈ (podsT n s e).2.2, p.Fit 4096
  | 0, _, _, p, hp => by simp [podsT] at hp
  | n + 1, s, e, p, hp => by
    rw [podsT] at hp
    rcases List.mem_cons.1 hp with h | h
    · obtain ⟨s1, s2, s3, s4, x1, x2, x3, e1, e2, e3, e4, v, hT⟩ := pod1T s e
      rw [h, podT_eq hT.h1 hT.h2 hT.h3 hT.h4]
      exact hT.fit
    · exact podsT_fit n _ _ p h
theorem podsT_len : ∀ (n : Nat) (s : ByteArray) (e : Int), (podsT n s e).2.2.length = n
  | 0, _, _ => rfl
  | n + 1, s, e => by rw [podsT, List.length_cons, podsT_len n]
/-- What is decoded: few pods, short texts. -/
theorem decT_fit (b : ByteArray) : (∀ p ∈ (decT b).2.2, p.Fit 4096) ∧ (decT b).2.2.length ≤ 1024 ∧ 0 ≤ (decT b).2.1 ∧ (decT b).2.1 ≤ 4294967295 := by
  obtain ⟨s1, s2, s3, e1, e2, e3, q, n, L, hD⟩ := dec1T b
  have hv := hD.vals
  rw [decT_eq hD]
  split
  · exact ⟨by simp, by simp, by simp, by simp⟩
  split
  · exact ⟨by simp, by simp, by simp, by simp⟩
  split
  · exact ⟨by simp, by simp, by simp, by simp⟩
  · rename_i h1 _ _
    have h3 := congrArg (fun x => x.2.2) hD.h3
    dsimp only at h3
    refine ⟨fun p hp => ?_, ?_, hv.1.1, hv.1.2⟩
    · exact podsT_fit n.toNat s2 e2 p (by rw [h3]; exact hp)
    · have := podsT_len n.toNat s2 e2
      rw [h3] at this
      rw [this]; omega
end Go.Proofs.Ytphjhlnjfcfdcaa
