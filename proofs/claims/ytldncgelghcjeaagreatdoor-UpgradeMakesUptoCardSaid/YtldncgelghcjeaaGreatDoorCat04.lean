/-
  What each call of a Taker of package pack answers, and what it leaves in the Taker: for every Taker behind a pointer whose text is of a length that Go allows; nothing else that was there turns.
  Files' names: ckone.File, and the document's answer.
  States of version 1: what is wrong with one, its bytes, the state of bytes. No call.
-/
import Derived.Test.YtldncgelghcjeaaGreatDoorRows
import Derived.Test.YtldncgelghcjeaaGreatDoorCat03
import Derived.Lib.UnsafeStr
import Derived.Lib.BufferWrite
import Derived.Lib.Walk
import Derived.Laws.BitsAllLaws
import Derived.Test.YtldncgelghcjeaaGreatDoorCat02
import Derived.BigGuardPart
import Derived.Test.YtldncgelghcjeaaGreatDoorCat01
set_option linter.unusedSimpArgs false
set_option linter.unusedVariables false
namespace Go.Proofs.YtldncgelghcjeaaGreatDoor.K
open Go.ChangeShapes Go.WideShapes Go.ChangeAt Go.RowKit
set_option maxRecDepth 100000
theorem size5 : (Tryz.prog.info? 5).map (·.size) = some 1 := by kernel_rfl
theorem cells5 : Tryz.prog.cellsOf 5 = 1 := by kernel_rfl
/-- The row behind the copy holds just the bytes of s. -/
theorem copied (s : ByteArray) (M : Array Value) (hM : M.size = s.size) : (M.toList.take 0 ++ Lib.byteCells s.data.toList ++ M.toList.drop (0 + s.size)).toArray = (Lib.byteCells s.data.toList).toArray := by
  rw [List.take_zero, List.nil_append, List.drop_of_length_le (by rw [Array.length_toList]; omega), List.append_nil]
theorem slite_clone (s : ByteArray) (w : World) (hs : s.size ≤ 281474976710656) :
    Calls Tryz.prog 136 #[.string s] w fun e w' => e = .returned (.string s) ∧ Fresh w w' := by
  by_cases h0 : s.size = 0
  · obtain rfl : s = ⟨#[]⟩ := ByteArray.ext (Array.eq_empty_of_size_eq_zero h0)
    clear h0
    go_enter Tryz.func136, Tryz.ntmps136
    go_wp2
    go_ret
    exact ⟨rfl, Fresh.refl _⟩
  · have hmk := fun W => run_make_row' (P := Tryz.prog) 98 5 (.int .u8 0) 1 Tryz.underlying98 info5 rfl .i64 .i64 s.size (by omega) (by omega) W
    have hMs : (madeCells #[Value.int .u8 0] s.size).size = s.size := by rw [size_madeCells]
    generalize madeCells #[Value.int .u8 0] s.size = M at hmk hMs
    have hcp := Lib.run_copy_row_string (P := Tryz.prog) (w.alloc (.cells M 5)) 98 9 3 5 w.heap.size 0 s.size s.size s M 5 Tryz.underlying98 size5 (heap_alloc_new w _) (Nat.le_refl _) (by omega)
    rw [copied s M hMs] at hcp
    obtain ⟨Y, hY⟩ : ∃ Y, Y = (Lib.byteCells s.data.toList).toArray := ⟨_, rfl⟩
    rw [← hY] at hcp
    have hYs : Y.size = s.size := by rw [hY, List.size_toArray, Lib.byteCells_length, ← Lib.size_eq]
    have hgY : ((w.alloc (.cells M 5)).setRow w.heap.size Y).heap[w.heap.size]? = some (.cells Y 5 (0, 0)) := setRow_heap _ _ M _ 5 (0, 0) (heap_alloc_new w _)
    have hus := Lib.run_unsafeString_row (P := Tryz.prog) ((w.alloc (.cells M 5)).setRow w.heap.size Y) 182 3 9 5 Tryz.underlying182 cells5 w.heap.size Y.size (by unfold World.shape?; rw [hgY]) s.data.toList
      (fun e => h0 (by rw [Lib.size_eq, e]; rfl)) (by rw [← Lib.size_eq]; omega) (by rw [← Lib.size_eq]; omega)
      (fun j x hx => Lib.cells_of_row hgY Y.size j _ (by rw [List.take_of_length_le (by rw [Array.length_toList]; exact Nat.le_refl _), hY]; simp [Lib.byteCells, hx]))
    rw [← Lib.size_eq] at hus
    clear hY hgY
    go_enter Tryz.func136, Tryz.ntmps136
    go_wp2
    go_ret
    have hb2 : Below w.heap.size (w.alloc (.cells M 5)) ((w.alloc (.cells M 5)).setRow w.heap.size Y) := ⟨rfl, rfl, rfl, by simp, fun k hk => setRow_other _ _ _ _ (by omega)⟩
    exact ⟨rfl, Lib.below_freeze (((Below.refl _ w).alloc (Nat.le_refl _) _).trans hb2) (p := ⟨w.heap.size, 0, none⟩) (Nat.le_refl _) _⟩
theorem clone_any (s : ByteArray) (w : World) (hs : s.size ≤ 281474976710656) :
    Calls Tryz.prog 99 #[.string s] w fun e w' => e = .returned (.string s) ∧ Fresh w w' := by
  go_enter Tryz.func99, Tryz.ntmps99
  go_wp2_with fail
  refine (slite_clone _ _ hs).mono ?_
  rintro e w' ⟨rfl, hg⟩
  go_wp2
  go_ret
  exact ⟨rfl, hg⟩
def numB (l : List UInt8) : Nat := l.foldl (fun v c => v * 256 + c.toNat) 0
theorem numB_snoc (l : List UInt8) (c : UInt8) : numB (l ++ [c]) = numB l * 256 + c.toNat := by
  simp [numB]
theorem numB_lt (l : List UInt8) : numB l < 256 ^ l.length := by
  suffices h : ∀ r : List UInt8, numB r.reverse < 256 ^ r.length by
    have := h l.reverse; simpa using this
  intro r
  induction r with
  | nil => simp [numB]
  | cons c r ih =>
    rw [List.reverse_cons, numB_snoc, List.length_cons, Nat.pow_succ]
    have := c.toNat_lt
    omega
/-- Block b is a Taker: what is left, and its error. -/
def atT (w : World) (b : Nat) (s : ByteArray) (e : Int) : Prop := w.heap[b]? = some (.cells #[.string s, .int .i64 e] 138 (0, 0))
theorem atT_facts {w : World} {b : Nat} {s : ByteArray} {e : Int} (h : atT w b s e) :
    w.cell? ⟨b, 0, none⟩ = some (.string s) ∧ w.cell? ⟨b, 1, none⟩ = some (.int .i64 e) ∧ w.frozen? ⟨b, 0, none⟩ = false ∧ w.frozen? ⟨b, 1, none⟩ = false := by
  unfold atT at h
  simp [World.cell?, World.frozen?, h]
theorem pow_le8 (k : Nat) (h : k ≤ 7) : 256 ^ k ≤ 72057594037927936 := by
  have : 256 ^ k ≤ 256 ^ 7 := Nat.pow_le_pow_right (by omega) h
  omega
theorem or_step (x : Nat) (c : UInt8) (hx : x < 72057594037927936) : bits .or .u64 (IntKind.u64.wrap ((x : Int) * 256)) (IntKind.u64.wrap (c.toNat : Int)) = ((x * 256 + c.toNat : Nat) : Int) := by
  have hc := c.toNat_lt
  have e1 : IntKind.u64.wrap ((x : Int) * 256) = ((x * 256 : Nat) : Int) := by
    simp [IntKind.wrap, IntKind.signed, IntKind.bits]; omega
  have e2 : IntKind.u64.wrap (c.toNat : Int) = ((c.toNat : Nat) : Int) := by
    simp [IntKind.wrap, IntKind.signed, IntKind.bits]; omega
  rw [e1, e2, u64_or_nat _ _ (by omega) (by omega), Nat.mul_comm x 256]
  congr 1
  exact (Nat.two_pow_add_eq_or_of_lt (i := 8) hc x).symm
set_option maxHeartbeats 400000 in
theorem take_yes (n : Nat) (b : Nat) (s : ByteArray) (w : World) (h : okN n = true) (hn8 : n ≤ 8) (hs : s.size ≤ maxLen) (hsz : n ≤ s.size) (ht : atT w b s 0) :
    Calls Tryz.prog 59 #[.pointer (some ⟨b, 0, none⟩), .int .i64 n] w fun e w' => e = .returned (.int .u64 (numB (s.data.toList.take n))) ∧ w' = w.setCell ⟨b, 0, none⟩ (.string (s.extract n s.size)) := by
  unfold maxLen at hs
  obtain ⟨hc0, hc1, hf0, hf1⟩ := atT_facts ht
  have H := Lib.hid h; clear h
  have hd : decide (s.size < n) = false := by simpa using hsz
  go_enter Tryz.func59, Tryz.ntmps59
  go_wp2_with (go_at_call 98; refine (may_yes _ _ H.out).mono ?_; rintro e w' ⟨rfl, rfl⟩)
  go_loop [5, 32] (fun x i => ∃ k : Nat, k ≤ n ∧ i = .int .i64 k ∧ x = .int .u64 (numB (s.data.toList.take k))) (fun _ i => n - (intOf i).toNat)
  case atStart => exact ⟨0, Nat.zero_le _, rfl, rfl⟩
  case round =>
    obtain ⟨k, hk, rfl, rfl⟩ := hrel
    by_cases hlt : k < n
    · have hks : k < s.size := by omega
      have HS : Hid (bits .or .u64 (IntKind.u64.wrap ((numB (s.data.toList.take k) : Int) * 256)) (IntKind.u64.wrap (s[k].toNat : Int)) = ((numB (s.data.toList.take (k + 1)) : Nat) : Int)) := by
        rw [take_snoc s k hks, numB_snoc]
        refine or_step _ _ ?_
        have hb := numB_lt (s.data.toList.take k)
        have hl : (s.data.toList.take k).length ≤ k := List.length_take_le _ _
        have := pow_le8 (s.data.toList.take k).length (by omega)
        omega
      go_wp2
      go_round
      case rel => exact ⟨k + 1, by omega, by go_num, by rw [HS.out]⟩
      case measure => simp [intOf]; omega
    · obtain rfl : k = n := by omega
      go_wp2
      go_ret
      exact ⟨rfl, rfl⟩

/-! ### What the calls come to -/
/-- What is left, the error, the number. -/
def takeT (s : ByteArray) (e n : Int) : ByteArray × Int × Int :=
  if e ≠ 0 then (s, e, 0) else if okN n = false then (s, 7, 0) else if s.size < n.toNat then (s, 1, 0) else (s.extract n.toNat s.size, 0, (numB (s.data.toList.take n.toNat) : Int))
def flagT (s : ByteArray) (e : Int) : ByteArray × Int × Bool :=
  if 1 < (takeT s e 1).2.2 then (s, 6, false) else ((takeT s e 1).1, (takeT s e 1).2.1, (takeT s e 1).2.2 == 1)
def textT (s : ByteArray) (e : Int) : ByteArray × Int × ByteArray :=
  if (takeT s e 2).2.1 ≠ 0 then ((takeT s e 2).1, (takeT s e 2).2.1, ⟨#[]⟩)
  else if 4096 < (takeT s e 2).2.2 then (s, 2, ⟨#[]⟩)
  else if ((takeT s e 2).1.size : Int) < (takeT s e 2).2.2 then (s, 1, ⟨#[]⟩)
  else ((takeT s e 2).1.extract (takeT s e 2).2.2.toNat (takeT s e 2).1.size, 0, (takeT s e 2).1.extract 0 (takeT s e 2).2.2.toNat)
def endT (s : ByteArray) (e : Int) : Int := if e = 0 ∧ s.size ≠ 0 then 6 else e

/-- Block b has come to be a Taker of s and e; of all else that was there nothing has turned. -/
structure Moved (b : Nat) (w w' : World) (s : ByteArray) (e : Int) : Prop where
  isT : atT w' b s e
  os : w'.os = w.os
  tape : w'.tape = w.tape
  output : w'.output = w.output
  size : w.heap.size ≤ w'.heap.size
  block : ∀ k, k < w.heap.size → k ≠ b → w'.heap[k]? = w.heap[k]?
theorem Moved.refl {b : Nat} {w : World} {s : ByteArray} {e : Int} (h : atT w b s e) : Moved b w w s e := ⟨h, rfl, rfl, rfl, Nat.le_refl _, fun _ _ _ => rfl⟩
theorem Moved.trans {b : Nat} {w w1 w2 : World} {s s2 : ByteArray} {e e2 : Int} (h : Moved b w w1 s e) (k : Moved b w1 w2 s2 e2) : Moved b w w2 s2 e2 :=
  ⟨k.isT, k.os.trans h.os, k.tape.trans h.tape, k.output.trans h.output, Nat.le_trans h.size k.size, fun i hi hb => (k.block i (Nat.lt_of_lt_of_le hi h.size) hb).trans (h.block i hi hb)⟩
theorem Moved.fresh {b : Nat} {w w1 w2 : World} {s : ByteArray} {e : Int} (h : Moved b w w1 s e) (hb : b < w1.heap.size) (k : Fresh w1 w2) : Moved b w w2 s e :=
  ⟨(k.block b hb).trans h.isT, k.os.trans h.os, k.tape.trans h.tape, k.output.trans h.output, Nat.le_trans h.size k.size, fun i hi hn => (k.block i (Nat.lt_of_lt_of_le hi h.size)).trans (h.block i hi hn)⟩
theorem atT_lt {w : World} {b : Nat} {s : ByteArray} {e : Int} (h : atT w b s e) : b < w.heap.size := by
  unfold atT at h
  exact (Array.getElem?_eq_some_iff.1 h).1
theorem Moved.rest {b : Nat} {w w1 : World} {s : ByteArray} {e : Int} (h : Moved b w w1 s e) (s' : ByteArray) : Moved b w (w1.setCell ⟨b, 0, none⟩ (.string s')) s' e := by
  refine ⟨?_, h.os, h.tape, h.output, by simpa [World.setCell] using h.size, fun k hk hn => ?_⟩
  · have h1 := h.isT
    unfold atT at h1 ⊢
    simp [World.setCell, Array.getElem?_modify, h1]
  · rw [Below.heap_setCell _ _ _ _ hn]; exact h.block k hk hn
theorem Moved.error {b : Nat} {w w1 : World} {s : ByteArray} {e : Int} (h : Moved b w w1 s e) (e' : Int) : Moved b w (w1.setCell ⟨b, 1, none⟩ (.int .i64 e')) s e' := by
  refine ⟨?_, h.os, h.tape, h.output, by simpa [World.setCell] using h.size, fun k hk hn => ?_⟩
  · have h1 := h.isT
    unfold atT at h1 ⊢
    simp [World.setCell, Array.getElem?_modify, h1]
  · rw [Below.heap_setCell _ _ _ _ hn]; exact h.block k hk hn

theorem take_any (b : Nat) (s : ByteArray) (e n : Int) (w : World) (hs : s.size ≤ maxLen) (ht : atT w b s e) :
    Calls Tryz.prog 59 #[.pointer (some ⟨b, 0, none⟩), .int .i64 n] w fun r w' => r = .returned (.int .u64 (takeT s e n).2.2) ∧ Moved b w w' (takeT s e n).1 (takeT s e n).2.1 := by
  obtain ⟨hc0, hc1, hf0, hf1⟩ := atT_facts ht
  have hm := Moved.refl ht
  have hs' := hs
  unfold maxLen at hs'
  by_cases he : e = 0
  · subst he
    by_cases hn : okN n = true
    · by_cases hsz : s.size < n.toNat
      · have ht' : takeT s 0 n = (s, 1, 0) := by simp [takeT, hn, hsz]
        rw [ht']
        have H := Lib.hid hn
        obtain ⟨m, hm', rfl⟩ : ∃ m : Nat, m ≤ 8 ∧ n = m := ⟨n.toNat, by rcases okN_cases hn with rfl | rfl | rfl | rfl <;> exact ⟨by decide, rfl⟩⟩
        have hd : decide (s.size < m) = true := by simpa using hsz
        clear ht' hn ht
        go_enter Tryz.func59, Tryz.ntmps59
        go_wp2_with (go_at_call 98; refine (may_yes _ _ H.out).mono ?_; rintro e w' ⟨rfl, rfl⟩)
        go_ret
        exact ⟨rfl, hm.error 1⟩
      · have ht' : takeT s 0 n = (s.extract n.toNat s.size, 0, (numB (s.data.toList.take n.toNat) : Int)) := by simp [takeT, hn, hsz]
        rw [ht']
        obtain ⟨m, hm', rfl⟩ : ∃ m : Nat, m ≤ 8 ∧ n = m := ⟨n.toNat, by rcases okN_cases hn with rfl | rfl | rfl | rfl <;> exact ⟨by decide, rfl⟩⟩
        refine (take_yes m b s w hn hm' hs (by simpa using hsz) ht).mono ?_
        rintro r w' ⟨rfl, rfl⟩
        exact ⟨rfl, hm.rest _⟩
    · have hn' : okN n = false := by simpa using hn
      have ht' : takeT s 0 n = (s, 7, 0) := by simp [takeT, hn']
      rw [ht']
      have H := Lib.hid hn'
      clear ht' hn hn' ht
      go_enter Tryz.func59, Tryz.ntmps59
      go_wp2_with (go_at_call 98; refine (may_no _ _ H.out).mono ?_; rintro e w' ⟨rfl, rfl⟩)
      go_ret
      exact ⟨rfl, hm.error 7⟩
  · have ht' : takeT s e n = (s, e, 0) := by simp [takeT, he]
    rw [ht']
    have hne : (e != 0) = true := by simpa using he
    clear ht' ht he
    go_enter Tryz.func59, Tryz.ntmps59
    go_wp2
    go_ret
    exact ⟨rfl, hm⟩

theorem extract_size_le (s : ByteArray) (i j : Nat) : (s.extract i j).size ≤ s.size := by
  simp [ByteArray.size_extract]; omega
theorem take_len {s : ByteArray} {e n : Int} {s1 : ByteArray} {e1 v : Int} (h : takeT s e n = (s1, e1, v)) : s1.size ≤ s.size := by
  unfold takeT at h
  split at h
  · simp at h; rw [← h.1]; exact Nat.le_refl _
  split at h
  · simp at h; rw [← h.1]; exact Nat.le_refl _
  split at h
  · simp at h; rw [← h.1]; exact Nat.le_refl _
  · simp only [Prod.mk.injEq] at h; rw [← h.1]; exact extract_size_le _ _ _
theorem take_val (s : ByteArray) (e : Int) (m : Nat) : 0 ≤ (takeT s e m).2.2 ∧ (takeT s e m).2.2 < 256 ^ m := by
  have hp : (0 : Int) < 256 ^ m := Int.pow_pos (by omega)
  unfold takeT
  split
  · exact ⟨Int.le_refl _, hp⟩
  split
  · exact ⟨Int.le_refl _, hp⟩
  split
  · exact ⟨Int.le_refl _, hp⟩
  · refine ⟨Int.natCast_nonneg _, ?_⟩
    have h := numB_lt (s.data.toList.take m)
    have hl : (s.data.toList.take m).length ≤ m := List.length_take_le _ _
    have h2 : 256 ^ (s.data.toList.take m).length ≤ 256 ^ m := Nat.pow_le_pow_right (by omega) hl
    have h3 : numB (s.data.toList.take m) < 256 ^ m := Nat.lt_of_lt_of_le h h2
    simp only [Int.toNat_natCast]
    have h4 : ((numB (s.data.toList.take m) : Nat) : Int) < ((256 ^ m : Nat) : Int) := Int.ofNat_lt.2 h3
    rw [Int.natCast_pow] at h4
    exact h4
theorem take_at {b : Nat} {s : ByteArray} {e n : Int} {s1 : ByteArray} {e1 v : Int} (w : World) (hs : s.size ≤ maxLen) (ht : atT w b s e) (h : takeT s e n = (s1, e1, v)) :
    Calls Tryz.prog 59 #[.pointer (some ⟨b, 0, none⟩), .int .i64 n] w fun r w' => r = .returned (.int .u64 v) ∧ Moved b w w' s1 e1 := by
  have := take_any b s e n w hs ht
  rw [h] at this
  exact this

theorem tflag_any (b : Nat) (s : ByteArray) (e : Int) (w : World) (hs : s.size ≤ maxLen) (ht : atT w b s e) :
    Calls Tryz.prog 100 #[.pointer (some ⟨b, 0, none⟩)] w fun r w' => r = .returned (.bool (flagT s e).2.2) ∧ Moved b w w' (flagT s e).1 (flagT s e).2.1 := by
  obtain ⟨hc0, hc1, hf0, hf1⟩ := atT_facts ht
  have hv := take_val s e 1
  obtain ⟨s1, e1, v, hT⟩ : ∃ s1 e1 v, takeT s e 1 = (s1, e1, v) := ⟨_, _, _, rfl⟩
  rw [show ((1 : Nat) : Int) = 1 from rfl, hT] at hv
  simp only at hv
  have hF : flagT s e = if 1 < v then (s, 6, false) else (s1, e1, v == 1) := by simp only [flagT, hT]
  have H := Lib.hid ht
  have HT := Lib.hid hT
  clear ht hT
  by_cases h1 : 1 < v
  · rw [hF, if_pos h1]
    clear hF
    go_enter Tryz.func100, Tryz.ntmps100
    go_wp2_with fail
    refine (take_at _ hs H.out HT.out).mono ?_
    rintro r w' ⟨rfl, hm⟩
    obtain ⟨hd0, hd1, hg0, hg1⟩ := atT_facts hm.isT
    go_wp2
    go_ret
    exact ⟨rfl, (hm.rest s).error 6⟩
  · rw [hF, if_neg h1]
    clear hF
    go_enter Tryz.func100, Tryz.ntmps100
    go_wp2_with fail
    refine (take_at _ hs H.out HT.out).mono ?_
    rintro r w' ⟨rfl, hm⟩
    go_wp2
    go_ret
    exact ⟨rfl, hm⟩
theorem wrap64_small {v : Int} (h0 : 0 ≤ v) (h1 : v < 65536) : wrap64 v = v := by
  unfold wrap64; omega
set_option maxRecDepth 100000 in
set_option maxHeartbeats 1000000 in
theorem ttext_any (b : Nat) (s : ByteArray) (e : Int) (w : World) (hs : s.size ≤ maxLen) (ht : atT w b s e) :
    Calls Tryz.prog 62 #[.pointer (some ⟨b, 0, none⟩)] w fun r w' => r = .returned (.string (textT s e).2.2) ∧ Moved b w w' (textT s e).1 (textT s e).2.1 := by
  obtain ⟨hc0, hc1, hf0, hf1⟩ := atT_facts ht
  have hv := take_val s e 2
  obtain ⟨s1, e1, v, hT⟩ : ∃ s1 e1 v, takeT s e 2 = (s1, e1, v) := ⟨_, _, _, rfl⟩
  rw [show ((2 : Nat) : Int) = 2 from rfl, hT] at hv
  obtain ⟨hv0, hv1⟩ : 0 ≤ v ∧ v < 65536 := hv
  have hl := take_len hT
  have hF : textT s e = if e1 ≠ 0 then (s1, e1, ⟨#[]⟩) else if 4096 < v then (s, 2, ⟨#[]⟩) else if (s1.size : Int) < v then (s, 1, ⟨#[]⟩) else (s1.extract v.toNat s1.size, 0, s1.extract 0 v.toNat) := by simp only [textT, hT]
  have H := Lib.hid ht
  have HT := Lib.hid hT
  have hs' := hs
  unfold maxLen at hs'
  obtain ⟨n, rfl⟩ := Int.eq_ofNat_of_zero_le hv0
  clear ht hT
  by_cases h1 : e1 = 0
  · subst h1
    rw [if_neg (by simp)] at hF
    by_cases h2 : 4096 < (n : Int)
    · rw [hF, if_pos h2]
      clear hF
      go_enter Tryz.func62, Tryz.ntmps62
      go_wp2_with fail
      refine (take_at _ hs H.out HT.out).mono ?_
      rintro r w' ⟨rfl, hm⟩
      obtain ⟨hd0, hd1, hg0, hg1⟩ := atT_facts hm.isT
      go_wp2
      go_ret
      exact ⟨rfl, (hm.rest s).error 2⟩
    · rw [if_neg h2] at hF
      have h2' : n ≤ 4096 := by omega
      clear hv0 hv1 h2
      by_cases h3 : (s1.size : Int) < n
      · rw [hF, if_pos h3]
        have h3' : s1.size < n := by omega
        clear hF h3
        go_enter Tryz.func62, Tryz.ntmps62
        go_wp2_with fail
        refine (take_at _ hs H.out HT.out).mono ?_
        rintro r w' ⟨rfl, hm⟩
        obtain ⟨hd0, hd1, hg0, hg1⟩ := atT_facts hm.isT
        go_wp2
        go_ret
        exact ⟨rfl, (hm.rest s).error 1⟩
      · rw [hF, if_neg h3]
        clear hF
        have hle : n ≤ s1.size := by omega
        clear h3
        have hcl : (s1.extract 0 n).size ≤ 281474976710656 := by simp [ByteArray.size_extract]; omega
        go_enter Tryz.func62, Tryz.ntmps62
        go_wp2_with fail
        refine (take_at _ hs H.out HT.out).mono ?_
        rintro r w1 ⟨rfl, hm⟩
        obtain ⟨hd0, hd1, hg0, hg1⟩ := atT_facts hm.isT
        go_wp2_with fail
        refine (clone_any _ _ hcl).mono ?_
        rintro r w2 ⟨rfl, hg⟩
        have hm2 := hm.fresh (atT_lt hm.isT) hg
        clear hd0 hd1 hg0 hg1
        obtain ⟨hd0, hd1, hg0, hg1⟩ := atT_facts hm2.isT
        go_wp2
        go_ret
        exact ⟨rfl, hm2.rest _⟩
  · rw [hF, if_pos h1]
    clear hF
    have hne : (e1 != 0) = true := by simpa using h1
    go_enter Tryz.func62, Tryz.ntmps62
    go_wp2_with fail
    refine (take_at _ hs H.out HT.out).mono ?_
    rintro r w' ⟨rfl, hm⟩
    obtain ⟨hd0, hd1, hg0, hg1⟩ := atT_facts hm.isT
    go_wp2
    go_ret
    exact ⟨rfl, hm⟩
theorem ttext_at {b : Nat} {s s1 : ByteArray} {e e1 : Int} {x : ByteArray} (w : World) (hs : s.size ≤ maxLen) (ht : atT w b s e) (h : textT s e = (s1, e1, x)) :
    Calls Tryz.prog 62 #[.pointer (some ⟨b, 0, none⟩)] w fun r w' => r = .returned (.string x) ∧ Moved b w w' s1 e1 := by
  have := ttext_any b s e w hs ht
  rw [h] at this
  exact this
theorem tflag_at {b : Nat} {s s1 : ByteArray} {e e1 : Int} {x : Bool} (w : World) (hs : s.size ≤ maxLen) (ht : atT w b s e) (h : flagT s e = (s1, e1, x)) :
    Calls Tryz.prog 100 #[.pointer (some ⟨b, 0, none⟩)] w fun r w' => r = .returned (.bool x) ∧ Moved b w w' s1 e1 := by
  have := tflag_any b s e w hs ht
  rw [h] at this
  exact this
theorem toList_some {s : ByteArray} (h : s.size ≠ 0) : s.toList.isEmpty = false := by
  rw [Lib.toList_data, List.isEmpty_eq_false_iff]
  exact fun e => h (by rw [Lib.size_eq, e]; rfl)
theorem tend_any (b : Nat) (s : ByteArray) (e : Int) (w : World) (ht : atT w b s e) :
    Calls Tryz.prog 64 #[.pointer (some ⟨b, 0, none⟩)] w fun r w' => r = .returned (.int .i64 (endT s e)) ∧ w = w' := by
  obtain ⟨hc0, hc1, hf0, hf1⟩ := atT_facts ht
  clear ht
  by_cases h : e = 0
  · subst h
    by_cases h2 : s.size = 0
    · obtain rfl : s = ⟨#[]⟩ := ByteArray.ext (Array.eq_empty_of_size_eq_zero h2)
      clear h2
      go_enter Tryz.func64, Tryz.ntmps64
      go_wp2
      go_ret
      exact ⟨rfl, rfl⟩
    · have HF : Hid (endT s 0 = 6) := by unfold endT; rw [if_pos ⟨rfl, h2⟩]; exact rfl
      have hb : s.toList.isEmpty = false := toList_some h2
      go_enter Tryz.func64, Tryz.ntmps64
      go_wp2
      go_ret
      exact ⟨by rw [HF.out]; rfl, rfl⟩
  · have HF : Hid (endT s e = e) := by unfold endT; rw [if_neg (fun k => h k.1)]; exact rfl
    have hne : (e == 0) = false := by simpa using h
    go_enter Tryz.func64, Tryz.ntmps64
    go_wp2
    go_ret
    exact ⟨by rw [HF.out]; rfl, rfl⟩
end Go.Proofs.YtldncgelghcjeaaGreatDoor.K
namespace Go.Proofs.YtldncgelghcjeaaGreatDoor.K
open Go.ChangeShapes Go.WideShapes Go.ChangeAt Go.RowKit
theorem empty_file {s : ByteArray} (h : s.size = 0) : s = ⟨#[]⟩ := ByteArray.ext (Array.eq_empty_of_size_eq_zero h)

def inFI (n : Int) : Bool := decide (97 ≤ n ∧ n ≤ 122) || decide (48 ≤ n ∧ n ≤ 57) || n == 46 || n == 95 || n == 45 || n == 47
def fileB (s : ByteArray) : Bool := decide (1 ≤ s.size ∧ s.size ≤ 64) && s.data.toList.all fun c => inFI c.toNat
theorem fileB_size {s : ByteArray} (h : fileB s = true) : 1 ≤ s.size ∧ s.size ≤ 64 := by
  unfold fileB at h
  simp only [Bool.and_eq_true, decide_eq_true_eq] at h
  exact h.1
theorem fileB_short {s : ByteArray} (h : s.size < 1 ∨ 64 < s.size) : fileB s = false := by
  unfold fileB
  rw [decide_eq_false (by omega)]; rfl
theorem fileB_bad {s : ByteArray} {k : Nat} (hk : k < s.size) (h : inFI s[k].toNat = false) : fileB s = false := by
  cases e : fileB s with
  | false => rfl
  | true =>
    unfold fileB at e
    simp only [Bool.and_eq_true, List.all_eq_true] at e
    have := e.2 s[k] (by
      have : s[k] = s.data.toList[k]'(by simpa using hk) := rfl
      rw [this]; exact List.getElem_mem _)
    rw [h] at this; cases this
theorem fileB_good {s : ByteArray} (h1 : 1 ≤ s.size) (h2 : s.size ≤ 64) (h : ∀ j (hj : j < s.size), inFI s[j].toNat = true) : fileB s = true := by
  unfold fileB
  rw [decide_eq_true ⟨h1, h2⟩, Bool.true_and, List.all_eq_true]
  intro c hc
  obtain ⟨j, hj, rfl⟩ := List.mem_iff_getElem.1 hc
  exact h j (by simpa using hj)

theorem inf_no_cases {n : Int} (h : inFI n = false) : ¬ (97 ≤ n ∧ n ≤ 122) ∧ ¬ (48 ≤ n ∧ n ≤ 57) ∧ n ≠ 46 ∧ n ≠ 95 ∧ n ≠ 45 ∧ n ≠ 47 := by
  simp [inFI] at h; omega
theorem inf_yes_cases {n : Int} (h : inFI n = true) : (97 ≤ n ∧ n ≤ 122) ∨ (48 ≤ n ∧ n ≤ 57) ∨ n = 46 ∨ n = 95 ∨ n = 45 ∨ n = 47 := by
  simp [inFI] at h; omega
set_option maxHeartbeats 400000 in
theorem inf_yes (n : Int) (w : World) (h : inFI n = true) : Calls Tryz.prog 132 #[.int .u8 n] w fun e w' => e = .returned (.bool true) ∧ w = w' := by
  rcases inf_yes_cases h with ⟨a1, a2⟩ | ⟨a1, a2⟩ | rfl | rfl | rfl | rfl
  all_goals
    clear h
    go_enter Tryz.func132, Tryz.ntmps132
    go_wp2
    go_ret
    exact ⟨rfl, rfl⟩
set_option maxHeartbeats 400000 in
theorem inf_no (n : Int) (w : World) (h : inFI n = false) : Calls Tryz.prog 132 #[.int .u8 n] w fun e w' => e = .returned (.bool false) ∧ w = w' := by
  obtain ⟨c1, c2, c3, c4, c5, c6⟩ := inf_no_cases h
  have e3 : (n == 46) = false := by simpa using c3
  have e4 : (n == 95) = false := by simpa using c4
  have e5 : (n == 45) = false := by simpa using c5
  have e6 : (n == 47) = false := by simpa using c6
  clear h c3 c4 c5 c6
  by_cases d1 : 97 ≤ n
  · have d2 : ¬ n ≤ 122 := by omega
    have d3 : 48 ≤ n := by omega
    have d4 : ¬ n ≤ 57 := by omega
    clear c1 c2
    go_enter Tryz.func132, Tryz.ntmps132
    go_wp2
    go_ret
    exact ⟨rfl, rfl⟩
  by_cases d3 : 48 ≤ n
  · have d4 : ¬ n ≤ 57 := by omega
    clear c1 c2
    go_enter Tryz.func132, Tryz.ntmps132
    go_wp2
    go_ret
    exact ⟨rfl, rfl⟩
  · clear c1 c2
    go_enter Tryz.func132, Tryz.ntmps132
    go_wp2
    go_ret
    exact ⟨rfl, rfl⟩

def GoodF (s : ByteArray) (k : Nat) : Prop := ∀ j (hj : j < s.size), j < k → inFI s[j].toNat = true
set_option maxHeartbeats 400000 in
theorem file_any (s : ByteArray) (w : World) (hs : s.size ≤ maxLen) : Calls Tryz.prog 95 #[.string s] w fun e w' => e = .returned (.bool (fileB s)) ∧ w = w' := by
  unfold maxLen at hs
  by_cases h1 : s.size < 1
  · have H := Lib.hid (fileB_short (.inl h1))
    obtain rfl : s = ⟨#[]⟩ := ByteArray.ext (Array.eq_empty_of_size_eq_zero (by change s.size = 0; omega))
    clear h1 hs
    go_enter Tryz.func95, Tryz.ntmps95
    go_wp2
    go_ret
    exact ⟨by rw [H.out]; rfl, rfl⟩
  by_cases h2 : 64 < s.size
  · have H := Lib.hid (fileB_short (.inr h2))
    go_enter Tryz.func95, Tryz.ntmps95
    go_wp2
    go_ret
    exact ⟨by rw [H.out]; rfl, rfl⟩
  have h3 : 1 ≤ s.size := by omega
  have h4 : s.size ≤ 64 := by omega
  go_enter Tryz.func95, Tryz.ntmps95
  go_wp2
  go_loop [14] (fun i => ∃ k : Nat, k ≤ s.size ∧ i = .int .i64 k ∧ GoodF s k) (fun i => s.size - (intOf i).toNat)
  case atStart => exact ⟨0, Nat.zero_le _, rfl, fun j _ hj => absurd hj (Nat.not_lt_zero _)⟩
  case round =>
    obtain ⟨k, hk, rfl, hG⟩ := hrel
    by_cases hlt : k < s.size
    · cases hm : inFI s[k].toNat with
      | false =>
        have H := Lib.hid (fileB_bad hlt hm)
        have HM := Lib.hid hm
        clear hm
        go_wp2_with (go_at_call 132; refine (inf_no _ _ HM.out).mono ?_; rintro e w' ⟨rfl, rfl⟩)
        go_ret
        exact ⟨by rw [H.out]; rfl, rfl⟩
      | true =>
        have HM := Lib.hid hm
        have HG : Hid (GoodF s (k + 1)) := fun j hj hjk => by
          by_cases e : j = k
          · subst e; exact HM.out
          · exact hG j hj (by omega)
        clear hm hG
        go_wp2_with (go_at_call 132; refine (inf_yes _ _ HM.out).mono ?_; rintro e w' ⟨rfl, rfl⟩)
        go_round
        case rel => exact ⟨k + 1, by omega, by go_num, HG.out⟩
        case measure => simp [intOf]; omega
    · have H : Hid (fileB s = true) := fileB_good (by omega) (by omega) (fun j hj => hG j hj (by omega))
      clear hG
      go_wp2
      go_ret
      exact ⟨by rw [H.out]; rfl, rfl⟩
set_option maxRecDepth 100000 in
set_option maxHeartbeats 1000000 in
theorem rfile_any (s : ByteArray) (w : World) (hs : s.size ≤ maxLen) : Calls Tryz.prog 43 #[.string s] w fun e w' => e = .returned (.bool (fileB s)) ∧ w = w' := by
  unfold maxLen at hs
  by_cases h1 : s.size < 1
  · have H := Lib.hid (fileB_short (.inl h1))
    obtain rfl : s = ⟨#[]⟩ := empty_file (by omega)
    clear h1 hs
    go_enter Tryz.func43, Tryz.ntmps43
    go_wp2
    go_ret
    exact ⟨by rw [H.out]; rfl, rfl⟩
  by_cases h2 : 64 < s.size
  · have H := Lib.hid (fileB_short (.inr h2))
    have h3 : (64 : Int) < (s.size : Int) := by omega
    have h4 : ¬ (s.size : Int) < 1 := by omega
    clear h1 h2
    go_enter Tryz.func43, Tryz.ntmps43
    go_wp2
    all_goals try (exfalso; omega)
    go_ret
    exact ⟨by rw [H.out]; rfl, rfl⟩
  have h3 : 1 ≤ s.size := by omega
  have h4 : s.size ≤ 64 := by omega
  clear h1 h2
  have g1 : ¬ (s.size : Int) < 1 := by omega
  have g2 : ¬ (64 : Int) < (s.size : Int) := by omega
  go_enter Tryz.func43, Tryz.ntmps43
  go_wp2
  go_loop [3] (fun i => ∃ k : Nat, k ≤ s.size ∧ i = .int .i64 k ∧ GoodF s k) (fun i => s.size - (intOf i).toNat)
  case atStart => exact ⟨0, Nat.zero_le _, rfl, fun j _ hj => absurd hj (Nat.not_lt_zero _)⟩
  case round =>
    obtain ⟨k, hk, rfl, hG⟩ := hrel
    by_cases hlt : k < s.size
    · have hc : 0 ≤ (s[k].toNat : Int) ∧ (s[k].toNat : Int) ≤ 255 := by have := s[k].toNat_lt; omega
      cases hm : inFI s[k].toNat with
      | false =>
        have H := Lib.hid (fileB_bad hlt hm)
        obtain ⟨c1, c2, c3, c4, c5, c6⟩ := inf_no_cases hm
        have e3 : ((s[k].toNat : Int) == 46) = false := by simpa using c3
        have e4 : ((s[k].toNat : Int) == 95) = false := by simpa using c4
        have e5 : ((s[k].toNat : Int) == 45) = false := by simpa using c5
        have e6 : ((s[k].toNat : Int) == 47) = false := by simpa using c6
        clear hm hG c3 c4 c5 c6
        by_cases d1 : 97 ≤ (s[k].toNat : Int)
        · have d2 : ¬ (s[k].toNat : Int) ≤ 122 := by omega
          have d3 : 48 ≤ (s[k].toNat : Int) := by omega
          have d4 : ¬ (s[k].toNat : Int) ≤ 57 := by omega
          clear c1 c2
          go_wp2
          go_ret
          exact ⟨by rw [H.out]; rfl, rfl⟩
        by_cases d3 : 48 ≤ (s[k].toNat : Int)
        · have d4 : ¬ (s[k].toNat : Int) ≤ 57 := by omega
          clear c1 c2
          go_wp2
          go_ret
          exact ⟨by rw [H.out]; rfl, rfl⟩
        · clear c1 c2
          go_wp2
          go_ret
          exact ⟨by rw [H.out]; rfl, rfl⟩
      | true =>
        have HM := Lib.hid hm
        have HG : Hid (GoodF s (k + 1)) := fun j hj hjk => by
          by_cases e : j = k
          · subst e; exact HM.out
          · exact hG j hj (by omega)
        clear hG
        have hcs := inf_yes_cases hm
        clear hm
        by_cases d1 : 97 ≤ (s[k].toNat : Int)
        · have d2 : (s[k].toNat : Int) ≤ 122 := by omega
          clear hcs
          go_wp2
          go_round
          case rel => exact ⟨k + 1, by omega, by go_num, HG.out⟩
          case measure => simp [intOf]; omega
        by_cases d3 : 48 ≤ (s[k].toNat : Int)
        · by_cases d4 : (s[k].toNat : Int) ≤ 57
          · clear hcs
            go_wp2
            go_round
            case rel => exact ⟨k + 1, by omega, by go_num, HG.out⟩
            case measure => simp [intOf]; omega
          · have e3 : ((s[k].toNat : Int) == 46) = false := by simp; omega
            have e4 : ((s[k].toNat : Int) == 95) = true := by simp; omega
            clear hcs
            go_wp2
            go_round
            case rel => exact ⟨k + 1, by omega, by go_num, HG.out⟩
            case measure => simp [intOf]; omega
        · have e4 : ((s[k].toNat : Int) == 95) = false := by simp; omega
          by_cases f3 : (s[k].toNat : Int) = 46
          · have e3 : ((s[k].toNat : Int) == 46) = true := by simpa using f3
            clear hcs f3
            go_wp2
            go_round
            case rel => exact ⟨k + 1, by omega, by go_num, HG.out⟩
            case measure => simp [intOf]; omega
          · have e3 : ((s[k].toNat : Int) == 46) = false := by simpa using f3
            by_cases f5 : (s[k].toNat : Int) = 45
            · have e5 : ((s[k].toNat : Int) == 45) = true := by simpa using f5
              clear hcs f3 f5
              go_wp2
              go_round
              case rel => exact ⟨k + 1, by omega, by go_num, HG.out⟩
              case measure => simp [intOf]; omega
            · have e5 : ((s[k].toNat : Int) == 45) = false := by simpa using f5
              have e6 : ((s[k].toNat : Int) == 47) = true := by simp; omega
              clear hcs f3 f5
              go_wp2
              go_round
              case rel => exact ⟨k + 1, by omega, by go_num, HG.out⟩
              case measure => simp [intOf]; omega
    · have H : Hid (fileB s = true) := fileB_good (by omega) (by omega) (fun j hj => hG j hj (by omega))
      clear hG
      go_wp2
      go_ret
      exact ⟨by rw [H.out]; rfl, rfl⟩
end Go.Proofs.YtldncgelghcjeaaGreatDoor.K
namespace Go.Proofs.YtldncgelghcjeaaGreatDoor.K
open Go.ChangeShapes Go.WideShapes Go.ChangeAt Go.RowKit

/-! ### texts, compared -/
def leS (a b : ByteArray) : Bool := Op.bytesLess a.toList b.toList || a.toList == b.toList
theorem leS_empty {a : ByteArray} (h : 1 ≤ a.size) : leS a ⟨#[]⟩ = false := by
  unfold leS
  have hne : a.data.toList ≠ [] := fun e => by rw [Lib.size_eq, e] at h; simp at h
  rw [Lib.toList_data, Lib.toList_data]
  cases ha : a.data.toList with
  | nil => exact absurd ha hne
  | cons c r => rfl
theorem file_one {s : ByteArray} (h : fileB s = true) : 1 ≤ s.size ∧ s.size ≤ 64 := fileB_size h

/-! ### a pod of version 1 -/
structure P1 where
  file : ByteArray
  name : ByteArray
  image : ByteArray
  r : Int
theorem P1.ext {p q : P1} (h1 : p.file = q.file) (h2 : p.name = q.name) (h3 : p.image = q.image) (h4 : p.r = q.r) : p = q := by
  cases p; cases q; simp_all
def P1.eqB (p q : P1) : Bool := decide (p.file = q.file) && (decide (p.name = q.name) && (decide (p.image = q.image) && decide (p.r = q.r)))
theorem P1.eqB_iff (p q : P1) : P1.eqB p q = true ↔ p = q := by
  unfold P1.eqB
  simp only [Bool.and_eq_true, decide_eq_true_eq]
  exact ⟨fun ⟨a, b, c, d⟩ => P1.ext a b c d, fun h => by subst h; exact ⟨rfl, rfl, rfl, rfl⟩⟩
def eqL : List P1 → List P1 → Bool
  | [], [] => true
  | p :: l, q :: m => P1.eqB p q && eqL l m
  | _, _ => false
theorem eqL_len : ∀ (a b : List P1), a.length ≠ b.length → eqL a b = false
  | [], [], h => absurd rfl h
  | [], _ :: _, _ => rfl
  | _ :: _, [], _ => rfl
  | x :: a, y :: b, h => by
    rw [eqL, eqL_len a b (fun e => h (by simp [e])), Bool.and_false]
theorem eqL_self : ∀ a : List P1, eqL a a = true
  | [] => rfl
  | p :: l => by rw [eqL, eqL_self l, (P1.eqB_iff p p).2 rfl]; rfl
theorem eqL_drop {a b : List P1} {k : Nat} (h : k < a.length) (h' : k < b.length) : eqL (a.drop k) (b.drop k) = (P1.eqB a[k] b[k] && eqL (a.drop (k + 1)) (b.drop (k + 1))) := by
  rw [List.drop_eq_getElem_cons h, List.drop_eq_getElem_cons h', eqL]
/-- What is wrong with a pod, behind one of that File. -/
def fE (p : P1) (ahead : ByteArray) : Int :=
  if fileB p.file = true ∧ nameB p.name.data.toList = true then
    (if imgB p.image.data.toList = true ∧ leS p.file ahead = false then (if 2 < p.r then 7 else 0) else 6)
  else 13
def chkF : ByteArray → List P1 → Int
  | _, [] => 0
  | a, p :: l => if fE p a = 0 then chkF p.file l else fE p a
def chk1 (l : List P1) : Int := if 1024 < l.length then 18 else chkF ⟨#[]⟩ l
/-- The File ahead of the k-th pod. -/
def aheadOf (l : List P1) (k : Nat) : ByteArray := if k = 0 then ⟨#[]⟩ else (l.map (·.file)).getD (k - 1) ⟨#[]⟩
theorem aheadOf_zero (l : List P1) : aheadOf l 0 = ⟨#[]⟩ := rfl
theorem aheadOf_succ (l : List P1) (k : Nat) (h : k < l.length) : aheadOf l (k + 1) = l[k].file := by
  unfold aheadOf
  rw [if_neg (by omega), Nat.add_sub_cancel, List.getD_eq_getElem?_getD, List.getElem?_map, List.getElem?_eq_getElem h]; rfl
theorem chkF_drop {l : List P1} {k : Nat} (h : k < l.length) (a : ByteArray) : chkF a (l.drop k) = if fE l[k] a = 0 then chkF l[k].file (l.drop (k + 1)) else fE l[k] a := by
  rw [List.drop_eq_getElem_cons h, chkF]
theorem fE_ok {p : P1} {a : ByteArray} (h : fE p a = 0) : fileB p.file = true ∧ nameB p.name.data.toList = true ∧ imgB p.image.data.toList = true ∧ p.r ≤ 2 := by
  unfold fE at h
  split at h
  · rename_i h1
    split at h
    · rename_i h2
      split at h
      · simp at h
      · exact ⟨h1.1, h1.2, h2.1, by omega⟩
    · simp at h
  · simp at h
theorem chkF_ok : ∀ (l : List P1) (a : ByteArray), chkF a l = 0 → ∀ p ∈ l, fileB p.file = true ∧ nameB p.name.data.toList = true ∧ imgB p.image.data.toList = true ∧ p.r ≤ 2
  | [], _, _, p, hp => by simp at hp
  | q :: l, a, h, p, hp => by
    rw [chkF] at h
    split at h
    · rename_i h0
      rcases List.mem_cons.1 hp with rfl | hp
      · exact fE_ok h0
      · exact chkF_ok l _ h p hp
    · rename_i h0
      exact absurd h h0
theorem nameB_len {l : List UInt8} (h : nameB l = true) : l.length ≤ 253 := by
  unfold nameB at h
  simp only [Bool.and_eq_true, decide_eq_true_eq] at h
  exact h.1.2
theorem imgB_len {l : List UInt8} (h : imgB l = true) : l.length ≤ 255 := by
  unfold imgB at h
  simp only [Bool.and_eq_true, decide_eq_true_eq] at h
  exact h.1.2
/-- Texts no greater than that, and a byte. -/
structure P1.Fit (b : Nat) (p : P1) : Prop where
  file : p.file.size ≤ b
  name : p.name.size ≤ b
  image : p.image.size ≤ b
  r0 : 0 ≤ p.r
  r1 : p.r ≤ 255
theorem P1.Fit.mono {b c : Nat} {p : P1} (h : p.Fit b) (hbc : b ≤ c) : p.Fit c := ⟨Nat.le_trans h.file hbc, Nat.le_trans h.name hbc, Nat.le_trans h.image hbc, h.r0, h.r1⟩
theorem chk_fit {l : List P1} (h : chk1 l = 0) (hr : ∀ p ∈ l, 0 ≤ p.r ∧ p.r ≤ 255) : l.length ≤ 1024 ∧ ∀ p ∈ l, p.Fit 255 := by
  unfold chk1 at h
  split at h
  · simp at h
  · refine ⟨by omega, fun p hp => ?_⟩
    obtain ⟨h1, h2, h3, h4⟩ := chkF_ok l _ h p hp
    have h2 := nameB_len h2
    have h3 := imgB_len h3
    have h1 := (file_one h1).2
    have := hr p hp
    refine ⟨by omega, ?_, ?_, this.1, this.2⟩
    · rw [Lib.size_eq]; omega
    · rw [Lib.size_eq]; omega

/-! ### bytes -/
def txtL (s : ByteArray) : List UInt8 := be 2 s.size ++ s.data.toList
def podL (p : P1) : List UInt8 := txtL p.file ++ (txtL p.name ++ (txtL p.image ++ be 1 p.r.toNat))
def enc1L (seq : Int) (l : List P1) : List UInt8 := be 4 seq.toNat ++ (be 2 l.length ++ l.flatMap podL)
theorem txtL_len (s : ByteArray) : (txtL s).length = 2 + s.size := by
  rw [txtL, List.length_append, be_length, ← Lib.size_eq]
theorem podL_len {p : P1} {b : Nat} (h : p.Fit b) : (podL p).length ≤ 7 + 3 * b := by
  simp only [podL, List.length_append, txtL_len, be_length]
  have := h.file; have := h.name; have := h.image
  omega
theorem flat_le {α : Type} (f : α → List UInt8) (b : Nat) (l : List α) (h : ∀ x ∈ l, (f x).length ≤ b) : (l.flatMap f).length ≤ l.length * b := by
  induction l with
  | nil => simp
  | cons x l ih =>
    have h1 := h x (by simp)
    have h2 := ih (fun y hy => h y (by simp [hy]))
    rw [List.flatMap_cons, List.length_append, List.length_cons, Nat.succ_mul]
    omega
theorem txt_tx (s : ByteArray) : beS 2 s.size ++ s = tx (txtL s) := by
  apply list_ext
  rw [app_list, tx_toList]; rfl
theorem beS_tx (n v : Nat) : beS n v = tx (be n v) := rfl
end Go.Proofs.YtldncgelghcjeaaGreatDoor.K
